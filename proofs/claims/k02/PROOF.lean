import PyProof.Rows.All
import Wide.All
import OpenK.AllK
import Wide.FinOn
import KE.KStateDown
import Lean
import HandS.ForMost
import HandS.Wide
import HandS.FStr
import HandS.IsInst
import HandS.Flow
import HandS.Style
import HandS.Zip
import HandS.Conv
import HandS.Defaults
import HandS.Walk
import HandS.More
import HandS.WordsExc
import HandS.Head0
import HandS.Head1
import HandS.Head2
import HandS.HeadEnd
import HandS.HeadHook1
import HandS.HeadHook2
import HandS.TupAny
import HandS.Hot
import HandS.Comp
import HandS.ExcCtx
import HandS.HotCalls
import HandS.TryMany
import HandS.ExcIs
import HandS.Lambda
import HandS.EndTab
import HandS.HeadHook3
import HandS.HeadHook4
import HandS.HeadWalk
import HandS.WideBits
import HandS.TryOnly
import HandS.ExcSuper
import HandS.ExcInit
import KE.KSuper
import HandS.ExcOwn
import HandS.CallSlots
import HandS.ExcField
import HandS.Codes
import PySem.Challenge.RW_fewmirrors_k02_numbers_reckoned
set_option Elab.async false
set_option linter.all false
set_option maxRecDepth 100000
set_option maxHeartbeats 4000000
namespace Fm
open PySem PySem.Spec PyProof.Rows L2
def CDivZ (_ j : Int) : Prop := j ≠ 0 ∧ j.natAbs.log2 < 9000
theorem op_fdivZ {X : Cx} : OpR X (binaryOp .FloorDiv) (rI CDivZ fun i j => .int (i.fdiv j)) := opI fun _ _ _ _ _ _ _ hc q => floordiv_int hc.1 q (.inl (PyProof.noPylong_of_log2 hc.2))
theorem divZ_small {i j : Int} (h : 0 < j) (h2 : j < 4294967296) : CDivZ i j := ⟨by omega, Nat.lt_of_lt_of_le (PySem.Flt.log2_lt_of (n := j.natAbs) (k := 32) (by decide) (by omega)) (by decide)⟩
theorem divZ_of {i j : Int} {b : Nat} (h : j ≠ 0) (hb : j.natAbs < 2 ^ b) (h0 : 0 < b) (h9 : b ≤ 9000) : CDivZ i j := ⟨h, Nat.lt_of_lt_of_le (PySem.Flt.log2_lt_of h0 hb) h9⟩
theorem fmod_pos (a : Int) {b : Int} (h : 0 < b) : a.fmod b = a % b := Int.fmod_eq_emod_of_nonneg a (by omega)
theorem fdiv_pos (a : Int) {b : Int} (h : 0 < b) : a.fdiv b = a / b := Int.fdiv_eq_ediv_of_nonneg a (by omega)
abbrev FnP (K : PySem.W.Frag) (x : Str) (st : Stmt) (f : Addr) (fd : FuncData) : Prop := FunD K x x (defArgs st) (defBody st) (defScope st) [] [] f fd
/-! ### steps of a reading -/
section
variable {K : PySem.W.Frag} {σ : L2.St} {H : Hp} {Q : VK} {ta tb tc te : TE} {t u : TS} {D : Ends} {g : TG} {i : Nat} {v x y : V} {c : TT} {r : R2} {cA cB : TT} {as : TA}
theorem w_var (h : σ[i]? = some (some v)) (q : Q v H) : tVar i σ H Q := ⟨v, h, q⟩
theorem w_c (q : Q v H) : tC v σ H Q := q
theorem w_seq (h : t { D with nx := u D } σ H) : tSeq t u D σ H := h
theorem w_next (h : D.nx σ H) : tNext D σ H := h
theorem w_asg (h : te σ H fun x H1 => g x σ H1 D.nx) : tAsg te g D σ H := h
theorem w_ret (h : te σ H D.rt) : tRet te D σ H := h
theorem w_drop (h : te σ H fun _ H1 => D.nx σ H1) : tDrop te D σ H := h
theorem w_ifs (h : c σ H fun b H1 => if b = true then t D σ H1 else u D σ H1) : tIfS c t u D σ H := h
theorem w_op (h : ta σ H fun x H1 => tb σ H1 fun y H2 => r x y H2 Q) : tOp r ta tb σ H Q := h
theorem w_un {r : V → Hp → VK → Prop} (h : ta σ H fun x H1 => r x H1 Q) : tUn r ta σ H Q := h
theorem w_name {R : L2.St → Hp → Prop} (h : R (σ.set i (some v)) H) : gName i v σ H R := h
theorem w_sub {to ti : TE} {ts : TSet} {R : L2.St → Hp → Prop} (h : to σ H fun o H1 => ti σ H1 fun i H2 => ts o i v H2 fun H3 => R σ H3) : gSub to ti ts v σ H R := h
theorem w_test {R : Bool → Hp → Prop} (h : te σ H fun x H' => ∃ k, x = .bl k ∧ R k H') : tTest te σ H R := h
theorem w_B {R : Bool → Hp → Prop} (h : te σ H fun x H' => ∃ k, x = .bl k ∧ R k H') : tB te σ H R := h
theorem w_exb {b : Bool} {R : Bool → Prop} (h : R b) : ∃ k, V.bl b = .bl k ∧ R k := ⟨b, rfl, h⟩
theorem w_and {R : Bool → Hp → Prop} (h : cA σ H fun c H1 => if c = true then cB σ H1 R else R false H1) : tAnd cA cB σ H R := h
theorem w_or {R : Bool → Hp → Prop} (h : cA σ H fun c H1 => if c = true then R true H1 else cB σ H1 R) : tOr cA cB σ H R := h
theorem w_not {R : Bool → Hp → Prop} (h : cA σ H fun c H1 => R (!c) H1) : tNot cA σ H R := h
theorem w_andV (h : ta σ H fun x H1 => ∃ c, x = .bl c ∧ if c = true then tb σ H1 Q else Q (.bl false) H1) : tAndV ta tb σ H Q := h
theorem w_orV (h : ta σ H fun x H1 => ∃ c, x = .bl c ∧ if c = true then Q (.bl true) H1 else tb σ H1 Q) : tOrV ta tb σ H Q := h
theorem w_notV (h : ta σ H fun x H1 => ∃ c, x = .bl c ∧ Q (.bl (!c)) H1) : tNotV ta σ H Q := h
theorem w_if (h : c σ H fun b H1 => if b = true then ta σ H1 Q else tb σ H1 Q) : tIf c ta tb σ H Q := h
theorem w_I0 {g : Int → Int → V} {a b : Int} (q : Q (g a b) H) : rI0 g (.int a) (.int b) H Q := ⟨a, b, rfl, rfl, q⟩
theorem w_I {C : Int → Int → Prop} {g : Int → Int → V} {a b : Int} (hc : C a b) (q : Q (g a b) H) : rI C g (.int a) (.int b) H Q := ⟨a, b, rfl, rfl, hc, q⟩
theorem w_U {g : Int → V} {a : Int} (q : Q (g a) H) : rU g (.int a) H Q := ⟨a, rfl, q⟩
theorem w_eqI {a b : Int} (q : Q (.bl (decide (a = b))) H) : rEq (.int a) (.int b) H Q := ⟨rfl, by
  have e : decide (V.int a = V.int b) = decide (a = b) := by
    by_cases h : a = b
    · rw [decide_eq_true h, decide_eq_true (by rw [h])]
    · rw [decide_eq_false h, decide_eq_false (fun z => h (V.int.inj z))]
  rw [e]
  exact q⟩
theorem w_neI {a b : Int} (q : Q (.bl (!decide (a = b))) H) : rNe (.int a) (.int b) H Q := ⟨rfl, by
  have e : decide (V.int a = V.int b) = decide (a = b) := by
    by_cases h : a = b
    · rw [decide_eq_true h, decide_eq_true (by rw [h])]
    · rw [decide_eq_false h, decide_eq_false (fun z => h (V.int.inj z))]
  rw [e]
  exact q⟩
theorem w_nil {R : List V → Hp → Prop} (h : R [] H) : tNil σ H R := h
theorem w_cons {R : List V → Hp → Prop} (h : ta σ H fun x H1 => as σ H1 fun xs H2 => R (x :: xs) H2) : tCons ta as σ H R := h
def NewO (o : HO) (H : Hp) (Q : VK) : Prop := ∀ p, H p = none → Q (.ref p) (upd H p o)
def NewS (mk : List V → HO) (xs : List V) (H : Hp) (Q : VK) : Prop := xs.length ≤ sizeLine ∧ NewO (mk xs) H Q
theorem w_tup (h : as σ H fun xs H1 => NewS .tup xs H1 Q) : tTup as σ H Q := h
theorem w_lst (h : as σ H fun xs H1 => NewS .lst xs H1 Q) : tLst as σ H Q := h
theorem w_for {wi : TI} {tb : TS} (hh : wi σ H fun it h1 => ∃ Inv : Nat → Nat → L2.St → Hp → Prop, (∃ left, Inv 0 left σ h1) ∧ ∀ turn left slots hp, Inv turn left slots hp →
    (it.stop turn hp ∧ D.nx slots hp) ∨ (it.go turn hp ∧ ∃ Nxt : L2.St → Hp → Prop, (∀ slots' hp', Nxt slots' hp' → ∃ left', left' < left ∧ Inv (turn + 1) left' slots' hp') ∧
      ∀ item hp', it.yld turn hp item hp' → g item slots hp' fun slots2 h2 => tb { D with nx := Nxt, ct := Nxt, bk := D.nx } slots2 h2)) : tFor wi g tb D σ H := hh
theorem w_rng1 {ta : TA} {R : It → Hp → Prop} (h : ta σ H fun vs H1 => ∃ j : Int, vs = [.int j] ∧ -(2 ^ 62) ≤ j ∧ j < 2 ^ 62 ∧ R (Itr 0 j.toNat) H1) : iRng1 ta σ H R := h
theorem same_upd {p : Addr} {o : HO} (h : H p = none) : Same H (upd H p o) := fun b x e => by
  rw [upd_ne (ne_of_none e h)]
  exact e
theorem w_new {mk : List V → HO} {xs : List V} (hz : xs.length ≤ 1000) (h : ∀ p H', H p = none → Same H H' → H' p = some (mk xs) → Q (.ref p) H') : NewS mk xs H Q := ⟨Nat.le_of_lt (small1000 hz), fun p hp => h p _ hp (same_upd hp) upd_same⟩
theorem w_newO {o : HO} (h : ∀ p H', H p = none → Same H H' → H' p = some o → Q (.ref p) H') : NewO o H Q := fun p hp => h p _ hp (same_upd hp) upd_same
theorem w_cb {r : List V → Hp → VK → Prop} (h : as σ H fun vs H1 => r vs H1 Q) : tCB r as σ H Q := h
theorem w_call {sp : Sp} {dvs : List V} {E : XK} (h : as σ H fun vs H1 => sp (vs ++ dvs) H1 Q E) : tCall sp dvs E as σ H Q := h
theorem w_ixL {p : Addr} {xs : List V} {i : Int} (h : H p = some (.lst xs)) (e : atI xs i = some v) (q : Q v H) : rIxL K (.ref p) (.int i) H Q := ⟨p, xs, i, v, rfl, rfl, SqL.of h, e, q⟩
theorem w_ixLs {p : Addr} {xs : List V} {i : Int} (h : SqL K H p xs) (e : atI xs i = some v) (q : Q v H) : rIxL K (.ref p) (.int i) H Q := ⟨p, xs, i, v, rfl, rfl, h, e, q⟩
theorem w_ixT {p : Addr} {xs : List V} {i : Int} (h : H p = some (.tup xs)) (e : atI xs i = some v) (q : Q v H) : rIxT K (.ref p) (.int i) H Q := ⟨p, xs, i, v, rfl, rfl, SqT.of h, e, q⟩
theorem w_setL {p : Addr} {xs : List V} {k : Int} {j : Nat} {R : Hp → Prop} (h : H p = some (.lst xs)) (e : ixN xs.length k = some j) (q : R (upd H p (.lst (xs.set j v)))) : rSetL (.ref p) (.int k) v H R := ⟨p, xs, k, j, rfl, rfl, h, e, q⟩
theorem w_par {i j : Nat} (h : as σ H fun vs H1 => ∃ v w, vs = [v, w] ∧ D.nx ((σ.set i (some v)).set j (some w)) H1) : tPar i j as D σ H := h
theorem w_ex2 {a b : V} {R : V → V → Prop} (h : R a b) : ∃ v w, [a, b] = [v, w] ∧ R v w := ⟨a, b, rfl, h⟩
theorem w_ite {p : Prop} [Decidable p] {A B : Prop} (h1 : p → A) (h2 : ¬ p → B) : if decide p = true then A else B := by
  by_cases h : p
  · rw [decide_eq_true h]; exact h1 h
  · rw [decide_eq_false h]; exact h2 h
theorem w_iteN {p : Prop} [Decidable p] {A B : Prop} (h1 : ¬ p → A) (h2 : p → B) : if (!decide p) = true then A else B := by
  by_cases h : p
  · rw [decide_eq_true h]; exact h2 h
  · rw [decide_eq_false h]; exact h1 h
theorem w_t {A B : Prop} (h : A) : if true = true then A else B := h
theorem w_f {A B : Prop} (h : B) : if false = true then A else B := h
end
section
variable {K : PySem.W.Frag} {σ : L2.St} {H : Hp} {Q : VK} {te : TE} {g : TG} {tt : TT} {vs : List Nat}
theorem w_lc {wi : TI} (hh : wi σ H fun it h1 => ∀ new, h1 new = none → ∃ Inv : Nat → Nat → Hp → Prop, (∃ left, Inv 0 left (upd h1 new (.lst []))) ∧ ∀ turn left hp, Inv turn left hp →
    (it.stop turn hp ∧ Q (.ref new) hp) ∨ (it.go turn hp ∧ ∃ Nxt : Hp → Prop, (∀ hp', Nxt hp' → ∃ left', left' < left ∧ Inv (turn + 1) left' hp') ∧
      ∀ item hp', it.yld turn hp item hp' → g item (wipe σ vs) hp' fun slots h2 => wipe slots vs = wipe σ vs ∧ tt slots h2 fun kept h3 =>
        if kept = true then te slots h3 fun made h4 => ∃ sofar, h4 new = some (.lst sofar) ∧ sofar.length < sizeLine ∧ Nxt (upd h4 new (.lst (sofar ++ [made]))) else Nxt h3)) : tLc wi g tt te vs σ H Q := hh
theorem w_yes {R : Bool → Hp → Prop} (h : R true H) : tYes σ H R := h
theorem w_zipA {ta : TA} {R : It → Hp → Prop} (h : ta σ H fun vs H1 => ∃ a b xs ys, vs = [.ref a, .ref b] ∧ ((SqL K H1 a xs ∧ SqL K H1 b ys ∧ R (Itz K a b) H1) ∨ (SqT K H1 a xs ∧ SqT K H1 b ys ∧ R (RZ.ItzT K a b) H1))) : RZ.iZipA K ta σ H R := h
theorem w_itup {tl : TE} {R : It → Hp → Prop} (h : tl σ H fun x H1 => ∃ a, x = .ref a ∧ (∃ xs, SqT K H1 a xs) ∧ R (Itt K a) H1) : iTup K tl σ H R := h
theorem w_ilist {tl : TE} {R : It → Hp → Prop} (h : tl σ H fun x H1 => ∃ a, x = .ref a ∧ (∃ xs, SqL K H1 a xs) ∧ R (Itl K a) H1) : iList K tl σ H R := h
theorem w_gtup {n : Nat} {t : TGs} {a : Addr} {xs : List V} {R : L2.St → Hp → Prop} (h : H a = some (.tup xs)) (hn : xs.length = n) (q : t xs σ H R) : gTup K n t (.ref a) σ H R := ⟨a, xs, rfl, SqT.of h, hn, q⟩
theorem w_gcons {t : TG} {u : TGs} {v : V} {r : List V} {R : L2.St → Hp → Prop} (h : t v σ H fun σ' H' => u r σ' H' R) : gCons t u (v :: r) σ H R := ⟨v, r, rfl, h⟩
theorem w_gnil {R : L2.St → Hp → Prop} (h : R σ H) : gNil [] σ H R := ⟨rfl, h⟩
end
theorem walk_zipT {K : PySem.W.Frag} {a b : Addr} {xs ys : List V} {n : Nat} (hn : n = min xs.length ys.length) : Walk (RZ.ItzT K a b) n (fun H => SqT K H a xs ∧ SqT K H b ys) (YPair (fun i => xs[i]?) (fun i => ys[i]?)) where
  goes := fun turn hp ht both => by
    have lx : turn < xs.length := by omega
    have ly : turn < ys.length := by omega
    exact ⟨xs, ys, _, _, both.1, both.2, List.getElem?_eq_getElem lx, List.getElem?_eq_getElem ly⟩
  stops := fun hp both => ⟨xs, ys, both.1, both.2, by omega⟩
  yields := fun turn hp v hp' ht both got => by
    obtain ⟨pair, one, two, e1, e2, e3, f1, f2⟩ := got
    exact ⟨pair, one, two, e1, e2, e3, f1 _ both.1, f2 _ both.2⟩
section
variable {H : Hp} {Q : VK}
theorem w_e1 {a : Int} {R : Int → Prop} (h : R a) : ∃ i, [V.int a] = [V.int i] ∧ R i := ⟨a, rfl, h⟩
theorem w_e2 {a b : Int} {R : Int → Int → Prop} (h : R a b) : ∃ i j, [V.int a, V.int b] = [V.int i, V.int j] ∧ R i j := ⟨a, b, rfl, h⟩
theorem w_Iv {C : Int → Int → Prop} {g : Int → Int → V} {a b : Int} {z : V} (hc : C a b) (e : g a b = z) (q : Q z H) : rI C g (.int a) (.int b) H Q := ⟨a, b, rfl, rfl, hc, by
  rw [e]
  exact q⟩
end
/-! ### heaps -/
def Mv (b : Addr) (H H' : Hp) : Prop := ∀ p o, p ≠ b → H p = some o → H' p = some o
def Kt (H H' : Hp) : Prop := ∀ p xs, H p = some (.tup xs) → H' p = some (.tup xs)
theorem Kt.refl (H : Hp) : Kt H H := fun _ _ h => h
theorem Kt.trans {H H1 H2 : Hp} (a : Kt H H1) (b : Kt H1 H2) : Kt H H2 := fun p xs h => b p xs (a p xs h)
theorem Kt.of {H H' : Hp} (s : Same H H') : Kt H H' := fun p xs h => s p _ h
theorem Mv.refl (b : Addr) (H : Hp) : Mv b H H := fun _ _ _ h => h
theorem Mv.trans {b : Addr} {H H1 H2 : Hp} (m1 : Mv b H H1) (m2 : Mv b H1 H2) : Mv b H H2 := fun p o n h => m2 p o n (m1 p o n h)
theorem Mv.same {b : Addr} {H H1 : Hp} (s : Same H H1) : Mv b H H1 := fun p o _ h => s p o h
theorem Mv.upd {b : Addr} {H : Hp} {o : HO} : Mv b H (upd H b o) := fun p u n h => by
  rw [upd_ne n]
  exact h
def Bag (H : Hp) (b : Addr) : Prop := ∃ A B : Int, H b = some (.lst [.int A, .int B]) ∧ 0 ≤ A ∧ 0 ≤ B ∧ B < 2147483647
theorem Mv.kt {b : Addr} {H H' : Hp} (m : Mv b H H') (hb : Bag H b) : Kt H H' := fun p xs h => m p _ (fun e => by
  subst e
  obtain ⟨A, B, h2, _⟩ := hb
  rw [h] at h2
  cases h2) h
theorem Bag.same {b : Addr} {H H' : Hp} (hb : Bag H b) (s : Same H H') : Bag H' b := by
  obtain ⟨A, B, h, r⟩ := hb
  exact ⟨A, B, s _ _ h, r⟩
/-- a number: a tuple of two whole numbers, of less than k bits, the second not 0 -/
def NumB (H : Hp) (v : V) (k : Nat) : Prop := ∃ (p : Addr) (x y : Int), v = .ref p ∧ H p = some (.tup [.int x, .int y]) ∧ x.natAbs < 2 ^ k ∧ y.natAbs < 2 ^ k ∧ y ≠ 0
theorem NumB.kt {H H' : Hp} {v : V} {k : Nat} (h : NumB H v k) (s : Kt H H') : NumB H' v k := by
  obtain ⟨p, x, y, e, hp, r⟩ := h
  exact ⟨p, x, y, e, s _ _ hp, r⟩
theorem NumB.mono {H : Hp} {v : V} {k l : Nat} (h : NumB H v k) (hl : k ≤ l) : NumB H v l := by
  obtain ⟨p, x, y, e, hp, h1, h2, h3⟩ := h
  exact ⟨p, x, y, e, hp, Nat.lt_of_lt_of_le h1 (Nat.pow_le_pow_right (by decide) hl), Nat.lt_of_lt_of_le h2 (Nat.pow_le_pow_right (by decide) hl), h3⟩
theorem Kt.updL {H : Hp} {D : Addr} {xs : List V} {o : HO} (h : H D = some (.lst xs)) : Kt H (upd H D o) := fun p ys hp => by
  have n : p ≠ D := fun e => by
    subst e
    rw [h] at hp
    cases hp
  rw [upd_ne n]
  exact hp
theorem bag_ne {H : Hp} {b p : Addr} (hb : Bag H b) (hp : H p = none) : p ≠ b := fun e => by
  subst e
  obtain ⟨A, B, h2, _⟩ := hb
  rw [hp] at h2
  cases h2
theorem Bag.upd {H : Hp} {b D : Addr} {o : HO} (hb : Bag H b) (n : D ≠ b) : Bag (upd H D o) b := by
  obtain ⟨A, B, h, r⟩ := hb
  exact ⟨A, B, (upd_ne n.symm).trans h, r⟩
theorem Mv.updD {b D : Addr} {H H' : Hp} {o : HO} (m : Mv b H H') (hD : H D = none) : Mv b H (L2.upd H' D o) := fun p u n h => by
  rw [upd_ne (ne_of_none h hD)]
  exact m p u n h
theorem Same.updD {D : Addr} {H H' : Hp} {o : HO} (m : Same H H') (hD : H D = none) : Same H (L2.upd H' D o) := fun p u h => by
  rw [upd_ne (ne_of_none h hD)]
  exact m p u h
/-- a row of n numbers -/
def RowB (H : Hp) (v : V) (n k : Nat) : Prop := ∃ (p : Addr) (xs : List V), v = .ref p ∧ H p = some (.tup xs) ∧ xs.length = n ∧ ∀ x ∈ xs, NumB H x k
theorem RowB.kt {H H' : Hp} {v : V} {n k : Nat} (h : RowB H v n k) (s : Kt H H') : RowB H' v n k := by
  obtain ⟨p, xs, e, hp, hl, r⟩ := h
  exact ⟨p, xs, e, s _ _ hp, hl, fun x hx => (r x hx).kt s⟩
theorem RowB.mono {H : Hp} {v : V} {n k l : Nat} (h : RowB H v n k) (hl : k ≤ l) : RowB H v n l := by
  obtain ⟨p, xs, e, hp, hn, r⟩ := h
  exact ⟨p, xs, e, hp, hn, fun x hx => (r x hx).mono hl⟩
/-- a table -/
def TabB (H : Hp) (v : V) (m n k : Nat) : Prop := ∃ (p : Addr) (xs : List V), v = .ref p ∧ H p = some (.tup xs) ∧ xs.length = m ∧ ∀ x ∈ xs, RowB H x n k
theorem TabB.kt {H H' : Hp} {v : V} {m n k : Nat} (h : TabB H v m n k) (s : Kt H H') : TabB H' v m n k := by
  obtain ⟨p, xs, e, hp, hl, r⟩ := h
  exact ⟨p, xs, e, s _ _ hp, hl, fun x hx => (r x hx).kt s⟩
/-! ### the number of two whole numbers -/
def lowI (g u d : Int) : Option Nat := if 0 < g then (List.range g.toNat).find? (fun i => decide (((i : Int) * d).fmod g = u.fmod g)) else none
def lowC (u d : Int) : Int := (Int.gcd u d : Int) * (if d < 0 then -1 else 1)
def lowF (g u d : Int) : Int × Int := match lowI g u d with
  | some i => ((i : Int), 1)
  | none => (u.fdiv (lowC u d), d.fdiv (lowC u d))
theorem lowC_ne {u d : Int} (h : d ≠ 0) : lowC u d ≠ 0 := by
  have h1 : Int.gcd u d ≠ 0 := fun z => h (Int.gcd_eq_zero_iff.mp z).2
  unfold lowC
  split <;> omega
theorem lowC_dvd {u d : Int} : (∃ q, u = lowC u d * q) ∧ ∃ q, d = lowC u d * q := by
  obtain ⟨q1, e1⟩ := Int.gcd_dvd_left u d
  obtain ⟨q2, e2⟩ := Int.gcd_dvd_right u d
  unfold lowC
  split
  · refine ⟨⟨-q1, ?_⟩, ⟨-q2, ?_⟩⟩
    · rw [Int.mul_assoc, Int.neg_mul_neg, Int.one_mul]; exact e1
    · rw [Int.mul_assoc, Int.neg_mul_neg, Int.one_mul]; exact e2
  · refine ⟨⟨q1, ?_⟩, ⟨q2, ?_⟩⟩
    · rw [Int.mul_one]; exact e1
    · rw [Int.mul_one]; exact e2
theorem natAbs_fac {c q : Int} (h : c ≠ 0) : q.natAbs ≤ (c * q).natAbs := by
  rw [Int.natAbs_mul]
  have : 1 ≤ c.natAbs := by omega
  exact Nat.le_mul_of_pos_left _ this
theorem lowC_le {u d : Int} (h : d ≠ 0) : (lowC u d).natAbs ≤ d.natAbs := by
  obtain ⟨_, q, e⟩ := lowC_dvd (u := u) (d := d)
  have hq : q ≠ 0 := fun z => h (by rw [e, z, Int.mul_zero])
  have : (lowC u d).natAbs ≤ (lowC u d * q).natAbs := by
    rw [Int.mul_comm]; exact natAbs_fac hq
  rw [← e] at this
  exact this
theorem low_bd {g u d : Int} {k : Nat} (hg : g ≤ 13) (hd : d ≠ 0) (hk : 4 ≤ k) (h1 : u.natAbs < 2 ^ k) (h2 : d.natAbs < 2 ^ k) : (lowF g u d).1.natAbs < 2 ^ k ∧ (lowF g u d).2.natAbs < 2 ^ k ∧ (lowF g u d).2 ≠ 0 := by
  have hk16 : 16 ≤ 2 ^ k := Nat.le_trans (by decide : 16 ≤ 2 ^ 4) (Nat.pow_le_pow_right (by decide) hk)
  unfold lowF
  cases e : lowI g u d with
  | some i =>
    have hi : i < 13 := by
      unfold lowI at e
      split at e
      · have := List.mem_of_find?_eq_some e
        have := List.mem_range.mp this
        omega
      · cases e
    refine ⟨?_, ?_, fun z => absurd (show (1 : Int) = 0 from z) (by decide)⟩
    · show ((i : Int)).natAbs < 2 ^ k
      omega
    · show (1 : Int).natAbs < 2 ^ k
      omega
  | none =>
    have hc := lowC_ne (u := u) hd
    obtain ⟨⟨q1, e1⟩, q2, e2⟩ := lowC_dvd (u := u) (d := d)
    have f1 : u.fdiv (lowC u d) = q1 := by
      conv => lhs; lhs; rw [e1]
      exact Int.mul_fdiv_cancel_left _ hc
    have f2 : d.fdiv (lowC u d) = q2 := by
      conv => lhs; lhs; rw [e2]
      exact Int.mul_fdiv_cancel_left _ hc
    show (u.fdiv (lowC u d)).natAbs < 2 ^ k ∧ (d.fdiv (lowC u d)).natAbs < 2 ^ k ∧ d.fdiv (lowC u d) ≠ 0
    rw [f1, f2]
    refine ⟨Nat.lt_of_le_of_lt ?_ h1, Nat.lt_of_le_of_lt ?_ h2, fun z => hd ?_⟩
    · have := natAbs_fac (q := q1) hc
      rw [← e1] at this
      exact this
    · have := natAbs_fac (q := q2) hc
      rw [← e2] at this
      exact this
    · rw [e2, z, Int.mul_zero]
end Fm

namespace Fm
open PySem PySem.Spec PyProof.Rows L2
theorem w_js {t : TE} {ts : List TE} {acc : Str} {σ : L2.St} {H : Hp} {R : Str → Hp → Prop} (h : t σ H fun x H1 => ∃ y : Str, x = .str y ∧ (acc ++ y).length ≤ sizeLine ∧ tJs ts (acc ++ y) σ H1 R) : tJs (t :: ts) acc σ H R := h
theorem w_js0 {acc : Str} {σ : L2.St} {H : Hp} {R : Str → Hp → Prop} (h : R acc H) : tJs [] acc σ H R := h
theorem w_fmt {te : TE} {σ : L2.St} {H : Hp} {Q : VK} (h : te σ H fun x H1 => (∃ y : Str, x = .str y ∧ y.length ≤ sizeLine ∧ Q (.str y) H1) ∨ ∃ i : Int, x = .int i ∧ i.natAbs.log2 < 1920 ∧ Q (.str (toString i)) H1) : tFmt te σ H Q := h
theorem w_rep {H : Hp} {Q : VK} {l : Addr} {k : Int} {xs : List V} (h : H l = some (.lst xs)) (h0 : 0 ≤ k) (h1 : k ≤ 100) (hx : xs.length ≤ 100) (q : NewO (.lst (List.replicate k.toNat xs).flatten) H Q) : rRep (.ref l) (.int k) H Q := by
  refine ⟨l, k, xs, rfl, rfl, h, by omega, by omega, ?_, q⟩
  have e : xs.length * k.toNat ≤ 100 * 100 := Nat.mul_le_mul hx (by omega)
  exact Nat.le_trans e (by decide)
theorem w_iteN' {p : Prop} [Decidable p] {A B : Prop} (h : B) (hn : ¬ p) : if decide p = true then A else B := by
  rw [decide_eq_false hn]
  exact h
theorem w_bm {K : PySem.W.Frag} {T : String} {r : V → List V → Hp → VK → Prop} {to : TE} {t : TA} {σ : L2.St} {H : Hp} {Q : VK} (h : to σ H fun x H1 => tyV K T x H1 ∧ t σ H1 fun xs H2 => r x xs H2 Q) : tBM K T r to t σ H Q := h
theorem w_append {H : Hp} {Q : VK} {l : Addr} {xs : List V} {y : V} (h : H l = some (.lst xs)) (hz : xs.length ≤ 1000) (q : Q .non (upd H l (.lst (xs ++ [y])))) : rAppend (.ref l) [y] H Q := ⟨l, xs, y, rfl, rfl, h, small1000 hz, q⟩
theorem w_cat {H : Hp} {Q : VK} {l b : Addr} {xs zs : List V} (h : H l = some (.lst xs)) (h2 : H b = some (.lst zs)) (hz : xs.length + zs.length ≤ 1000) (q : NewO (.lst (xs ++ zs)) H Q) : rCat (.ref l) (.ref b) H Q := ⟨l, b, xs, zs, rfl, rfl, h, h2, Nat.le_of_lt (small1000 hz), q⟩
theorem w_revL {K : PySem.W.Frag} {te : TE} {σ : L2.St} {H : Hp} {Q : VK} (h : te σ H fun x H1 => ∃ a xs, x = .ref a ∧ SqL K H1 a xs ∧ NewO (.lst xs.reverse) H1 Q) : tRevL K te σ H Q := h
theorem w_tupOf {K : PySem.W.Frag} {H : Hp} {Q : VK} {p : Addr} {ys : List V} (h : H p = some (.lst ys)) (q : NewO (.tup ys) H Q) : ∃ p' ys', [V.ref p] = [V.ref p'] ∧ ((SqL K H p' ys' ∧ ∀ l, H l = none → Q (.ref l) (upd H l (.tup ys'))) ∨ (SqT K H p' ys' ∧ Q (.ref p') H)) := ⟨p, ys, rfl, .inl ⟨SqL.of h, q⟩⟩
theorem Same.mv {b : Addr} {H0 H H' : Hp} (s : Same H0 H) (hb : H0 b = none) (m : Mv b H H') : Same H0 H' := fun p o h => m p o (ne_of_none h hb) (s p o h)
theorem Same.upd {b : Addr} {H0 H : Hp} {o : HO} (s : Same H0 H) (hb : H0 b = none) : Same H0 (upd H b o) := fun p u h => by
  rw [upd_ne (ne_of_none h hb)]
  exact s p u h
/-! ### data of any depth -/
def Dat (K : PySem.W.Frag) (H : Hp) (v : V) (n : Nat) : Prop := ∃ d, Dp K H v d ∧ d.canLay0 = true ∧ d.depth ≤ n
theorem dat_all {K : PySem.W.Frag} {H : Hp} {n : Nat} : ∀ {xs : List V}, (∀ x ∈ xs, Dat K H x n) → ∃ ds, DpAll K H xs ds ∧ PyData.canLayAll0 ds = true ∧ PyData.depthAll ds ≤ n ∧ ds.length = xs.length
  | [], _ => ⟨[], .nil, by simp [PyData.canLayAll0], by simp [PyData.depthAll], rfl⟩
  | x :: xs, h => by
    obtain ⟨d, h1, h2, h3⟩ := h x (List.mem_cons_self ..)
    obtain ⟨ds, g1, g2, g3, g4⟩ := dat_all (xs := xs) fun y hy => h y (List.mem_cons_of_mem _ hy)
    refine ⟨d :: ds, .cons h1 g1, ?_, ?_, by rw [List.length_cons, List.length_cons, g4]⟩
    · rw [PyData.canLayAll0, h2, g2]; rfl
    · rw [PyData.depthAll]; omega
theorem dat_int {K : PySem.W.Frag} {H : Hp} {i : Int} : Dat K H (.int i) 0 := ⟨.int i, .int i, by simp [PyData.canLay0], by simp [PyData.depth]⟩
theorem dat_tup {K : PySem.W.Frag} {H : Hp} {p : Addr} {xs : List V} {n : Nat} (h : H p = some (.tup xs)) (hx : ∀ x ∈ xs, Dat K H x n) : Dat K H (.ref p) (n + 1) := by
  obtain ⟨ds, g1, g2, g3, g4⟩ := dat_all hx
  exact ⟨.tuple ds, .tup (SqT.of h) g1, by rw [PyData.canLay0]; exact g2, by rw [PyData.depth]; omega⟩
theorem dat_lst {K : PySem.W.Frag} {H : Hp} {p : Addr} {xs : List V} {n : Nat} (h : H p = some (.lst xs)) (hx : ∀ x ∈ xs, Dat K H x n) : Dat K H (.ref p) (n + 1) := by
  obtain ⟨ds, g1, g2, g3, g4⟩ := dat_all hx
  exact ⟨.list ds, .lst (SqL.of h) g1, by rw [PyData.canLay0]; exact g2, by rw [PyData.depth]; omega⟩
theorem NumB.dat {K : PySem.W.Frag} {H : Hp} {v : V} {k : Nat} (h : NumB H v k) : Dat K H v 1 := by
  obtain ⟨p, x, y, rfl, hp, _⟩ := h
  refine dat_tup hp fun z hz => ?_
  rcases List.mem_cons.mp hz with rfl | hz
  · exact dat_int
  · rw [List.mem_singleton.mp hz]; exact dat_int
theorem RowB.dat {K : PySem.W.Frag} {H : Hp} {v : V} {n k : Nat} (h : RowB H v n k) : Dat K H v 2 := by
  obtain ⟨p, xs, rfl, hp, _, hx⟩ := h
  exact dat_tup hp fun z hz => (hx z hz).dat
theorem shaped_of {d : PyData} (h : d.canLay0 = true) (h2 : d.depth ≤ 64) : SeqAt.shaped d = true := by
  show (d.canLay0 && decide (d.depth ≤ 64)) = true
  rw [h, decide_eq_true h2]
  rfl
theorem w_neNil {K : PySem.W.Frag} {H : Hp} {Q : VK} {p r : Addr} {xs : List V} {n : Nat} (h : H p = some (.lst xs)) (h2 : H r = some (.lst [])) (hx : ∀ x ∈ xs, Dat K H x n) (hn : n ≤ 60) (q : Q (.bl (!decide (xs = []))) H) : rNeD K (.ref p) (.ref r) H Q := by
  obtain ⟨ds, g1, g2, g3, g4⟩ := dat_all hx
  refine ⟨.list ds, .list [], .lst (SqL.of h) g1, .lst (SqL.of h2) .nil, shaped_of (by rw [PyData.canLay0]; exact g2) (by rw [PyData.depth]; omega), shaped_of (by simp [PyData.canLay0, PyData.canLayAll0]) (by simp [PyData.depth, PyData.depthAll]), ?_⟩
  have e : PyData.eqv (.list ds) (.list []) = decide (xs = []) := by
    rw [PyData.eqv]
    cases xs with
    | nil =>
      have : ds = [] := List.length_eq_zero_iff.mp g4
      rw [this, decide_eq_true rfl]; rw [PyData.eqvAll]
    | cons x r =>
      cases ds with
      | nil => cases g4
      | cons d ds => rw [decide_eq_false (by simp)]; rw [PyData.eqvAll]
  rw [e]
  exact q
/-! ### texts -/
def TxtOk (z : Str) (n : Nat) : Prop := z.length ≤ n ∧ PyData.strOk z = true
theorem ok_str (s : String) : PyData.strOk (Str.ofString s) = true := by
  rw [Str.ofString_eq_toList]
  unfold PyData.strOk
  rw [Array.all_eq_true]
  intro i hi
  simp only [List.getElem_toArray, List.getElem_map, decide_eq_true_eq]
  have h := (s.toList[i]'(by simpa using hi)).valid
  simp only [Char.toNat]
  generalize (s.toList[i]'(by simpa using hi)).val = c at h
  rcases h with h | h
  · have : c.toNat < 55296 := h
    omega
  · exact h.2
theorem ok_int {i : Int} (h : i.natAbs.log2 < 1920) : TxtOk (Str.ofString (toString i)) 1921 := ⟨int_text_len_1921 h, ok_str _⟩
theorem ok_app {a b : Str} {n m : Nat} (h1 : TxtOk a n) (h2 : TxtOk b m) : TxtOk (a ++ b) (n + m) := by
  refine ⟨?_, ?_⟩
  · rw [Str.length_append]; exact Nat.add_le_add h1.1 h2.1
  · have e1 := h1.2
    have e2 := h2.2
    unfold PyData.strOk at e1 e2 ⊢
    rw [Str.cps_append, Array.all_append, e1, e2]
    rfl
theorem TxtOk.mono {a : Str} {n m : Nat} (h : TxtOk a n) (hl : n ≤ m) : TxtOk a m := ⟨Nat.le_trans h.1 hl, h.2⟩
theorem ok_empty : TxtOk Str.empty 0 := ⟨Nat.le_refl _, by decide +kernel⟩
theorem ok_join {sep : Str} {n m : Nat} (hs : TxtOk sep m) : ∀ {ys : List Str}, (∀ y ∈ ys, TxtOk y n) → TxtOk (Str.join sep ys) (ys.length * (n + m))
  | [], _ => ok_empty.mono (Nat.zero_le _)
  | [x], h => by
    refine (h x (List.mem_singleton_self x)).mono ?_
    show n ≤ 1 * (n + m)
    omega
  | x :: y :: r, h => by
    have h1 := h x (List.mem_cons_self ..)
    have h2 := ok_join hs (ys := y :: r) fun z hz => h z (List.mem_cons_of_mem _ hz)
    have h3 := ok_app (ok_app h1 hs) h2
    refine TxtOk.mono h3 ?_
    have e : (x :: y :: r).length * (n + m) = (y :: r).length * (n + m) + (n + m) := by rw [List.length_cons, Nat.succ_mul]
    omega
theorem sum_le {n : Nat} : ∀ {ys : List Str}, (∀ y ∈ ys, TxtOk y n) → (ys.map (·.length)).sum ≤ ys.length * n
  | [], _ => Nat.zero_le _
  | y :: r, h => by
    have h1 := (h y (List.mem_cons_self ..)).1
    have h2 := sum_le (ys := r) fun z hz => h z (List.mem_cons_of_mem _ hz)
    rw [List.map_cons, List.sum_cons, List.length_cons, Nat.succ_mul]
    omega
/-- a number's text -/
def numT (a : Int × Int) : Str := if a.2 = 1 then Str.ofString (toString a.1) else Str.ofString (toString a.1) ++ ("/" : Str) ++ Str.ofString (toString a.2)
def Sm (a : Int × Int) : Prop := a.1.natAbs.log2 < 1920 ∧ a.2.natAbs.log2 < 1920
theorem numT_ok {a : Int × Int} (h : Sm a) : TxtOk (numT a) 3900 := by
  unfold numT
  split
  · exact (ok_int h.1).mono (by decide)
  · exact (ok_app (ok_app (ok_int h.1) ⟨(by decide : ("/" : Str).length ≤ 1), by decide +kernel⟩) (ok_int h.2)).mono (by decide)
def rowT (r : List (Int × Int)) : Str := Txt.join (" " : Str) (r.map numT)
theorem rowT_ok {r : List (Int × Int)} (h : ∀ a ∈ r, Sm a) (hl : r.length ≤ 10) : TxtOk (rowT r) 40000 := by
  unfold rowT
  rw [TL.join_eq]
  refine (ok_join (n := 3900) (m := 1) ⟨by decide, by decide +kernel⟩ fun y hy => ?_).mono ?_
  · obtain ⟨a, ha, rfl⟩ := List.mem_map.mp hy
    exact numT_ok (h a ha)
  · rw [List.length_map]
    omega
def tabT (t : List (List (Int × Int))) : Str := Txt.join (" / " : Str) (t.map rowT)
theorem tabT_ok {t : List (List (Int × Int))} (h : ∀ r ∈ t, (∀ a ∈ r, Sm a) ∧ r.length ≤ 10) (hl : t.length ≤ 10) : TxtOk (tabT t) 500000 := by
  unfold tabT
  rw [TL.join_eq]
  refine (ok_join (n := 40000) (m := 3) ⟨by decide, by decide +kernel⟩ fun y hy => ?_).mono ?_
  · obtain ⟨a, ha, rfl⟩ := List.mem_map.mp hy
    exact rowT_ok (h a ha).1 (h a ha).2
  · rw [List.length_map]
    omega
/-! ### numbers, rows, tables by their values -/
def NumV (H : Hp) (v : V) (a : Int × Int) : Prop := ∃ p, v = .ref p ∧ H p = some (.tup [.int a.1, .int a.2])
def SqV {α : Type} (P : Hp → V → α → Prop) (H : Hp) (v : V) (as : List α) : Prop := ∃ p xs, v = .ref p ∧ H p = some (.tup xs) ∧ xs.length = as.length ∧ ∀ (i : Nat) (x : V) (a : α), xs[i]? = some x → as[i]? = some a → P H x a
abbrev RowV := SqV NumV
abbrev TabV := SqV RowV
theorem NumV.kt {H H' : Hp} {v : V} {a : Int × Int} (h : NumV H v a) (s : Kt H H') : NumV H' v a := by
  obtain ⟨p, e, hp⟩ := h
  exact ⟨p, e, s _ _ hp⟩
theorem RowV.kt {H H' : Hp} {v : V} {a : List (Int × Int)} (h : RowV H v a) (s : Kt H H') : RowV H' v a := by
  obtain ⟨p, xs, e, hp, hl, hx⟩ := h
  exact ⟨p, xs, e, s _ _ hp, hl, fun i x b h1 h2 => (hx i x b h1 h2).kt s⟩
theorem TabV.kt {H H' : Hp} {v : V} {a : List (List (Int × Int))} (h : TabV H v a) (s : Kt H H') : TabV H' v a := by
  obtain ⟨p, xs, e, hp, hl, hx⟩ := h
  exact ⟨p, xs, e, s _ _ hp, hl, fun i x b h1 h2 => RowV.kt (hx i x b h1 h2) s⟩
theorem sm_of {x : Int} {k : Nat} (h : x.natAbs < 2 ^ k) (hk : 0 < k) (hk2 : k ≤ 1000) : x.natAbs.log2 < 1920 := Nat.lt_of_lt_of_le (PySem.Flt.log2_lt_of hk h) (by omega)
theorem NumB.val {H : Hp} {v : V} {k : Nat} (h : NumB H v k) (hk : 0 < k) (hk2 : k ≤ 1000) : ∃ a, NumV H v a ∧ Sm a := by
  obtain ⟨p, x, y, e, hp, h1, h2, _⟩ := h
  exact ⟨(x, y), ⟨p, e, hp⟩, sm_of h1 hk hk2, sm_of h2 hk hk2⟩
theorem sq_val {α : Type} {P : Hp → V → α → Prop} {S : α → Prop} {H : Hp} : ∀ {xs : List V}, (∀ x ∈ xs, ∃ a, P H x a ∧ S a) → ∃ as : List α, xs.length = as.length ∧ (∀ a ∈ as, S a) ∧ ∀ (i : Nat) (x : V) (a : α), xs[i]? = some x → as[i]? = some a → P H x a
  | [], _ => ⟨[], rfl, (fun a ha => by cases ha), fun i x a h _ => by simp at h⟩
  | x :: xs, h => by
    obtain ⟨a, h1, h2⟩ := h x (List.mem_cons_self ..)
    obtain ⟨as, g1, g2, g3⟩ := sq_val (xs := xs) fun y hy => h y (List.mem_cons_of_mem _ hy)
    refine ⟨a :: as, by rw [List.length_cons, List.length_cons, g1], fun b hb => ?_, fun i y b e1 e2 => ?_⟩
    · rcases List.mem_cons.mp hb with rfl | hb
      · exact h2
      · exact g2 b hb
    · cases i with
      | zero =>
        cases Option.some.inj e1
        cases Option.some.inj e2
        exact h1
      | succ i => exact g3 i y b e1 e2
theorem RowB.val {H : Hp} {v : V} {n k : Nat} (h : RowB H v n k) (hk : 0 < k) (hk2 : k ≤ 1000) : ∃ r, RowV H v r ∧ r.length = n ∧ ∀ a ∈ r, Sm a := by
  obtain ⟨p, xs, e, hp, hl, hx⟩ := h
  obtain ⟨as, g1, g2, g3⟩ := sq_val (P := NumV) (S := Sm) (H := H) (xs := xs) fun x hx' => (hx x hx').val hk hk2
  exact ⟨as, ⟨p, xs, e, hp, g1, g3⟩, by omega, g2⟩
theorem TabB.val {H : Hp} {v : V} {m n k : Nat} (h : TabB H v m n k) (hk : 0 < k) (hk2 : k ≤ 1000) : ∃ t, TabV H v t ∧ t.length = m ∧ ∀ r ∈ t, (∀ a ∈ r, Sm a) ∧ r.length = n := by
  obtain ⟨p, xs, e, hp, hl, hx⟩ := h
  obtain ⟨as, g1, g2, g3⟩ := sq_val (P := RowV) (S := fun r => (∀ a ∈ r, Sm a) ∧ r.length = n) (H := H) (xs := xs) fun x hx' => by
    obtain ⟨r, h1, h2, h3⟩ := (hx x hx').val hk hk2
    exact ⟨r, h1, h3, h2⟩
  exact ⟨as, ⟨p, xs, e, hp, g1, g3⟩, by omega, g2⟩
/-! ### rows grown -/
def kk (i : Nat) : Nat := 2 ^ (i + 3) - 1
theorem kk_pos (i : Nat) : 7 ≤ kk i := by
  have : 2 ^ 3 ≤ 2 ^ (i + 3) := Nat.pow_le_pow_right (by decide) (by omega)
  unfold kk
  omega
theorem kk_succ (i : Nat) : 2 * kk i + 1 = kk (i + 1) := by
  have h : 2 ^ 3 ≤ 2 ^ (i + 3) := Nat.pow_le_pow_right (by decide) (by omega)
  have e : 2 ^ (i + 1 + 3) = 2 ^ (i + 3) * 2 := by rw [show i + 1 + 3 = (i + 3) + 1 by omega, Nat.pow_succ]
  unfold kk
  rw [e]
  generalize 2 ^ (i + 3) = z at h ⊢
  omega
theorem kk_le {i : Nat} (h : i ≤ 5) : kk i ≤ 255 := by
  have : 2 ^ (i + 3) ≤ 2 ^ 8 := Nat.pow_le_pow_right (by decide) (by omega)
  unfold kk
  omega
theorem rows_end {H Hn : Hp} {b F : Addr} {xs : List V} {row : V} {n i : Nat} (mv : Mv b H Hn) (hb : Bag Hn b) (hF0 : H F = none) (nF : F ≠ b) (hF : Hn F = some (.lst xs)) (hl : xs.length = i) (hx : ∀ x ∈ xs, RowB Hn x n (kk i)) (hr : RowB Hn row n (kk (i + 1))) :
    Mv b H (upd Hn F (.lst (xs ++ [row]))) ∧ Bag (upd Hn F (.lst (xs ++ [row]))) b ∧ ∃ ys : List V, (upd Hn F (.lst (xs ++ [row]))) F = some (.lst ys) ∧ ys.length = i + 1 ∧ ∀ x ∈ ys, RowB (upd Hn F (.lst (xs ++ [row]))) x n (kk (i + 1)) := by
  have kt : Kt Hn (upd Hn F (.lst (xs ++ [row]))) := Kt.updL hF
  refine ⟨mv.updD hF0, hb.upd nF, xs ++ [row], upd_same, by rw [List.length_append, hl]; rfl, fun x h => ?_⟩
  rcases List.mem_append.mp h with h | h
  · refine ((hx x h).kt kt).mono ?_
    have := kk_succ i
    omega
  · rw [List.mem_singleton.mp h]
    exact hr.kt kt
theorem RowB.zeros {H : Hp} {u : Addr} {l : Addr} {n : Nat} (hu : H u = some (.tup [.int 0, .int 1])) (hl : H l = some (.tup (List.replicate n [V.ref u]).flatten)) : RowB H (.ref l) n 7 := by
  rw [List.flatten_replicate_singleton] at hl
  refine ⟨l, _, rfl, hl, List.length_replicate, fun x hx => ?_⟩
  rw [(List.mem_replicate.mp hx).2]
  exact ⟨u, 0, 1, rfl, hu, by decide, by decide, by decide⟩
/-! ### what is looked at together -/
def Tri (H : Hp) (v : V) : Prop := ∃ (p : Addr) (x r t : V), v = .ref p ∧ H p = some (.tup [x, r, t]) ∧ (∃ a, NumV H x a ∧ Sm a) ∧ (∃ rs, RowV H r rs ∧ (∀ a ∈ rs, Sm a) ∧ rs.length ≤ 10) ∧ ∃ ts, TabV H t ts ∧ (∀ r ∈ ts, (∀ a ∈ r, Sm a) ∧ r.length ≤ 10) ∧ ts.length ≤ 10
theorem Tri.kt {H H' : Hp} {v : V} (h : Tri H v) (s : Kt H H') : Tri H' v := by
  obtain ⟨p, x, r, t, e, hp, ⟨a, h1, h2⟩, ⟨rs, h3, h4⟩, ts, h5, h6⟩ := h
  exact ⟨p, x, r, t, e, s _ _ hp, ⟨a, h1.kt s, h2⟩, ⟨rs, RowV.kt h3 s, h4⟩, ts, TabV.kt h5 s, h6⟩
theorem TabB.mono {H : Hp} {v : V} {m n k l : Nat} (h : TabB H v m n k) (hl : k ≤ l) : TabB H v m n l := by
  obtain ⟨p, xs, e, hp, hn, r⟩ := h
  exact ⟨p, xs, e, hp, hn, fun x hx => (r x hx).mono hl⟩
theorem tri_mk {H : Hp} {p : Addr} {x r t : V} {n n' m k : Nat} (hp : H p = some (.tup [x, r, t])) (hx : NumB H x k) (hr : RowB H r n k) (ht : TabB H t m n' k) (hk : 0 < k) (hk2 : k ≤ 1000) (hn : n ≤ 10) (hn' : n' ≤ 10) (hm : m ≤ 10) : Tri H (.ref p) := by
  obtain ⟨rs, h1, h2, h3⟩ := hr.val hk hk2
  obtain ⟨ts, g1, g2, g3⟩ := ht.val hk hk2
  exact ⟨p, x, r, t, rfl, hp, hx.val hk hk2, ⟨rs, h1, h3, by omega⟩, ts, g1, fun r hr => ⟨(g3 r hr).1, by have := (g3 r hr).2; omega⟩, by omega⟩
theorem sqv1 {α : Type} {P : Hp → V → α → Prop} {H : Hp} {p : Addr} {x : V} {a : α} (hp : H p = some (.tup [x])) (h1 : P H x a) : SqV P H (.ref p) [a] := ⟨p, [x], rfl, hp, rfl, fun i y b e1 e2 => by
  cases i with
  | zero => cases Option.some.inj e1; cases Option.some.inj e2; exact h1
  | succ i => simp at e1⟩
theorem sqv2 {α : Type} {P : Hp → V → α → Prop} {H : Hp} {p : Addr} {x y : V} {a b : α} (hp : H p = some (.tup [x, y])) (h1 : P H x a) (h2 : P H y b) : SqV P H (.ref p) [a, b] := ⟨p, [x, y], rfl, hp, rfl, fun i z c e1 e2 => by
  match i with
  | 0 => cases Option.some.inj e1; cases Option.some.inj e2; exact h1
  | 1 => cases Option.some.inj e1; cases Option.some.inj e2; exact h2
  | i + 2 => simp at e1⟩
theorem all_true (n : Nat) : (List.replicate n true).all id = true := by
  rw [List.all_eq_true]
  intro x hx
  rw [(List.mem_replicate.mp hx).2]
  rfl
theorem fresh_of {H : Hp} {p q : Addr} {o : HO} (h : H p = some o) (hq : H q = none) : p ≠ q := fun e => by
  subst e
  rw [h] at hq
  cases hq
end Fm

namespace Fm
open PySem PySem.Spec PyProof.Rows L2
theorem w_chain {r r' : R2} {ta tb tc : TE} {σ : L2.St} {H : Hp} {Q : VK} (h : ta σ H fun x H1 => tb σ H1 fun y H2 => r x y H2 fun z H3 => ∃ k, z = .bl k ∧ (if k = true then tc σ H3 fun w' H4 => r' y w' H4 Q else Q (.bl false) H3)) : tChain r r' ta tb tc σ H Q := h
theorem w_rng2 {ta : TA} {σ : L2.St} {H : Hp} {R : It → Hp → Prop} (h : ta σ H fun vs H1 => ∃ i j : Int, vs = [.int i, .int j] ∧ (-(2 ^ 62) ≤ i ∧ i < 2 ^ 62 ∧ -(2 ^ 62) ≤ j ∧ j < 2 ^ 62) ∧ R (Itr i (j - i).toNat) H1) : iRng2 ta σ H R := h
theorem w_extend {H : Hp} {Q : VK} {l b : Addr} {xs zs : List V} (h : H l = some (.lst xs)) (h2 : H b = some (.lst zs)) (hz : xs.length + zs.length ≤ 1000) (q : Q .non (upd H l (.lst (xs ++ zs)))) : rExtend (.ref l) [.ref b] H Q := ⟨l, b, xs, zs, rfl, rfl, h, h2, Nat.le_of_lt (small1000 hz), q⟩
theorem w_iteB {b : Bool} {A B : Prop} (h1 : b = true → A) (h2 : b = false → B) : if b = true then A else B := by
  cases b with
  | true => exact h1 rfl
  | false => exact h2 rfl
theorem w_iteBN {b : Bool} {A B : Prop} (h1 : b = false → A) (h2 : b = true → B) : if (!b) = true then A else B := by
  cases b with
  | true => exact h2 rfl
  | false => exact h1 rfl
theorem w_notB {H : Hp} {Q : VK} {a b : Bool} (q : Q (.bl (!decide (a = b))) H) : rNotB (.bl a) (.bl b) H Q := ⟨a, b, rfl, rfl, q⟩
/-! ### any things -/
def Kl (H H' : Hp) : Prop := ∀ p xs, H p = some (.lst xs) → ∃ ys, H' p = some (.lst ys)
def Kd (H H' : Hp) : Prop := Kt H H' ∧ Kl H H'
theorem Kd.refl (H : Hp) : Kd H H := ⟨Kt.refl H, fun _ xs h => ⟨xs, h⟩⟩
theorem Kd.trans {H H1 H2 : Hp} (a : Kd H H1) (b : Kd H1 H2) : Kd H H2 := ⟨a.1.trans b.1, fun p xs h => by
  obtain ⟨ys, h1⟩ := a.2 p xs h
  exact b.2 p ys h1⟩
theorem Kd.of {H H' : Hp} (s : Same H H') : Kd H H' := ⟨Kt.of s, fun p xs h => ⟨xs, s _ _ h⟩⟩
theorem Kd.mv {b : Addr} {H H' : Hp} (m : Mv b H H') (hb : Bag H b) (hb' : Bag H' b) : Kd H H' := ⟨m.kt hb, fun p xs h => by
  by_cases e : p = b
  · subst e
    obtain ⟨A, B, h2, _⟩ := hb'
    exact ⟨_, h2⟩
  · exact ⟨xs, m _ _ e h⟩⟩
theorem Kd.updL {H : Hp} {D : Addr} {xs ys : List V} (h : H D = some (.lst xs)) : Kd H (upd H D (.lst ys)) := ⟨Kt.updL h, fun p zs hp => by
  by_cases e : p = D
  · subst e
    exact ⟨ys, upd_same⟩
  · exact ⟨zs, by rw [upd_ne e]; exact hp⟩⟩
def atomB : V → Bool
  | .non => true
  | .bl _ => true
  | .int _ => true
  | .str _ => true
  | _ => false
/-- any thing: of no parts, a list, a tuple of things of no parts -/
def Th (H : Hp) (v : V) : Prop := atomB v = true ∨ (∃ p xs, v = .ref p ∧ H p = some (.lst xs)) ∨ ∃ p xs, v = .ref p ∧ H p = some (.tup xs) ∧ ∀ x ∈ xs, atomB x = true
theorem Th.kd {H H' : Hp} {v : V} (h : Th H v) (k : Kd H H') : Th H' v := by
  rcases h with h | ⟨p, xs, e, h⟩ | ⟨p, xs, e, h, hx⟩
  · exact .inl h
  · obtain ⟨ys, h2⟩ := k.2 p xs h
    exact .inr (.inl ⟨p, ys, e, h2⟩)
  · exact .inr (.inr ⟨p, xs, e, k.1 _ _ h, hx⟩)
theorem Th.sm {H H' : Hp} {v : V} (h : Th H v) (s : Same H H') : Th H' v := h.kd (Kd.of s)
theorem Th.tup {H : Hp} {p : Addr} {xs : List V} (h : H p = some (.tup xs)) (hx : xs.all atomB = true) : Th H (.ref p) := .inr (.inr ⟨p, xs, rfl, h, fun x m => List.all_eq_true.mp hx x m⟩)
theorem Th.lst {H : Hp} {p : Addr} {xs : List V} (h : H p = some (.lst xs)) : Th H (.ref p) := .inr (.inl ⟨p, xs, rfl, h⟩)
theorem NumB.th {H : Hp} {v : V} {k : Nat} (h : NumB H v k) : Th H v := by
  obtain ⟨p, x, y, rfl, hp, _⟩ := h
  exact Th.tup hp rfl
/-! ### what is told of them -/
def intB : V → Bool
  | .int _ => true
  | .bl _ => true
  | _ => false
def blB : V → Bool
  | .bl _ => true
  | _ => false
def wholeB : V → Bool
  | .int _ => true
  | _ => false
def grdB : V → Bool
  | .int i => decide (i ∈ [0, 3, 5, 7, 11, 13])
  | _ => false
def numOk (g : Int) : List V → Bool
  | [.int t, .int b] => if g = 0 then decide (1 ≤ b) && decide (Int.gcd t b = 1) else (decide (0 ≤ t) && decide (t < g)) && decide (b = 1)
  | _ => false
def numAt (g : Int) : Option HO → Bool
  | some (.tup xs) => numOk g xs
  | _ => false
def numOf (H : Hp) (g : Int) : V → Bool
  | .ref p => numAt g (H p)
  | _ => false
theorem numOf_tup {H : Hp} {g : Int} {p : Addr} {xs : List V} (h : H p = some (.tup xs)) : numOf H g (.ref p) = numOk g xs := by
  show numAt g (H p) = _
  rw [h]
  rfl
theorem numOf_lst {H : Hp} {g : Int} {p : Addr} {xs : List V} (h : H p = some (.lst xs)) : numOf H g (.ref p) = false := by
  show numAt g (H p) = _
  rw [h]
  rfl
theorem numOf_kd {H H' : Hp} {g : Int} {v : V} (h : Th H v) (k : Kd H H') : numOf H' g v = numOf H g v := by
  rcases h with h | ⟨p, xs, rfl, h⟩ | ⟨p, xs, rfl, h, _⟩
  · cases v <;> first | rfl | cases h
  · obtain ⟨ys, h2⟩ := k.2 p xs h
    rw [numOf_lst h, numOf_lst h2]
  · rw [numOf_tup h, numOf_tup (k.1 _ _ h)]
theorem whole_eq (v : V) : wholeB v = (intB v && !blB v) := by
  cases v <;> rfl
theorem whole_int {v : V} (h : wholeB v = true) : ∃ i, v = .int i := by
  cases v with
  | int i => exact ⟨i, rfl⟩
  | _ => cases h
theorem grd_whole {v : V} (h : wholeB v = false) : grdB v = false := by
  cases v with
  | int i => cases h
  | _ => rfl
theorem beq_comm_int (a b : Int) : (a == b) = decide (b = a) := by
  by_cases h : a = b
  · subst h; simp
  · rw [beq_eq_false_iff_ne.mpr h, decide_eq_false (fun e => h e.symm)]
theorem in_grd (i : Int) : inV (.int i) [.int 0, .int 3, .int 5, .int 7, .int 11, .int 13] = grdB (.int i) := by
  show (((0 : Int) == i) || (((3 : Int) == i) || (((5 : Int) == i) || (((7 : Int) == i) || (((11 : Int) == i) || (((13 : Int) == i) || false)))))) = decide (i ∈ [0, 3, 5, 7, 11, 13])
  rw [beq_comm_int, beq_comm_int, beq_comm_int, beq_comm_int, beq_comm_int, beq_comm_int, Bool.eq_iff_iff]
  simp
theorem numOk_len {g : Int} {xs : List V} (h : xs.length ≠ 2) : numOk g xs = false := by
  match xs, h with
  | [], _ => rfl
  | [x], _ => cases x <;> rfl
  | [x, y], h => exact absurd rfl h
  | x :: y :: z :: r, _ => cases x <;> cases y <;> rfl
theorem numOk_l {g : Int} {x y : V} (h : wholeB x = false) : numOk g [x, y] = false := by
  cases x with
  | int i => cases h
  | _ => cases y <;> rfl
theorem numOk_r {g : Int} {x y : V} (h : wholeB y = false) : numOk g [x, y] = false := by
  cases y with
  | int i => cases h
  | _ => cases x <;> rfl
theorem numOk_0 {t b : Int} : numOk 0 [.int t, .int b] = (decide (1 ≤ b) && decide ((Int.gcd t b : Int) = 1)) := by
  have e : numOk 0 [.int t, .int b] = (decide (1 ≤ b) && decide (Int.gcd t b = 1)) := by simp [numOk]
  rw [e]
  congr 1
  rw [decide_eq_decide]
  omega
theorem numOk_g {g t b : Int} (h : g ≠ 0) : numOk g [.int t, .int b] = ((decide (0 ≤ t) && decide (t < g)) && decide (b = 1)) := by
  simp [numOk, h]
/-! ### isinstance -/
def tyAt : Option HO → String
  | some (.tup _) => "tuple"
  | _ => "list"
def tyN (H : Hp) : V → String
  | .non => "NoneType"
  | .bl _ => "bool"
  | .int _ => "int"
  | .str _ => "str"
  | .ref p => tyAt (H p)
  | _ => ""
theorem Th.ty {K : PySem.W.Frag} {H : Hp} {v : V} (h : Th H v) : TyX K H v (.type (tyN H v)) := by
  rcases h with h | ⟨p, xs, rfl, h⟩ | ⟨p, xs, rfl, h, _⟩
  · cases v with
    | non => exact .base .non
    | bl b => exact .base (.bl b)
    | int i => exact .base (.int i)
    | str z => exact .base (.str z)
    | _ => cases h
  · have e : tyN H (.ref p) = "list" := by show tyAt (H p) = _; rw [h]; rfl
    rw [e]
    exact .base (.lst h)
  · have e : tyN H (.ref p) = "tuple" := by show tyAt (H p) = _; rw [h]; rfl
    rw [e]
    exact .base (.tup h)
theorem isi_is {K : PySem.W.Frag} {H : Hp} {Q : VK} {v : V} {a T : String} {b : Bool} (h : TyX K H v (.type a)) (e : kitB a T = some b) (q : Q (.bl b) H) : rIsi K [v, .ty T] H Q := ⟨v, .ty T, .type a, .type T, b, rfl, .ty T, h, kit_ty e, q⟩
theorem isi_int {K : PySem.W.Frag} {H : Hp} {Q : VK} {v : V} (h : Th H v) (q : Q (.bl (intB v)) H) : rIsi K [v, .ty "int"] H Q := by
  refine isi_is h.ty ?_ q
  rcases h with h | ⟨p, xs, rfl, h⟩ | ⟨p, xs, rfl, h, _⟩
  · cases v with
    | non => show kitB "NoneType" "int" = some false; decide +kernel
    | bl b => show kitB "bool" "int" = some true; decide +kernel
    | int i => show kitB "int" "int" = some true; decide +kernel
    | str z => show kitB "str" "int" = some false; decide +kernel
    | _ => cases h
  · show kitB (tyAt (H p)) _ = _; rw [h]; show kitB "list" "int" = some false; decide +kernel
  · show kitB (tyAt (H p)) _ = _; rw [h]; show kitB "tuple" "int" = some false; decide +kernel
theorem isi_bool {K : PySem.W.Frag} {H : Hp} {Q : VK} {v : V} (h : Th H v) (q : Q (.bl (blB v)) H) : rIsi K [v, .ty "bool"] H Q := by
  refine isi_is h.ty ?_ q
  rcases h with h | ⟨p, xs, rfl, h⟩ | ⟨p, xs, rfl, h, _⟩
  · cases v with
    | non => show kitB "NoneType" "bool" = some false; decide +kernel
    | bl b => show kitB "bool" "bool" = some true; decide +kernel
    | int i => show kitB "int" "bool" = some false; decide +kernel
    | str z => show kitB "str" "bool" = some false; decide +kernel
    | _ => cases h
  · show kitB (tyAt (H p)) _ = _; rw [h]; show kitB "list" "bool" = some false; decide +kernel
  · show kitB (tyAt (H p)) _ = _; rw [h]; show kitB "tuple" "bool" = some false; decide +kernel
theorem isi_tup {K : PySem.W.Frag} {H : Hp} {Q : VK} {v : V} (h : Th H v) (q1 : ∀ p xs, v = .ref p → H p = some (.tup xs) → (∀ x ∈ xs, atomB x = true) → Q (.bl true) H) (q2 : (∀ g, numOf H g v = false) → Q (.bl false) H) : rIsi K [v, .ty "tuple"] H Q := by
  have h' := h
  rcases h with h | ⟨p, xs, rfl, h⟩ | ⟨p, xs, rfl, h, hx⟩
  · refine isi_is h'.ty (b := false) ?_ (q2 fun g => ?_)
    · cases v with
      | non => show kitB "NoneType" "tuple" = some false; decide +kernel
      | bl b => show kitB "bool" "tuple" = some false; decide +kernel
      | int i => show kitB "int" "tuple" = some false; decide +kernel
      | str z => show kitB "str" "tuple" = some false; decide +kernel
      | _ => cases h
    · cases v <;> first | rfl | cases h
  · refine isi_is h'.ty (b := false) ?_ (q2 fun g => numOf_lst h)
    show kitB (tyAt (H p)) _ = _; rw [h]; show kitB "list" "tuple" = some false; decide +kernel
  · refine isi_is h'.ty (b := true) ?_ (q1 p xs rfl h hx)
    show kitB (tyAt (H p)) _ = _; rw [h]; show kitB "tuple" "tuple" = some true; decide +kernel
theorem dat_bl {K : PySem.W.Frag} {H : Hp} {b : Bool} : Dp K H (.bl b) (.bool b) := .bl b
/-- two lists of two truths -/
theorem w_neBB {K : PySem.W.Frag} {H : Hp} {Q : VK} {p r : Addr} {a b c d : Bool} (h : H p = some (.lst [.bl a, .bl b])) (h2 : H r = some (.lst [.bl c, .bl d])) (e1 : a = c) (e2 : b = d) (q : Q (.bl false) H) : rNeD K (.ref p) (.ref r) H Q := by
  subst e1 e2
  refine ⟨.list [.bool a, .bool b], .list [.bool a, .bool b], .lst (SqL.of h) (.cons (.bl a) (.cons (.bl b) .nil)), .lst (SqL.of h2) (.cons (.bl a) (.cons (.bl b) .nil)), shaped_of ?_ ?_, shaped_of ?_ ?_, ?_⟩
  · simp [PyData.canLay0, PyData.canLayAll0]
  · simp [PyData.depth, PyData.depthAll]
  · simp [PyData.canLay0, PyData.canLayAll0]
  · simp [PyData.depth, PyData.depthAll]
  · rw [SeqAt.eqv_refl _ (by simp [PyData.canLay0, PyData.canLayAll0])]
    exact q
/-! ### common divisors -/
theorem gcd_fmod (x y : Int) : Int.gcd y (x.fmod y) = Int.gcd x y := by
  have e : x.fmod y = x - y * x.fdiv y := Int.fmod_def x y
  rw [e]
  refine Nat.dvd_antisymm ?_ ?_
  · have h1 := Int.gcd_dvd_left y (x - y * x.fdiv y)
    have h2 := Int.gcd_dvd_right y (x - y * x.fdiv y)
    refine Int.dvd_gcd ?_ h1
    have h3 := Int.dvd_add h2 (Int.dvd_mul_of_dvd_left (c := x.fdiv y) h1)
    rw [Int.sub_add_cancel] at h3
    exact h3
  · have h1 := Int.gcd_dvd_left x y
    have h2 := Int.gcd_dvd_right x y
    refine Int.dvd_gcd h2 ?_
    exact Int.dvd_sub h1 (Int.dvd_mul_of_dvd_left h2)
theorem fmod_small (x : Int) {y : Int} (h : y ≠ 0) : (x.fmod y).natAbs < y.natAbs := by
  rcases Int.lt_or_gt_of_ne h with h | h
  · have e : x.fmod y = -((-x).fmod (-y)) := by
      have := Int.neg_fmod_neg x y
      omega
    have h1 := Int.fmod_nonneg_of_pos (-x) (show 0 < -y by omega)
    have h2 := Int.fmod_lt_of_pos (-x) (show 0 < -y by omega)
    omega
  · have h1 := Int.fmod_nonneg_of_pos x h
    have h2 := Int.fmod_lt_of_pos x h
    omega
theorem atI_some {xs : List V} {d : Int} (h0 : 0 ≤ d) (h1 : d < (xs.length : Int)) : ∃ v, atI xs d = some v ∧ v ∈ xs := by
  obtain ⟨v, hv⟩ : ∃ v, xs[d.toNat]? = some v := ⟨_, List.getElem?_eq_getElem (by omega)⟩
  have e := atI_nat hv
  rw [show ((d.toNat : Nat) : Int) = d by omega] at e
  exact ⟨v, e, List.mem_of_getElem? hv⟩
theorem gcd_fib {u d : Int} (h : Int.gcd u d = 1) : Int.gcd d (u + d) = 1 := by
  have h1 := Int.gcd_dvd_left d (u + d)
  have h2 := Int.gcd_dvd_right d (u + d)
  have h3 := Int.dvd_sub h2 h1
  rw [Int.add_sub_cancel] at h3
  have h4 := Int.dvd_gcd h3 h1
  rw [h] at h4
  exact Nat.dvd_one.mp h4
theorem lp_div {u d : Int} (hu : 1 ≤ u) (hd : 1 ≤ d) : Int.gcd (u.fdiv (Int.gcd u d : Int)) (d.fdiv (Int.gcd u d : Int)) = 1 ∧ 1 ≤ d.fdiv (Int.gcd u d : Int) ∧ (Int.gcd u d : Int) ≤ d ∧ 0 < (Int.gcd u d : Int) := by
  have hp : 0 < Int.gcd u d := Nat.pos_of_ne_zero fun z => by
    have := (Int.gcd_eq_zero_iff.mp z).2
    omega
  have hp' : 0 < (Int.gcd u d : Int) := by omega
  rw [fdiv_pos _ hp', fdiv_pos _ hp']
  have hle : (Int.gcd u d : Int) ≤ d := Int.le_of_dvd (by omega) (Int.gcd_dvd_right u d)
  refine ⟨Int.gcd_ediv_gcd_ediv_gcd hp, ?_, hle, hp'⟩
  exact Int.le_ediv_of_mul_le hp' (by omega)
theorem lp_next {u t : Int} {i : Nat} (h1 : 1 ≤ u) (h2 : u + 1 ≤ 2 * 1000000 ^ i) (t0 : 0 ≤ t) (t1 : t < 1000000) : 1 ≤ u * 1000000 + t ∧ u * 1000000 + t + 1 ≤ 2 * 1000000 ^ (i + 1) := by
  have e : (1000000 : Int) ^ (i + 1) = 1000000 ^ i * 1000000 := Int.pow_succ _ _
  rw [e]
  generalize (1000000 : Int) ^ i = z at h2 ⊢
  omega
theorem lp_small {d : Int} {i : Nat} (h1 : 1 ≤ d) (h2 : d + 1 ≤ 2 * 1000000 ^ i) (hi : i ≤ 100) : d.natAbs < 2 ^ 4000 := by
  have h3 : ((d.natAbs : Nat) : Int) < ((2 * 1000000 ^ i : Nat) : Int) := by
    rw [Int.natAbs_of_nonneg (by omega), Int.natCast_mul, Int.natCast_pow]
    have : ((2 : Nat) : Int) * ((1000000 : Nat) : Int) ^ i = 2 * 1000000 ^ i := rfl
    rw [this]
    omega
  have h4 := Int.ofNat_lt.mp h3
  refine Nat.lt_of_lt_of_le h4 (Nat.le_trans (Nat.mul_le_mul_left 2 (Nat.pow_le_pow_right (by decide) hi)) (by decide +kernel))
def grds (i : Nat) : List Int := ((List.range i).map fun (j : Nat) => ((-20 : Int) + (j : Int))).filter fun z => grdB (.int z)
theorem grds_t {i : Nat} (h : grdB (.int ((-20 : Int) + (i : Int))) = true) : grds (i + 1) = grds i ++ [(-20 : Int) + (i : Int)] := by
  unfold grds
  rw [List.range_succ, List.map_append, List.filter_append]
  simp [h]
theorem grds_f {i : Nat} (h : grdB (.int ((-20 : Int) + (i : Int))) = false) : grds (i + 1) = grds i := by
  unfold grds
  rw [List.range_succ, List.map_append, List.filter_append]
  simp [h]
theorem grds_all : grds 60 = [0, 3, 5, 7, 11, 13] := by decide +kernel
theorem grds_len (i : Nat) : (grds i).length ≤ i := by
  unfold grds
  refine Nat.le_trans (List.length_filter_le _ _) ?_
  rw [List.length_map, List.length_range]
  exact Nat.le_refl _
end Fm

namespace Fm
open PySem PySem.Spec PyProof.Rows L2
/-! ### fractions in lowest terms -/
def Red (p : Int × Int) : Prop := 0 < p.2 ∧ Int.gcd p.1 p.2 = 1
theorem dvd_cop {c a d : Int} (h : Int.gcd a c = 1) (hd : c ∣ a * d) : c ∣ d := by
  have h1 : c.natAbs ∣ a.natAbs * d.natAbs := by
    rw [← Int.natAbs_mul]
    exact Int.natAbs_dvd_natAbs.mpr hd
  have h2 : Nat.Coprime c.natAbs a.natAbs := by
    rw [Nat.Coprime, Nat.gcd_comm]
    exact h
  exact Int.natAbs_dvd_natAbs.mp (h2.dvd_of_dvd_mul_left h1)
theorem red_uniq {p q : Int × Int} (hp : Red p) (hq : Red q) (h : p.1 * q.2 = q.1 * p.2) : p = q := by
  obtain ⟨a, c⟩ := p
  obtain ⟨b, d⟩ := q
  obtain ⟨hc, h1⟩ := hp
  obtain ⟨hd, h2⟩ := hq
  simp only at hc h1 hd h2 h
  have d1 : c ∣ d := by
    have : c ∣ a * d := ⟨b, by rw [h, Int.mul_comm]⟩
    exact dvd_cop h1 this
  have d2 : d ∣ c := by
    have : d ∣ b * c := ⟨a, by rw [← h, Int.mul_comm]⟩
    exact dvd_cop h2 this
  have e : c = d := Int.le_antisymm (Int.le_of_dvd hd d1) (Int.le_of_dvd hc d2)
  subst e
  have e2 : a = b := Int.eq_of_mul_eq_mul_right (by omega) h
  rw [e2]
theorem low0_eq {u d : Int} (hd : d ≠ 0) : ∃ q1 q2, lowF 0 u d = (q1, q2) ∧ u = lowC u d * q1 ∧ d = lowC u d * q2 := by
  have hI : lowI 0 u d = none := by
    unfold lowI
    rw [if_neg (by decide)]
  have hc := lowC_ne (u := u) hd
  obtain ⟨⟨q1, e1⟩, q2, e2⟩ := lowC_dvd (u := u) (d := d)
  refine ⟨q1, q2, ?_, e1, e2⟩
  have f1 : u.fdiv (lowC u d) = q1 := by
    conv => lhs; lhs; rw [e1]
    exact Int.mul_fdiv_cancel_left _ hc
  have f2 : d.fdiv (lowC u d) = q2 := by
    conv => lhs; lhs; rw [e2]
    exact Int.mul_fdiv_cancel_left _ hc
  unfold lowF
  rw [hI]
  show (u.fdiv (lowC u d), d.fdiv (lowC u d)) = _
  rw [f1, f2]
theorem lowC_abs {u d : Int} : (lowC u d).natAbs = Int.gcd u d := by
  unfold lowC
  split
  · rw [Int.mul_neg, Int.mul_one, Int.natAbs_neg, Int.natAbs_natCast]
  · rw [Int.mul_one, Int.natAbs_natCast]
theorem low0_red {u d : Int} (hd : d ≠ 0) : Red (lowF 0 u d) ∧ (lowF 0 u d).1 * d = u * (lowF 0 u d).2 := by
  obtain ⟨q1, q2, e, e1, e2⟩ := low0_eq (u := u) hd
  have hc := lowC_ne (u := u) hd
  have ha := lowC_abs (u := u) (d := d)
  rw [e]
  refine ⟨⟨?_, ?_⟩, ?_⟩
  · show 0 < q2
    have hg : 0 < Int.gcd u d := by omega
    unfold lowC at e2
    by_cases h : d < 0
    · rw [if_pos h, Int.mul_neg, Int.mul_one] at e2
      rcases Int.lt_trichotomy q2 0 with z | z | z
      · have := Int.mul_nonneg_of_nonpos_of_nonpos (a := -(Int.gcd u d : Int)) (b := q2) (by omega) (by omega)
        omega
      · rw [z, Int.mul_zero] at e2; omega
      · exact z
    · rw [if_neg h, Int.mul_one] at e2
      rcases Int.lt_trichotomy q2 0 with z | z | z
      · have := Int.mul_nonpos_of_nonneg_of_nonpos (a := (Int.gcd u d : Int)) (b := q2) (by omega) (by omega)
        omega
      · rw [z, Int.mul_zero] at e2; omega
      · exact z
  · show Int.gcd q1 q2 = 1
    have h1 : Int.gcd (lowC u d * q1) (lowC u d * q2) = (lowC u d).natAbs * Int.gcd q1 q2 := Int.gcd_mul_left ..
    rw [← e1, ← e2, ha] at h1
    have hg : 0 < Int.gcd u d := by omega
    have h2 : Int.gcd u d * 1 = Int.gcd u d * Int.gcd q1 q2 := by rw [Nat.mul_one]; exact h1
    exact (Nat.eq_of_mul_eq_mul_left hg h2).symm
  · show q1 * d = u * q2
    conv => lhs; rw [e2]
    conv => rhs; rw [e1]
    rw [← Int.mul_assoc, Int.mul_comm q1]
theorem low0_uniq {p : Int × Int} {u d : Int} (hp : Red p) (hd : d ≠ 0) (h : p.1 * d = u * p.2) : lowF 0 u d = p := by
  obtain ⟨hr, he⟩ := low0_red (u := u) hd
  refine red_uniq hr hp ?_
  have : ((lowF 0 u d).1 * p.2) * d = (p.1 * (lowF 0 u d).2) * d := by
    calc ((lowF 0 u d).1 * p.2) * d = ((lowF 0 u d).1 * d) * p.2 := by rw [Int.mul_right_comm]
      _ = (u * (lowF 0 u d).2) * p.2 := by rw [he]
      _ = (u * p.2) * (lowF 0 u d).2 := by rw [Int.mul_right_comm]
      _ = (p.1 * d) * (lowF 0 u d).2 := by rw [h]
      _ = (p.1 * (lowF 0 u d).2) * d := by rw [Int.mul_right_comm]
  exact Int.eq_of_mul_eq_mul_right hd this
/-! ### wheels, over 1 -/
theorem low_one {g u : Int} (hg : 0 < g) : lowF g u 1 = (u.fmod g, 1) := by
  have h0 : 0 ≤ u.fmod g := Int.fmod_nonneg_of_pos u hg
  have h1 : u.fmod g < g := Int.fmod_lt_of_pos u hg
  have e : lowI g u 1 = some (u.fmod g).toNat := by
    unfold lowI
    rw [if_pos hg]
    refine List.find?_range_eq_some.mpr ⟨decide_eq_true ?_, List.mem_range.mpr (by omega), fun j hj => ?_⟩
    · rw [Int.mul_one, show (((u.fmod g).toNat : Nat) : Int) = u.fmod g by omega]
      rw [fmod_pos _ hg, fmod_pos _ hg]
      exact Int.emod_emod_of_dvd _ (Int.dvd_refl g)
    · have : ¬ ((j : Int) * 1).fmod g = u.fmod g := by
        rw [Int.mul_one, fmod_pos _ hg, Int.emod_eq_of_lt (by omega) (by omega)]
        omega
      rw [decide_eq_false this]
      rfl
  unfold lowF
  rw [e]
  show (((u.fmod g).toNat : Int), (1 : Int)) = _
  rw [show (((u.fmod g).toNat : Nat) : Int) = u.fmod g by omega]
/-! ### sums of products -/
def timesF (g : Int) (x y : Int × Int) : Int × Int := lowF g (x.1 * y.1) (x.2 * y.2)
def plusF (g : Int) (x y : Int × Int) : Int × Int := lowF g (x.1 * y.2 + y.1 * x.2) (x.2 * y.2)
theorem times_rel {x z : Int × Int} {t s B U : Int} (hx : x.2 ≠ 0) (hz : z.2 ≠ 0) (ht : t * x.2 = x.1 * B) (hs : s * z.2 = z.1 * U) : (timesF 0 x z).1 * (B * U) = t * s * (timesF 0 x z).2 := by
  have hn : x.2 * z.2 ≠ 0 := Int.mul_ne_zero hx hz
  have h := (low0_red (u := x.1 * z.1) hn).2
  have e : (timesF 0 x z).1 * (x.2 * z.2) = x.1 * z.1 * (timesF 0 x z).2 := h
  generalize timesF 0 x z = y at e
  have : (y.1 * (B * U)) * (x.2 * z.2) = (t * s * y.2) * (x.2 * z.2) := by
    calc (y.1 * (B * U)) * (x.2 * z.2) = (y.1 * (x.2 * z.2)) * (B * U) := by rw [Int.mul_right_comm]
      _ = (x.1 * z.1 * y.2) * (B * U) := by rw [e]
      _ = (x.1 * B) * (z.1 * U) * y.2 := by
        ac_rfl
      _ = (t * x.2) * (s * z.2) * y.2 := by rw [ht, hs]
      _ = (t * s * y.2) * (x.2 * z.2) := by
        ac_rfl
  exact Int.eq_of_mul_eq_mul_right hn this
theorem plus_rel {p y : Int × Int} {S T M : Int} (hp : p.2 ≠ 0) (hy : y.2 ≠ 0) (h1 : p.1 * M = S * p.2) (h2 : y.1 * M = T * y.2) : (plusF 0 p y).1 * M = (S + T) * (plusF 0 p y).2 := by
  have hn : p.2 * y.2 ≠ 0 := Int.mul_ne_zero hp hy
  have e : (plusF 0 p y).1 * (p.2 * y.2) = (p.1 * y.2 + y.1 * p.2) * (plusF 0 p y).2 := (low0_red (u := p.1 * y.2 + y.1 * p.2) hn).2
  generalize plusF 0 p y = z at e
  have : (z.1 * M) * (p.2 * y.2) = ((S + T) * z.2) * (p.2 * y.2) := by
    calc (z.1 * M) * (p.2 * y.2) = (z.1 * (p.2 * y.2)) * M := by rw [Int.mul_right_comm]
      _ = ((p.1 * y.2 + y.1 * p.2) * z.2) * M := by rw [e]
      _ = ((p.1 * M) * y.2 + (y.1 * M) * p.2) * z.2 := by
        rw [Int.mul_right_comm, Int.add_mul, Int.mul_right_comm p.1, Int.mul_right_comm y.1]
      _ = ((S * p.2) * y.2 + (T * y.2) * p.2) * z.2 := by rw [h1, h2]
      _ = ((S + T) * z.2) * (p.2 * y.2) := by
        rw [Int.mul_assoc S, Int.mul_assoc T, Int.mul_comm y.2 p.2, ← Int.add_mul, Int.mul_right_comm]
  exact Int.eq_of_mul_eq_mul_right hn this
/-! ### rows as whole numbers over one bottom -/
def dotF (ts ss : List Int) : Int := (List.zipWith (fun a b => a * b) ts ss).sum
def wrB (r : List (Int × Int)) : Int := r.foldl (fun b x => b.fdiv (Int.gcd b x.2 : Int) * x.2) 1
def wrT (r : List (Int × Int)) : List Int := r.map fun x => x.1 * (wrB r).fdiv x.2
theorem lcm_step {b c : Int} (hb : 0 < b) (hc : 0 < c) : 0 < b.fdiv (Int.gcd b c : Int) * c ∧ b ∣ b.fdiv (Int.gcd b c : Int) * c ∧ c ∣ b.fdiv (Int.gcd b c : Int) * c ∧ ∀ L, b ∣ L → c ∣ L → b.fdiv (Int.gcd b c : Int) * c ∣ L := by
  have hg : 0 < Int.gcd b c := Nat.pos_of_ne_zero fun z => by
    have := (Int.gcd_eq_zero_iff.mp z).2
    omega
  have hg' : (0 : Int) < (Int.gcd b c : Int) := by omega
  obtain ⟨q1, e1⟩ := Int.gcd_dvd_left b c
  obtain ⟨q2, e2⟩ := Int.gcd_dvd_right b c
  have f1 : b.fdiv (Int.gcd b c : Int) = q1 := by
    conv => lhs; lhs; rw [e1]
    exact Int.mul_fdiv_cancel_left _ (by omega)
  rw [f1]
  have hq1 : 0 < q1 := Int.pos_of_mul_pos_right (by rw [← e1]; exact hb) hg'
  have hcop : Int.gcd q1 q2 = 1 := by
    have h1 : Int.gcd ((Int.gcd b c : Int) * q1) ((Int.gcd b c : Int) * q2) = ((Int.gcd b c : Int)).natAbs * Int.gcd q1 q2 := Int.gcd_mul_left ..
    rw [← e1, ← e2, Int.natAbs_natCast] at h1
    have h2 : Int.gcd b c * 1 = Int.gcd b c * Int.gcd q1 q2 := by rw [Nat.mul_one]; exact h1
    exact (Nat.eq_of_mul_eq_mul_left hg h2).symm
  refine ⟨Int.mul_pos hq1 hc, ⟨q2, ?_⟩, ⟨q1, Int.mul_comm _ _⟩, fun L h1 h2 => ?_⟩
  · conv => lhs; rw [e2]
    conv => rhs; rw [e1]
    ac_rfl
  · obtain ⟨k1, hk1⟩ := h1
    obtain ⟨k2, hk2⟩ := h2
    have h3 : q1 * k1 = q2 * k2 := by
      have : (Int.gcd b c : Int) * (q1 * k1) = (Int.gcd b c : Int) * (q2 * k2) := by
        rw [← Int.mul_assoc, ← Int.mul_assoc, ← e1, ← e2, ← hk1, ← hk2]
      exact Int.eq_of_mul_eq_mul_left (by omega) this
    have h4 : q1 ∣ k2 := dvd_cop (a := q2) (by rw [Int.gcd_comm]; exact hcop) ⟨k1, by rw [← h3]⟩
    obtain ⟨k3, hk3⟩ := h4
    exact ⟨k3, by rw [hk2, hk3]; ac_rfl⟩
theorem wr_fold : ∀ (r : List (Int × Int)) (b : Int), 0 < b → (∀ x ∈ r, 0 < x.2) → 0 < r.foldl (fun b x => b.fdiv (Int.gcd b x.2 : Int) * x.2) b ∧ b ∣ r.foldl (fun b x => b.fdiv (Int.gcd b x.2 : Int) * x.2) b ∧ (∀ x ∈ r, x.2 ∣ r.foldl (fun b x => b.fdiv (Int.gcd b x.2 : Int) * x.2) b) ∧ ∀ L, b ∣ L → (∀ x ∈ r, x.2 ∣ L) → r.foldl (fun b x => b.fdiv (Int.gcd b x.2 : Int) * x.2) b ∣ L
  | [], b, hb, _ => ⟨hb, Int.dvd_refl b, fun x hx => (by cases hx), fun L h _ => h⟩
  | x :: r, b, hb, h => by
    obtain ⟨s1, s2, s3, s4⟩ := lcm_step hb (h x (List.mem_cons_self ..))
    obtain ⟨t1, t2, t3, t4⟩ := wr_fold r _ s1 fun y hy => h y (List.mem_cons_of_mem _ hy)
    rw [List.foldl_cons]
    refine ⟨t1, Int.dvd_trans s2 t2, fun y hy => ?_, fun L h1 h2 => ?_⟩
    · rcases List.mem_cons.mp hy with rfl | hy
      · exact Int.dvd_trans s3 t2
      · exact t3 y hy
    · exact t4 L (s4 L h1 (h2 x (List.mem_cons_self ..))) fun y hy => h2 y (List.mem_cons_of_mem _ hy)
theorem wrB_spec {r : List (Int × Int)} (h : ∀ x ∈ r, 0 < x.2) : 0 < wrB r ∧ (∀ x ∈ r, x.2 ∣ wrB r) ∧ ∀ L, (∀ x ∈ r, x.2 ∣ L) → wrB r ∣ L := by
  obtain ⟨h1, _, h3, h4⟩ := wr_fold r 1 (by decide) h
  exact ⟨h1, h3, fun L h => h4 L (Int.one_dvd L) h⟩
def RelL (B : Int) : List (Int × Int) → List Int → Prop
  | [], [] => True
  | x :: xs, t :: ts => (0 < x.2 ∧ t * x.2 = x.1 * B) ∧ RelL B xs ts
  | _, _ => False
theorem rel_of {B : Int} : ∀ {r : List (Int × Int)}, (∀ x ∈ r, 0 < x.2 ∧ x.2 ∣ B) → RelL B r (r.map fun x => x.1 * B.fdiv x.2)
  | [], _ => True.intro
  | x :: r, h => by
    obtain ⟨h1, k, hk⟩ := h x (List.mem_cons_self ..)
    refine ⟨⟨h1, ?_⟩, rel_of fun y hy => h y (List.mem_cons_of_mem _ hy)⟩
    have e : B.fdiv x.2 = k := by
      rw [hk]
      exact Int.mul_fdiv_cancel_left _ (by omega)
    show x.1 * B.fdiv x.2 * x.2 = x.1 * B
    rw [e, hk]
    ac_rfl
theorem wr_rel {r : List (Int × Int)} (h : ∀ x ∈ r, 0 < x.2) : RelL (wrB r) r (wrT r) := rel_of fun x hx => ⟨h x hx, (wrB_spec h).2.1 x hx⟩
def cellF (g : Int) (r s : List (Int × Int)) : Int × Int := (List.zipWith (timesF g) r s).foldl (plusF g) (0, 1)
theorem cell_fold {B U : Int} : ∀ (xs zs : List (Int × Int)) (ts ss : List Int) (p : Int × Int) (S : Int), Red p → p.1 * (B * U) = S * p.2 → RelL B xs ts → RelL U zs ss → Red ((List.zipWith (timesF 0) xs zs).foldl (plusF 0) p) ∧ ((List.zipWith (timesF 0) xs zs).foldl (plusF 0) p).1 * (B * U) = (S + dotF ts ss) * ((List.zipWith (timesF 0) xs zs).foldl (plusF 0) p).2
  | [], zs, ts, ss, p, S, hp, h, h1, _ => by
    cases ts with
    | nil => exact ⟨hp, by simp only [List.zipWith_nil_left, List.foldl_nil, dotF, List.sum_nil, Int.add_zero]; exact h⟩
    | cons t ts => exact h1.elim
  | x :: xs, [], ts, ss, p, S, hp, h, _, h2 => by
    cases ss with
    | nil => exact ⟨hp, by simp only [List.zipWith_nil_right, List.foldl_nil, dotF, List.sum_nil, Int.add_zero]; exact h⟩
    | cons t ts => exact h2.elim
  | x :: xs, z :: zs, [], ss, p, S, hp, h, h1, _ => h1.elim
  | x :: xs, z :: zs, t :: ts, [], p, S, hp, h, _, h2 => h2.elim
  | x :: xs, z :: zs, t :: ts, s :: ss, p, S, hp, h, h1, h2 => by
    obtain ⟨⟨hx, ht⟩, h1⟩ := h1
    obtain ⟨⟨hz, hs⟩, h2⟩ := h2
    have hxz : x.2 * z.2 ≠ 0 := Int.mul_ne_zero (by omega) (by omega)
    have hT := (low0_red (u := x.1 * z.1) hxz).1
    have e1 := times_rel (x := x) (z := z) (t := t) (s := s) (B := B) (U := U) (by omega) (by omega) ht hs
    have hy : 0 < (timesF 0 x z).2 := hT.1
    have e2 := plus_rel (p := p) (y := timesF 0 x z) (M := B * U) (by have := hp.1; omega) (by omega) h e1
    have hR : Red (plusF 0 p (timesF 0 x z)) := (low0_red (Int.mul_ne_zero (by have := hp.1; omega) (by omega))).1
    have ih := cell_fold xs zs ts ss _ _ hR e2 h1 h2
    rw [List.zipWith_cons_cons, List.foldl_cons]
    refine ⟨ih.1, ?_⟩
    rw [ih.2]
    simp only [dotF, List.zipWith_cons_cons, List.sum_cons]
    rw [Int.add_assoc]
theorem cell_zero {r s : List (Int × Int)} (hr : ∀ x ∈ r, 0 < x.2) (hs : ∀ x ∈ s, 0 < x.2) : cellF 0 r s = lowF 0 (dotF (wrT r) (wrT s)) (wrB r * wrB s) := by
  have hB := (wrB_spec hr).1
  have hU := (wrB_spec hs).1
  have h := cell_fold r s (wrT r) (wrT s) (0, 1) 0 ⟨by decide, by decide⟩ (by simp) (wr_rel hr) (wr_rel hs)
  rw [Int.zero_add] at h
  exact (low0_uniq h.1 (Int.mul_ne_zero (by omega) (by omega)) h.2).symm
/-! ### the same on wheels -/
theorem fmod_add {g a b : Int} (hg : 0 < g) : (a.fmod g + b).fmod g = (a + b).fmod g := by
  rw [fmod_pos _ hg, fmod_pos _ hg, fmod_pos _ hg, Int.emod_add_emod]
theorem fmod_add2 {g a b : Int} (hg : 0 < g) : (a + b.fmod g).fmod g = (a + b).fmod g := by
  rw [fmod_pos _ hg, fmod_pos _ hg, fmod_pos _ hg, Int.add_emod_emod]
theorem cell_wheel_fold {g : Int} (hg : 0 < g) : ∀ (xs zs : List (Int × Int)) (S : Int), (∀ x ∈ xs, x.2 = 1) → (∀ x ∈ zs, x.2 = 1) → (List.zipWith (timesF g) xs zs).foldl (plusF g) (S.fmod g, 1) = ((S + dotF (xs.map (·.1)) (zs.map (·.1))).fmod g, 1)
  | [], zs, S, _, _ => by simp [dotF]
  | x :: xs, [], S, _, _ => by simp [dotF]
  | x :: xs, z :: zs, S, h1, h2 => by
    have e1 := h1 x (List.mem_cons_self ..)
    have e2 := h2 z (List.mem_cons_self ..)
    have et : timesF g x z = ((x.1 * z.1).fmod g, 1) := by
      unfold timesF
      rw [e1, e2, Int.mul_one, low_one hg]
    have ep : plusF g (S.fmod g, 1) (timesF g x z) = ((S + x.1 * z.1).fmod g, 1) := by
      unfold plusF
      rw [et]
      show lowF g (S.fmod g * 1 + (x.1 * z.1).fmod g * 1) (1 * 1) = _
      rw [Int.mul_one, Int.mul_one, Int.mul_one, low_one hg, fmod_add hg, fmod_add2 hg]
    rw [List.zipWith_cons_cons, List.foldl_cons, ep, cell_wheel_fold hg xs zs _ (fun y hy => h1 y (List.mem_cons_of_mem _ hy)) (fun y hy => h2 y (List.mem_cons_of_mem _ hy))]
    simp only [dotF, List.map_cons, List.zipWith_cons_cons, List.sum_cons]
    rw [Int.add_assoc]
theorem wrB_one : ∀ {r : List (Int × Int)}, (∀ x ∈ r, x.2 = 1) → wrB r = 1 := by
  intro r
  unfold wrB
  induction r with
  | nil => intro _; rfl
  | cons x r ih =>
    intro h
    rw [List.foldl_cons, h x (List.mem_cons_self ..)]
    show r.foldl _ ((1 : Int).fdiv (Int.gcd 1 1 : Int) * 1) = 1
    have e : (1 : Int).fdiv (Int.gcd 1 1 : Int) * 1 = 1 := by decide
    rw [e]
    exact ih fun y hy => h y (List.mem_cons_of_mem _ hy)
theorem wrT_one {r : List (Int × Int)} (h : ∀ x ∈ r, x.2 = 1) : wrT r = r.map (·.1) := by
  unfold wrT
  rw [wrB_one h]
  refine List.map_congr_left fun x hx => ?_
  rw [h x hx]
  show x.1 * (1 : Int).fdiv 1 = x.1
  rw [show (1 : Int).fdiv 1 = 1 from by decide, Int.mul_one]
theorem cell_eq {g : Int} {r s : List (Int × Int)} (h : (g = 0 ∧ (∀ x ∈ r, 0 < x.2) ∧ ∀ x ∈ s, 0 < x.2) ∨ (0 < g ∧ (∀ x ∈ r, x.2 = 1) ∧ ∀ x ∈ s, x.2 = 1)) : cellF g r s = lowF g (dotF (wrT r) (wrT s)) (wrB r * wrB s) := by
  rcases h with ⟨rfl, h1, h2⟩ | ⟨hg, h1, h2⟩
  · exact cell_zero h1 h2
  · rw [wrB_one h1, wrB_one h2, wrT_one h1, wrT_one h2, Int.mul_one, low_one hg]
    have h := cell_wheel_fold hg r s 0 h1 h2
    have e0 : (0 : Int).fmod g = 0 := by rw [fmod_pos _ hg]; exact Int.zero_emod g
    rw [e0, Int.zero_add] at h
    exact h
end Fm

namespace Fm
open PySem PySem.Spec PyProof.Rows L2
def rTupOf (K : PySem.W.Frag) : List V → Hp → VK → Prop := fun xs H Q => ∃ p ys, xs = [.ref p] ∧ ((SqL K H p ys ∧ ∀ l, H l = none → Q (.ref l) (upd H l (.tup ys))) ∨ (SqT K H p ys ∧ Q (.ref p) H))
theorem call_tupOf {X : Cx} : CallR X (.type "tuple") (rTupOf X.K) := call_tuple_of
theorem w_tupOf2 {K : PySem.W.Frag} {H : Hp} {Q : VK} {p : Addr} {ys : List V} (h : H p = some (.lst ys)) (q : NewO (.tup ys) H Q) : rTupOf K [.ref p] H Q := ⟨p, ys, rfl, .inl ⟨SqL.of h, q⟩⟩
theorem fmod_mul {g a b : Int} (hg : 0 < g) : (a.fmod g * b).fmod g = (a * b).fmod g := by
  rw [fmod_pos _ hg, fmod_pos _ hg, fmod_pos _ hg, Int.mul_emod, Int.emod_emod_of_dvd _ (Int.dvd_refl g), ← Int.mul_emod]
theorem fmod_mul2 {g a b : Int} (hg : 0 < g) : (a * b.fmod g).fmod g = (a * b).fmod g := by
  rw [Int.mul_comm, fmod_mul hg, Int.mul_comm]
theorem fmod_of_lt {g a : Int} (h0 : 0 ≤ a) (h1 : a < g) : a.fmod g = a := by
  rw [fmod_pos _ (by omega), Int.emod_eq_of_lt h0 h1]
/-- over what has a back on the wheel -/
theorem low_inv {g u d f : Int} (hg : 0 < g) (hf : (f * d).fmod g = 1) : lowF g u d = ((u * f).fmod g, 1) := by
  have h0 : 0 ≤ (u * f).fmod g := Int.fmod_nonneg_of_pos _ hg
  have h1 : (u * f).fmod g < g := Int.fmod_lt_of_pos _ hg
  have ee : ∀ z : Int, (z * (f * d)).fmod g = z.fmod g := fun z => by
    rw [← fmod_mul2 hg, hf, Int.mul_one]
  have e : lowI g u d = some ((u * f).fmod g).toNat := by
    unfold lowI
    rw [if_pos hg]
    refine List.find?_range_eq_some.mpr ⟨decide_eq_true ?_, List.mem_range.mpr (by omega), fun j hj => ?_⟩
    · rw [show ((((u * f).fmod g).toNat : Nat) : Int) = (u * f).fmod g by omega, fmod_mul hg, Int.mul_assoc]
      exact ee u
    · have : ¬ ((j : Int) * d).fmod g = u.fmod g := fun z => by
        have h2 : ((j : Int) * d * f).fmod g = (u * f).fmod g := by
          rw [← fmod_mul hg, z, fmod_mul hg]
        have h3 : ((j : Int) * d * f).fmod g = (j : Int) := by
          rw [Int.mul_assoc, Int.mul_comm d f, ee, fmod_of_lt (by omega) (by omega)]
        omega
      rw [decide_eq_false this]
      rfl
  unfold lowF
  rw [e]
  show ((((u * f).fmod g).toNat : Int), (1 : Int)) = _
  rw [show ((((u * f).fmod g).toNat : Nat) : Int) = (u * f).fmod g by omega]
theorem log_small {a : Int} {k : Nat} (h : a.natAbs < 2 ^ k) (hk : 0 < k) : a.natAbs.log2 < k := PySem.Flt.log2_lt_of hk h
/-- a number of a ground, of less than k bits -/
def OkN (g : Int) (k : Nat) (a : Int × Int) : Prop := a.1.natAbs < 2 ^ k ∧ a.2.natAbs < 2 ^ k ∧ ((g = 0 ∧ 0 < a.2) ∨ (3 ≤ g ∧ g ≤ 13 ∧ a.2 = 1))
theorem OkN.pos {g : Int} {k : Nat} {a : Int × Int} (h : OkN g k a) : 0 < a.2 := by
  rcases h.2.2 with h | h
  · exact h.2
  · omega
theorem step_le {b c : Int} {k m : Nat} (hb : 0 < b) (hc : 0 < c) (h1 : b.natAbs ≤ 2 ^ m) (h2 : c.natAbs < 2 ^ k) : (b.fdiv (Int.gcd b c : Int) * c).natAbs ≤ 2 ^ (m + k) ∧ (b.fdiv (Int.gcd b c : Int)).natAbs ≤ 2 ^ m ∧ (Int.gcd b c : Int) ≠ 0 ∧ ((Int.gcd b c : Int)).natAbs < 2 ^ k := by
  have hg : 0 < Int.gcd b c := Nat.pos_of_ne_zero fun z => by
    have := (Int.gcd_eq_zero_iff.mp z).2
    omega
  have hle : (b.fdiv (Int.gcd b c : Int)).natAbs ≤ b.natAbs := by
    obtain ⟨q, e⟩ := Int.gcd_dvd_left b c
    have f1 : b.fdiv (Int.gcd b c : Int) = q := by
      conv => lhs; lhs; rw [e]
      exact Int.mul_fdiv_cancel_left _ (by omega)
    rw [f1]
    have := natAbs_fac (c := (Int.gcd b c : Int)) (q := q) (by omega)
    rw [← e] at this
    exact this
  have hgc : (Int.gcd b c : Int) ≤ c := Int.le_of_dvd hc (Int.gcd_dvd_right b c)
  refine ⟨?_, Nat.le_trans hle h1, by omega, by omega⟩
  rw [Int.natAbs_mul, Nat.pow_add]
  exact Nat.mul_le_mul (Nat.le_trans hle h1) (Nat.le_of_lt h2)
theorem wrB_take {r : List (Int × Int)} {i : Nat} {x : Int × Int} (h : r[i]? = some x) : wrB (r.take (i + 1)) = (wrB (r.take i)).fdiv (Int.gcd (wrB (r.take i)) x.2 : Int) * x.2 := by
  unfold wrB
  rw [List.take_add_one, h]
  simp [List.foldl_append]
theorem wrB_le {k : Nat} : ∀ (r : List (Int × Int)) (b : Int) (m : Nat), 0 < b → b.natAbs ≤ 2 ^ m → (∀ x ∈ r, 0 < x.2 ∧ x.2.natAbs < 2 ^ k) → (r.foldl (fun b x => b.fdiv (Int.gcd b x.2 : Int) * x.2) b).natAbs ≤ 2 ^ (m + k * r.length)
  | [], b, m, _, h, _ => by simpa using h
  | x :: r, b, m, hb, h, hr => by
    have hx := hr x (List.mem_cons_self ..)
    have s := step_le hb hx.1 h hx.2
    rw [List.foldl_cons]
    have := wrB_le r _ (m + k) (lcm_step hb hx.1).1 s.1 fun y hy => hr y (List.mem_cons_of_mem _ hy)
    rw [show m + k * (x :: r).length = m + k + k * r.length by rw [List.length_cons, Nat.mul_succ]; omega]
    exact this
theorem wrB_bd {k : Nat} {r : List (Int × Int)} (h : ∀ x ∈ r, 0 < x.2 ∧ x.2.natAbs < 2 ^ k) : (wrB r).natAbs ≤ 2 ^ (k * r.length) := by
  have := wrB_le r 1 0 (by decide) (by decide) h
  rw [Nat.zero_add] at this
  exact this
theorem w_aug {i : Nat} {te : TE} {ti : TIp} {D : Ends} {σ : L2.St} {H : Hp} {x : V} (h : σ[i]? = some (some x)) (q : te σ H fun y H1 => ti x y H1 fun z H2 => D.nx (σ.set i (some z)) H2) : tAug i te ti D σ H := ⟨x, h, q⟩
/-- a row as whole numbers over one bottom, as an object -/
def WR (H : Hp) (v : V) (ts : List Int) (B : Int) : Prop := ∃ p L, v = .ref p ∧ H p = some (.tup [.ref L, .int B]) ∧ H L = some (.lst (ts.map V.int))
theorem WR.sm {H H' : Hp} {v : V} {ts : List Int} {B : Int} (h : WR H v ts B) (s : Same H H') : WR H' v ts B := by
  obtain ⟨p, L, e, h1, h2⟩ := h
  exact ⟨p, L, e, s _ _ h1, s _ _ h2⟩
theorem wrT_bd {g : Int} {k : Nat} {r : List (Int × Int)} (h : ∀ x ∈ r, OkN g k x) : ∀ t ∈ wrT r, t.natAbs ≤ 2 ^ (k + k * r.length) := by
  intro t ht
  obtain ⟨x, hx, rfl⟩ := List.mem_map.mp ht
  have hp : ∀ x ∈ r, 0 < x.2 := fun x hx => (h x hx).pos
  have hB := wrB_bd (k := k) (r := r) fun x hx => ⟨hp x hx, (h x hx).2.1⟩
  obtain ⟨q, e⟩ := (wrB_spec hp).2.1 x hx
  have f1 : (wrB r).fdiv x.2 = q := by
    rw [e]
    exact Int.mul_fdiv_cancel_left _ (by have := hp x hx; omega)
  rw [f1, Int.natAbs_mul, Nat.pow_add]
  have h2 := natAbs_fac (c := x.2) (q := q) (by have := hp x hx; omega)
  rw [← e] at h2
  exact Nat.mul_le_mul (Nat.le_of_lt (h x hx).1) (Nat.le_trans h2 hB)
theorem le_lt {a : Int} {k m : Nat} (h : a.natAbs ≤ 2 ^ k) (hk : k < m) : a.natAbs < 2 ^ m := Nat.lt_of_le_of_lt h (Nat.pow_lt_pow_right (by decide) hk)
theorem mulW_le {a b : Int} {k m : Nat} (h1 : a.natAbs ≤ 2 ^ k) (h2 : b.natAbs ≤ 2 ^ m) (hk : k + m ≤ 100000) : CMulW a b := wide_mul (a := k + 1) (b := m + 1) (le_lt h1 (by omega)) (le_lt h2 (by omega)) (by omega) (by omega) (by omega)
/-! ### what is gathered, item by item -/
def Acc {α : Type} (P : Hp → V → α → Prop) (H : Hp) (ys : List V) (as : List α) (i : Nat) : Prop := ys.length = i ∧ ∀ (j : Nat) (x : V) (a : α), ys[j]? = some x → as[j]? = some a → P H x a
theorem Acc.nil {α : Type} {P : Hp → V → α → Prop} {H : Hp} {as : List α} : Acc P H [] as 0 := ⟨rfl, fun j x a h _ => by simp at h⟩
theorem Acc.mono {α : Type} {P : Hp → V → α → Prop} {H H' : Hp} {ys : List V} {as : List α} {i : Nat} (h : Acc P H ys as i) (f : ∀ x a, P H x a → P H' x a) : Acc P H' ys as i := ⟨h.1, fun j x a h1 h2 => f x a (h.2 j x a h1 h2)⟩
theorem Acc.snoc {α : Type} {P : Hp → V → α → Prop} {H : Hp} {ys : List V} {as : List α} {i : Nat} {v : V} {a : α} (h : Acc P H ys as i) (ha : as[i]? = some a) (hv : P H v a) : Acc P H (ys ++ [v]) as (i + 1) := by
  refine ⟨by rw [List.length_append, h.1]; rfl, fun j x b h1 h2 => ?_⟩
  by_cases hj : j < ys.length
  · rw [List.getElem?_append_left hj] at h1
    exact h.2 j x b h1 h2
  · rw [List.getElem?_append_right (by omega)] at h1
    have e : j - ys.length = 0 := by
      have := (List.getElem?_eq_some_iff.mp h1).1
      rw [List.length_singleton] at this
      omega
    rw [e] at h1
    cases Option.some.inj h1
    have e2 : j = i := by have := h.1; omega
    rw [e2, ha] at h2
    cases Option.some.inj h2
    exact hv
theorem Acc.sq {α : Type} {P : Hp → V → α → Prop} {H : Hp} {ys : List V} {as : List α} {i : Nat} {p : Addr} (h : Acc P H ys as i) (hi : i = as.length) (hp : H p = some (.tup ys)) : SqV P H (.ref p) as := ⟨p, ys, rfl, hp, by rw [h.1, hi], h.2⟩
/-- such a row whose list is another one than the one at D -/
def WRn (D : Addr) (H : Hp) (v : V) (s : List (Int × Int)) : Prop := ∃ p L, v = .ref p ∧ L ≠ D ∧ H p = some (.tup [.ref L, .int (wrB s)]) ∧ H L = some (.lst ((wrT s).map V.int))
theorem WRn.sm {D : Addr} {H H' : Hp} {v : V} {s : List (Int × Int)} (h : WRn D H v s) (e : Same H H') : WRn D H' v s := by
  obtain ⟨p, L, e1, n, h1, h2⟩ := h
  exact ⟨p, L, e1, n, e _ _ h1, e _ _ h2⟩
theorem WRn.upd {D : Addr} {H : Hp} {v : V} {s : List (Int × Int)} {xs : List V} {o : HO} (h : WRn D H v s) (hD : H D = some (.lst xs)) : WRn D (upd H D o) v s := by
  obtain ⟨p, L, e1, n, h1, h2⟩ := h
  exact ⟨p, L, e1, n, Kt.updL hD _ _ h1, by rw [upd_ne n]; exact h2⟩
theorem dot_bd {m : Nat} : ∀ {ts ss : List Int}, (∀ t ∈ ts, t.natAbs ≤ 2 ^ m) → (∀ t ∈ ss, t.natAbs ≤ 2 ^ m) → (dotF ts ss).natAbs ≤ ts.length * 2 ^ (m + m)
  | [], ss, _, _ => by simp [dotF]
  | t :: ts, [], _, _ => by simp [dotF]
  | t :: ts, s :: ss, h1, h2 => by
    have ih := dot_bd (ts := ts) (ss := ss) (fun y hy => h1 y (List.mem_cons_of_mem _ hy)) (fun y hy => h2 y (List.mem_cons_of_mem _ hy))
    have e : dotF (t :: ts) (s :: ss) = t * s + dotF ts ss := by simp [dotF]
    have h3 : (t * s).natAbs ≤ 2 ^ (m + m) := by
      rw [Int.natAbs_mul, Nat.pow_add]
      exact Nat.mul_le_mul (h1 t (List.mem_cons_self ..)) (h2 s (List.mem_cons_self ..))
    rw [e, List.length_cons, Nat.succ_mul]
    omega
def turnF (l : Nat) (t : List (List (Int × Int))) : List (List (Int × Int)) := (List.range l).map fun j => t.map fun row => row.getD j (0, 1)
theorem turn_at {l j : Nat} {t : List (List (Int × Int))} (h : j < l) : (turnF l t)[j]? = some (t.map fun row => row.getD j (0, 1)) := by
  unfold turnF
  rw [List.getElem?_map, List.getElem?_range h]
  rfl
theorem wrT_len (r : List (Int × Int)) : (wrT r).length = r.length := by
  unfold wrT
  rw [List.length_map]
/-- what lowest wants of a sum of products -/
theorem cell_ok {g : Int} {k : Nat} {r s : List (Int × Int)} (hg : g = 0 ∨ (3 ≤ g ∧ g ≤ 13)) (hr : ∀ x ∈ r, OkN g k x) (hs : ∀ x ∈ s, OkN g k x) (hk : k ≤ 400) (hl : r.length ≤ 10) (hl2 : s.length ≤ 10) :
    (g = 0 ∧ wrB r * wrB s ≠ 0 ∧ (wrB r * wrB s).natAbs < 2 ^ 8500) ∨ (3 ≤ g ∧ (dotF (wrT r) (wrT s)).natAbs < 2 ^ 50000 ∧ ∃ k : Int, 1 ≤ k ∧ k ≤ 13 ∧ (k * (wrB r * wrB s)).fmod g = 1) := by
  have p1 : ∀ x ∈ r, 0 < x.2 := fun x h => (hr x h).pos
  have p2 : ∀ x ∈ s, 0 < x.2 := fun x h => (hs x h).pos
  have e1 : k * r.length ≤ 4000 := Nat.mul_le_mul hk hl
  have e2 : k * s.length ≤ 4000 := Nat.mul_le_mul hk hl2
  rcases hg with rfl | ⟨h3, h13⟩
  · refine .inl ⟨rfl, Int.mul_ne_zero (by have := (wrB_spec p1).1; omega) (by have := (wrB_spec p2).1; omega), ?_⟩
    have b1 := wrB_bd (k := k) (r := r) fun x h => ⟨p1 x h, (hr x h).2.1⟩
    have b2 := wrB_bd (k := k) (r := s) fun x h => ⟨p2 x h, (hs x h).2.1⟩
    rw [Int.natAbs_mul]
    refine Nat.lt_of_le_of_lt (Nat.mul_le_mul b1 b2) ?_
    rw [← Nat.pow_add]
    exact Nat.pow_lt_pow_right (by decide) (by omega)
  · have o1 : ∀ x ∈ r, x.2 = 1 := fun x h => by
      rcases (hr x h).2.2 with z | z
      · omega
      · exact z.2.2
    have o2 : ∀ x ∈ s, x.2 = 1 := fun x h => by
      rcases (hs x h).2.2 with z | z
      · omega
      · exact z.2.2
    refine .inr ⟨h3, ?_, 1, by decide, by decide, ?_⟩
    · have b1 := wrT_bd hr
      have b2 := wrT_bd hs
      have c1 : ∀ t ∈ wrT r, t.natAbs ≤ 2 ^ 4400 := fun t h => Nat.le_trans (b1 t h) (Nat.pow_le_pow_right (by decide) (by omega))
      have c2 : ∀ t ∈ wrT s, t.natAbs ≤ 2 ^ 4400 := fun t h => Nat.le_trans (b2 t h) (Nat.pow_le_pow_right (by decide) (by omega))
      have d := dot_bd c1 c2
      rw [wrT_len] at d
      refine Nat.lt_of_le_of_lt (Nat.le_trans d (Nat.mul_le_mul_right _ (show r.length ≤ 2 ^ 4 by omega))) ?_
      rw [← Nat.pow_add]
      exact Nat.pow_lt_pow_right (by decide) (by decide)
    · rw [wrB_one o1, wrB_one o2]
      show (1 : Int).fmod g = 1
      exact fmod_of_lt (by decide) (by omega)
theorem cell_is {g : Int} {k : Nat} {r s : List (Int × Int)} (hg : g = 0 ∨ (3 ≤ g ∧ g ≤ 13)) (hr : ∀ x ∈ r, OkN g k x) (hs : ∀ x ∈ s, OkN g k x) : cellF g r s = lowF g (dotF (wrT r) (wrT s)) (wrB r * wrB s) := by
  refine cell_eq ?_
  rcases hg with rfl | ⟨h3, h13⟩
  · exact .inl ⟨rfl, fun x h => (hr x h).pos, fun x h => (hs x h).pos⟩
  · refine .inr ⟨by omega, fun x h => ?_, fun x h => ?_⟩
    · rcases (hr x h).2.2 with z | z
      · omega
      · exact z.2.2
    · rcases (hs x h).2.2 with z | z
      · omega
      · exact z.2.2
end Fm

namespace Fm
open PySem PySem.Spec PyProof.Rows L2
/-! ### things of some depth, their whole numbers of less than k bits -/
def AtB (k : Nat) : V → Prop
  | .int i => i.natAbs < 2 ^ k
  | .non => True
  | .bl _ => True
  | .str _ => True
  | _ => False
theorem AtB.atom {k : Nat} {v : V} (h : AtB k v) : atomB v = true := by
  cases v <;> first | rfl | cases h
def IsL (H : Hp) (v : V) : Prop := ∃ p xs, v = .ref p ∧ H p = some (.lst xs)
def TB (k : Nat) : Nat → Hp → V → Prop
  | 0, H, v => AtB k v ∨ IsL H v
  | n + 1, H, v => AtB k v ∨ IsL H v ∨ ∃ p xs, v = .ref p ∧ H p = some (.tup xs) ∧ xs.length ≤ 100 ∧ ∀ x ∈ xs, TB k n H x
theorem IsL.kd {H H' : Hp} {v : V} (h : IsL H v) (e : Kd H H') : IsL H' v := by
  obtain ⟨p, xs, e1, h1⟩ := h
  obtain ⟨ys, h2⟩ := e.2 p xs h1
  exact ⟨p, ys, e1, h2⟩
theorem TB.kd {k : Nat} {H H' : Hp} (e : Kd H H') : ∀ {n : Nat} {v : V}, TB k n H v → TB k n H' v
  | 0, v, h => by
    rcases h with h | h
    · exact .inl h
    · exact .inr (h.kd e)
  | n + 1, v, h => by
    rcases h with h | h | ⟨p, xs, e1, h1, hz, hx⟩
    · exact .inl h
    · exact .inr (.inl (h.kd e))
    · exact .inr (.inr ⟨p, xs, e1, e.1 _ _ h1, hz, fun x m => TB.kd e (hx x m)⟩)
theorem TB.up {k : Nat} {H : Hp} : ∀ {n : Nat} {v : V}, TB k n H v → TB k (n + 1) H v
  | 0, v, h => by
    rcases h with h | h
    · exact .inl h
    · exact .inr (.inl h)
  | n + 1, v, h => by
    rcases h with h | h | ⟨p, xs, e1, h1, hz, hx⟩
    · exact .inl h
    · exact .inr (.inl h)
    · exact .inr (.inr ⟨p, xs, e1, h1, hz, fun x m => TB.up (hx x m)⟩)
theorem TB.wide {k l : Nat} {H : Hp} (hl : k ≤ l) : ∀ {n : Nat} {v : V}, TB k n H v → TB l n H v
  | 0, v, h => by
    rcases h with h | h
    · left; cases v <;> first | exact Nat.lt_of_lt_of_le h (Nat.pow_le_pow_right (by decide) hl) | exact h
    · exact .inr h
  | n + 1, v, h => by
    rcases h with h | h | ⟨p, xs, e1, h1, hz, hx⟩
    · left; cases v <;> first | exact Nat.lt_of_lt_of_le h (Nat.pow_le_pow_right (by decide) hl) | exact h
    · exact .inr (.inl h)
    · exact .inr (.inr ⟨p, xs, e1, h1, hz, fun x m => TB.wide hl (hx x m)⟩)
theorem TB.tup {k n : Nat} {H : Hp} {p : Addr} {xs : List V} (h : H p = some (.tup xs)) (hz : xs.length ≤ 100) (hx : ∀ x ∈ xs, TB k n H x) : TB k (n + 1) H (.ref p) := .inr (.inr ⟨p, xs, rfl, h, hz, hx⟩)
theorem TB.lst {k n : Nat} {H : Hp} {p : Addr} {xs : List V} (h : H p = some (.lst xs)) : TB k n H (.ref p) := by
  cases n with
  | zero => exact .inr ⟨p, xs, rfl, h⟩
  | succ n => exact .inr (.inl ⟨p, xs, rfl, h⟩)
theorem TB.at {k n : Nat} {H : Hp} {v : V} (h : AtB k v) : TB k n H v := by
  cases n with
  | zero => exact .inl h
  | succ n => exact .inl h
/-- its kind is known -/
def Tv (H : Hp) (v : V) : Prop := atomB v = true ∨ IsL H v ∨ ∃ p xs, v = .ref p ∧ H p = some (.tup xs)
theorem TB.tv {k n : Nat} {H : Hp} {v : V} (h : TB k n H v) : Tv H v := by
  cases n with
  | zero =>
    rcases h with h | h
    · exact .inl h.atom
    · exact .inr (.inl h)
  | succ n =>
    rcases h with h | h | ⟨p, xs, e1, h1, _⟩
    · exact .inl h.atom
    · exact .inr (.inl h)
    · exact .inr (.inr ⟨p, xs, e1, h1⟩)
theorem Tv.ty {K : PySem.W.Frag} {H : Hp} {v : V} (h : Tv H v) : TyX K H v (.type (tyN H v)) := by
  rcases h with h | ⟨p, xs, rfl, h⟩ | ⟨p, xs, rfl, h⟩
  · cases v with
    | non => exact .base .non
    | bl b => exact .base (.bl b)
    | int i => exact .base (.int i)
    | str z => exact .base (.str z)
    | _ => cases h
  · have e : tyN H (.ref p) = "list" := by show tyAt (H p) = _; rw [h]; rfl
    rw [e]
    exact .base (.lst h)
  · have e : tyN H (.ref p) = "tuple" := by show tyAt (H p) = _; rw [h]; rfl
    rw [e]
    exact .base (.tup h)
theorem tv_int {K : PySem.W.Frag} {H : Hp} {Q : VK} {v : V} (h : Tv H v) (q : Q (.bl (intB v)) H) : rIsi K [v, .ty "int"] H Q := by
  refine isi_is h.ty ?_ q
  rcases h with h | ⟨p, xs, rfl, h⟩ | ⟨p, xs, rfl, h⟩
  · cases v with
    | non => show kitB "NoneType" "int" = some false; decide +kernel
    | bl b => show kitB "bool" "int" = some true; decide +kernel
    | int i => show kitB "int" "int" = some true; decide +kernel
    | str z => show kitB "str" "int" = some false; decide +kernel
    | _ => cases h
  · show kitB (tyAt (H p)) _ = _; rw [h]; show kitB "list" "int" = some false; decide +kernel
  · show kitB (tyAt (H p)) _ = _; rw [h]; show kitB "tuple" "int" = some false; decide +kernel
theorem tv_bool {K : PySem.W.Frag} {H : Hp} {Q : VK} {v : V} (h : Tv H v) (q : Q (.bl (blB v)) H) : rIsi K [v, .ty "bool"] H Q := by
  refine isi_is h.ty ?_ q
  rcases h with h | ⟨p, xs, rfl, h⟩ | ⟨p, xs, rfl, h⟩
  · cases v with
    | non => show kitB "NoneType" "bool" = some false; decide +kernel
    | bl b => show kitB "bool" "bool" = some true; decide +kernel
    | int i => show kitB "int" "bool" = some false; decide +kernel
    | str z => show kitB "str" "bool" = some false; decide +kernel
    | _ => cases h
  · show kitB (tyAt (H p)) _ = _; rw [h]; show kitB "list" "bool" = some false; decide +kernel
  · show kitB (tyAt (H p)) _ = _; rw [h]; show kitB "tuple" "bool" = some false; decide +kernel
/-- what is no tuple -/
def NoTup (H : Hp) (v : V) : Prop := ∀ p xs, v = .ref p → H p ≠ some (.tup xs)
theorem tb_tup {K : PySem.W.Frag} {k n : Nat} {H : Hp} {Q : VK} {v : V} (h : TB k (n + 1) H v) (q1 : ∀ p xs, v = .ref p → H p = some (.tup xs) → xs.length ≤ 100 → (∀ x ∈ xs, TB k n H x) → Q (.bl true) H) (q2 : NoTup H v → Q (.bl false) H) : rIsi K [v, .ty "tuple"] H Q := by
  have h' := h.tv
  rcases h with h | ⟨p, xs, rfl, h⟩ | ⟨p, xs, rfl, h, hz, hx⟩
  · have ha := h.atom
    refine isi_is h'.ty (b := false) ?_ (q2 fun p xs e => ?_)
    · cases v with
      | non => show kitB "NoneType" "tuple" = some false; decide +kernel
      | bl b => show kitB "bool" "tuple" = some false; decide +kernel
      | int i => show kitB "int" "tuple" = some false; decide +kernel
      | str z => show kitB "str" "tuple" = some false; decide +kernel
      | _ => cases ha
    · rw [e] at ha
      cases ha
  · refine isi_is h'.ty (b := false) ?_ (q2 fun p' xs' e => ?_)
    · show kitB (tyAt (H p)) _ = _; rw [h]; show kitB "list" "tuple" = some false; decide +kernel
    · cases e
      rw [h]
      intro z
      cases z
  · refine isi_is h'.ty (b := true) ?_ (q1 p xs rfl h hz hx)
    show kitB (tyAt (H p)) _ = _; rw [h]; show kitB "tuple" "tuple" = some true; decide +kernel
theorem numOf_no {H : Hp} {g : Int} {v : V} (h : NoTup H v) : numOf H g v = false := by
  cases v with
  | ref p =>
    show numAt g (H p) = false
    cases e : H p with
    | none => rfl
    | some o =>
      cases o with
      | tup xs => exact absurd e (h p xs rfl)
      | _ => rfl
  | _ => rfl
theorem numOf_tb {k n : Nat} {H H' : Hp} {g : Int} {v : V} (h0 : TB k n H v) (e : Kd H H') : numOf H' g v = numOf H g v := by
  rcases h0.tv with h | ⟨p, xs, rfl, h⟩ | ⟨p, xs, rfl, h⟩
  · cases v <;> first | rfl | cases h
  · obtain ⟨ys, h2⟩ := e.2 p xs h
    rw [numOf_lst h, numOf_lst h2]
  · rw [numOf_tup h, numOf_tup (e.1 _ _ h)]
/-! ### rows and tables among things -/
def rowAt (H : Hp) (g m : Int) : Option HO → Bool
  | some (.tup xs) => decide ((xs.length : Int) = m) && xs.all (numOf H g)
  | _ => false
def rowOf (H : Hp) (g m : Int) : V → Bool
  | .ref p => rowAt H g m (H p)
  | _ => false
theorem rowOf_tup {H : Hp} {g m : Int} {p : Addr} {xs : List V} (h : H p = some (.tup xs)) : rowOf H g m (.ref p) = (decide ((xs.length : Int) = m) && xs.all (numOf H g)) := by
  show rowAt H g m (H p) = _
  rw [h]
  rfl
theorem rowOf_no {H : Hp} {g m : Int} {v : V} (h : NoTup H v) : rowOf H g m v = false := by
  cases v with
  | ref p =>
    show rowAt H g m (H p) = false
    cases e : H p with
    | none => rfl
    | some o =>
      cases o with
      | tup xs => exact absurd e (h p xs rfl)
      | _ => rfl
  | _ => rfl
theorem all_congr {f f' : V → Bool} : ∀ {xs : List V}, (∀ x ∈ xs, f' x = f x) → xs.all f' = xs.all f
  | [], _ => rfl
  | x :: xs, h => by
    rw [List.all_cons, List.all_cons, h x (List.mem_cons_self ..), all_congr fun y hy => h y (List.mem_cons_of_mem _ hy)]
theorem notup_kd {k n : Nat} {H H' : Hp} {v : V} (h0 : TB k n H v) (no : NoTup H v) (e : Kd H H') : NoTup H' v := by
  rcases h0.tv with h | ⟨p, xs, rfl, h⟩ | ⟨p, xs, rfl, h⟩
  · intro p xs z
    rw [z] at h
    cases h
  · obtain ⟨ys, h2⟩ := e.2 p xs h
    intro p' xs' z
    cases z
    rw [h2]
    intro z
    cases z
  · exact absurd h (no p xs rfl)
theorem tb_cases {k n : Nat} {H : Hp} {v : V} (h : TB k (n + 1) H v) : NoTup H v ∨ ∃ p xs, v = .ref p ∧ H p = some (.tup xs) ∧ xs.length ≤ 100 ∧ ∀ x ∈ xs, TB k n H x := by
  rcases h with h | ⟨p, xs, rfl, h⟩ | h
  · left
    intro p xs e
    have ha := h.atom
    rw [e] at ha
    cases ha
  · left
    intro p' xs' e
    cases e
    rw [h]
    intro z
    cases z
  · exact .inr h
theorem rowOf_tb {k n : Nat} {H H' : Hp} {g m : Int} {v : V} (h : TB k (n + 1) H v) (e : Kd H H') : rowOf H' g m v = rowOf H g m v := by
  rcases tb_cases h with no | ⟨p, xs, rfl, hp, hz, hx⟩
  · rw [rowOf_no no, rowOf_no (notup_kd h no e)]
  · rw [rowOf_tup hp, rowOf_tup (e.1 _ _ hp), all_congr fun x m => numOf_tb (hx x m) e]
def tabAt (H : Hp) (g m w : Int) : Option HO → Bool
  | some (.tup xs) => decide ((xs.length : Int) = m) && xs.all (rowOf H g w)
  | _ => false
def tabOf (H : Hp) (g m w : Int) : V → Bool
  | .ref p => tabAt H g m w (H p)
  | _ => false
theorem tabOf_tup {H : Hp} {g m w : Int} {p : Addr} {xs : List V} (h : H p = some (.tup xs)) : tabOf H g m w (.ref p) = (decide ((xs.length : Int) = m) && xs.all (rowOf H g w)) := by
  show tabAt H g m w (H p) = _
  rw [h]
  rfl
theorem tabOf_no {H : Hp} {g m w : Int} {v : V} (h : NoTup H v) : tabOf H g m w v = false := by
  cases v with
  | ref p =>
    show tabAt H g m w (H p) = false
    cases e : H p with
    | none => rfl
    | some o =>
      cases o with
      | tup xs => exact absurd e (h p xs rfl)
      | _ => rfl
  | _ => rfl
theorem tabOf_tb {k n : Nat} {H H' : Hp} {g m w : Int} {v : V} (h : TB k (n + 2) H v) (e : Kd H H') : tabOf H' g m w v = tabOf H g m w v := by
  rcases tb_cases h with no | ⟨p, xs, rfl, hp, hz, hx⟩
  · rw [tabOf_no no, tabOf_no (notup_kd h no e)]
  · rw [tabOf_tup hp, tabOf_tup (e.1 _ _ hp), all_congr fun x m => rowOf_tb (hx x m) e]
theorem all_map {f : V → Bool} {xs : List V} : (xs.map f).all id = xs.all f := by
  rw [List.all_map]
  rfl
end Fm

namespace Fm
open PySem PySem.Spec PyProof.Rows L2
/-! ### drawn numbers and their sums -/
def NG (g : Int) (i : Nat) (a : Int × Int) : Prop := 0 < a.2 ∧ a.2 ∣ 2520 ∧ a.1.natAbs ≤ 64 * 2 ^ i * a.2.natAbs ∧ (g = 0 ∨ (3 ≤ g ∧ g ≤ 13 ∧ a.2 = 1))
theorem NG.mono {g : Int} {i j : Nat} {a : Int × Int} (h : NG g i a) (hj : i ≤ j) : NG g j a :=
  ⟨h.1, h.2.1, Nat.le_trans h.2.2.1 (Nat.mul_le_mul_right _ (Nat.mul_le_mul_left _ (Nat.pow_le_pow_right (by decide) hj))), h.2.2.2⟩
theorem NG.ok {g : Int} {i : Nat} {a : Int × Int} (h : NG g i a) (hi : i ≤ 10) : OkN g 40 a := by
  have h2 : a.2 ≤ 2520 := Int.le_of_dvd (by decide) h.2.1
  have h0 := h.1
  have h3 : a.1.natAbs ≤ 64 * 2 ^ 10 * 2520 := Nat.le_trans h.2.2.1 (Nat.mul_le_mul (Nat.mul_le_mul_left _ (Nat.pow_le_pow_right (by decide) hi)) (by omega))
  refine ⟨Nat.lt_of_le_of_lt h3 (by decide), Nat.lt_of_le_of_lt (show a.2.natAbs ≤ 2520 by omega) (by decide), ?_⟩
  rcases h.2.2.2 with z | z
  · exact .inl ⟨z, h.1⟩
  · exact .inr z
theorem ng_low {u d : Int} (hu : u.natAbs ≤ 64) (hd1 : 1 ≤ d) (hd : d ≤ 9) : NG 0 0 (lowF 0 u d) := by
  have hn : d ≠ 0 := by omega
  obtain ⟨hr, he⟩ := low0_red (u := u) hn
  obtain ⟨q1, q2, e, e1, e2⟩ := low0_eq (u := u) hn
  refine ⟨hr.1, ?_, ?_, .inl rfl⟩
  · have h1 : (lowF 0 u d).2 ∣ d := by
      rw [e]
      exact ⟨lowC u d, by rw [Int.mul_comm]; exact e2⟩
    refine Int.dvd_trans h1 ?_
    rcases (by omega : d = 1 ∨ d = 2 ∨ d = 3 ∨ d = 4 ∨ d = 5 ∨ d = 6 ∨ d = 7 ∨ d = 8 ∨ d = 9) with rfl | rfl | rfl | rfl | rfl | rfl | rfl | rfl | rfl <;> decide
  · have h2 := congrArg Int.natAbs he
    rw [Int.natAbs_mul, Int.natAbs_mul] at h2
    have h3 : (lowF 0 u d).1.natAbs * 1 ≤ (lowF 0 u d).1.natAbs * d.natAbs := Nat.mul_le_mul_left _ (by omega)
    rw [Nat.mul_one, h2] at h3
    refine Nat.le_trans h3 ?_
    rw [Nat.pow_zero, Nat.mul_one]
    exact Nat.mul_le_mul_right _ hu
theorem ng_plus {g : Int} {i : Nat} {x y : Int × Int} (hx : NG g i x) (hy : NG g i y) : NG g (i + 1) (plusF g x y) := by
  rcases hx.2.2.2 with h0 | ⟨h3, h13, hx1⟩
  · subst h0
    have hn : x.2 * y.2 ≠ 0 := Int.mul_ne_zero (by have := hx.1; omega) (by have := hy.1; omega)
    obtain ⟨hr, he⟩ := low0_red (u := x.1 * y.2 + y.1 * x.2) hn
    have ep : plusF 0 x y = lowF 0 (x.1 * y.2 + y.1 * x.2) (x.2 * y.2) := rfl
    rw [← ep] at hr he
    generalize plusF 0 x y = p at hr he
    refine ⟨hr.1, ?_, ?_, .inl rfl⟩
    · obtain ⟨qx, ex⟩ := hx.2.1
      obtain ⟨qy, ey⟩ := hy.2.1
      have h1 : p.1 * 2520 = (x.1 * qx + y.1 * qy) * p.2 := by
        have : (p.1 * 2520) * (x.2 * y.2) = ((x.1 * qx + y.1 * qy) * p.2) * (x.2 * y.2) := by
          calc (p.1 * 2520) * (x.2 * y.2) = (p.1 * (x.2 * y.2)) * 2520 := by rw [Int.mul_right_comm]
            _ = ((x.1 * y.2 + y.1 * x.2) * p.2) * 2520 := by rw [he]
            _ = (x.1 * y.2 * 2520 + y.1 * x.2 * 2520) * p.2 := by rw [Int.mul_right_comm, Int.add_mul]
            _ = (x.1 * y.2 * (x.2 * qx) + y.1 * x.2 * (y.2 * qy)) * p.2 := by rw [← ex, ← ey]
            _ = ((x.1 * qx + y.1 * qy) * (x.2 * y.2)) * p.2 := by
              congr 1
              rw [Int.add_mul]
              congr 1 <;> ac_rfl
            _ = ((x.1 * qx + y.1 * qy) * p.2) * (x.2 * y.2) := by rw [Int.mul_right_comm]
        exact Int.eq_of_mul_eq_mul_right hn this
      exact dvd_cop hr.2 ⟨x.1 * qx + y.1 * qy, by rw [h1, Int.mul_comm]⟩
    · have h2 := congrArg Int.natAbs he
      rw [Int.natAbs_mul, Int.natAbs_mul, Int.natAbs_mul] at h2
      have hN : (x.1 * y.2 + y.1 * x.2).natAbs ≤ 2 * (64 * 2 ^ i) * (x.2.natAbs * y.2.natAbs) := by
        refine Nat.le_trans (Int.natAbs_add_le _ _) ?_
        rw [Int.natAbs_mul, Int.natAbs_mul]
        have a1 := Nat.mul_le_mul_right y.2.natAbs hx.2.2.1
        have a2 := Nat.mul_le_mul_right x.2.natAbs hy.2.2.1
        have e1 : 64 * 2 ^ i * x.2.natAbs * y.2.natAbs = 64 * 2 ^ i * (x.2.natAbs * y.2.natAbs) := Nat.mul_assoc ..
        have e2 : 64 * 2 ^ i * y.2.natAbs * x.2.natAbs = 64 * 2 ^ i * (x.2.natAbs * y.2.natAbs) := by rw [Nat.mul_assoc, Nat.mul_comm y.2.natAbs]
        rw [Nat.mul_assoc 2]
        omega
      have hD : 0 < x.2.natAbs * y.2.natAbs := Nat.mul_pos (by have := hx.1; omega) (by have := hy.1; omega)
      have h3 : p.1.natAbs * (x.2.natAbs * y.2.natAbs) ≤ (2 * (64 * 2 ^ i) * p.2.natAbs) * (x.2.natAbs * y.2.natAbs) := by
        rw [h2]
        refine Nat.le_trans (Nat.mul_le_mul_right _ hN) (Nat.le_of_eq ?_)
        ac_rfl
      have h4 := Nat.le_of_mul_le_mul_right h3 hD
      rw [Nat.pow_succ]
      refine Nat.le_trans h4 (Nat.le_of_eq ?_)
      ac_rfl
  · have hy1 : y.2 = 1 := by
      rcases hy.2.2.2 with z | z
      · omega
      · exact z.2.2
    have e : plusF g x y = ((x.1 * 1 + y.1 * 1).fmod g, 1) := by
      unfold plusF
      rw [hx1, hy1]
      exact low_one (by omega)
    rw [e]
    have b0 := Int.fmod_nonneg_of_pos (x.1 * 1 + y.1 * 1) (show 0 < g by omega)
    have b1 := Int.fmod_lt_of_pos (x.1 * 1 + y.1 * 1) (show 0 < g by omega)
    refine ⟨show (0 : Int) < 1 by decide, show (1 : Int) ∣ 2520 by decide, ?_, .inr ⟨h3, h13, rfl⟩⟩
    show ((x.1 * 1 + y.1 * 1).fmod g).natAbs ≤ 64 * 2 ^ (i + 1) * (1 : Int).natAbs
    have : 1 ≤ 2 ^ (i + 1) := Nat.one_le_two_pow
    have e1 : (1 : Int).natAbs = 1 := rfl
    rw [e1, Nat.mul_one]
    generalize 2 ^ (i + 1) = z at this ⊢
    generalize (x.1 * 1 + y.1 * 1).fmod g = w at b0 b1 ⊢
    omega
/-- bounds for the operations -/
def PBd (a : Int × Int) : Prop := a.1.natAbs < 2 ^ 3000 ∧ a.2.natAbs < 2 ^ 3000 ∧ a.2 ≠ 0
theorem OkN.pb {g : Int} {k : Nat} {a : Int × Int} (h : OkN g k a) (hk : k ≤ 3000) : PBd a := ⟨Nat.lt_of_lt_of_le h.1 (Nat.pow_le_pow_right (by decide) hk), Nat.lt_of_lt_of_le h.2.1 (Nat.pow_le_pow_right (by decide) hk), by have := h.pos; omega⟩
def NumG (g : Int) (H : Hp) (v : V) (i : Nat) : Prop := ∃ a, NumV H v a ∧ NG g i a
def RowG (g : Int) (H : Hp) (v : V) (n i : Nat) : Prop := ∃ r, RowV H v r ∧ r.length = n ∧ ∀ a ∈ r, NG g i a
def TabG (g : Int) (H : Hp) (v : V) (m n i : Nat) : Prop := ∃ t, TabV H v t ∧ t.length = m ∧ ∀ r ∈ t, r.length = n ∧ ∀ a ∈ r, NG g i a
theorem NumG.kt {g : Int} {H H' : Hp} {v : V} {i : Nat} (h : NumG g H v i) (s : Kt H H') : NumG g H' v i := by
  obtain ⟨a, h1, h2⟩ := h
  exact ⟨a, h1.kt s, h2⟩
theorem RowG.kt {g : Int} {H H' : Hp} {v : V} {n i : Nat} (h : RowG g H v n i) (s : Kt H H') : RowG g H' v n i := by
  obtain ⟨a, h1, h2⟩ := h
  exact ⟨a, RowV.kt h1 s, h2⟩
theorem RowG.mono {g : Int} {H : Hp} {v : V} {n i j : Nat} (h : RowG g H v n i) (hj : i ≤ j) : RowG g H v n j := by
  obtain ⟨a, h1, h2, h3⟩ := h
  exact ⟨a, h1, h2, fun x hx => (h3 x hx).mono hj⟩
theorem TabG.kt {g : Int} {H H' : Hp} {v : V} {m n i : Nat} (h : TabG g H v m n i) (s : Kt H H') : TabG g H' v m n i := by
  obtain ⟨a, h1, h2⟩ := h
  exact ⟨a, TabV.kt h1 s, h2⟩
theorem rowG_mk {g : Int} {H : Hp} {p : Addr} {xs : List V} {n i : Nat} (hp : H p = some (.tup xs)) (hl : xs.length = n) (hx : ∀ x ∈ xs, NumG g H x i) : RowG g H (.ref p) n i := by
  obtain ⟨as, g1, g2, g3⟩ := sq_val (P := NumV) (S := NG g i) (H := H) (xs := xs) hx
  exact ⟨as, ⟨p, xs, rfl, hp, g1, g3⟩, by omega, g2⟩
theorem tabG_mk {g : Int} {H : Hp} {p : Addr} {xs : List V} {m n i : Nat} (hp : H p = some (.tup xs)) (hl : xs.length = m) (hx : ∀ x ∈ xs, RowG g H x n i) : TabG g H (.ref p) m n i := by
  obtain ⟨as, g1, g2, g3⟩ := sq_val (P := RowV) (S := fun r => r.length = n ∧ ∀ a ∈ r, NG g i a) (H := H) (xs := xs) hx
  exact ⟨as, ⟨p, xs, rfl, hp, g1, g3⟩, by omega, g2⟩
theorem RowV.dat {K : PySem.W.Frag} {H : Hp} {v : V} {r : List (Int × Int)} (h : RowV H v r) : Dat K H v 2 := by
  obtain ⟨p, xs, rfl, hp, hl, hx⟩ := h
  refine dat_tup hp fun z hz => ?_
  obtain ⟨i, hi, e⟩ := List.mem_iff_getElem.mp hz
  have e1 : xs[i]? = some z := by rw [List.getElem?_eq_getElem hi, e]
  obtain ⟨q, rfl, hq⟩ := hx i z _ e1 (List.getElem?_eq_getElem (by omega))
  refine dat_tup hq fun w hw => ?_
  rcases List.mem_cons.mp hw with rfl | hw
  · exact dat_int
  · rw [List.mem_singleton.mp hw]; exact dat_int
theorem rowsG_end {g : Int} {H Hn : Hp} {b F : Addr} {xs : List V} {row : V} {n i : Nat} (mv : Mv b H Hn) (hb : Bag Hn b) (hF0 : H F = none) (nF : F ≠ b) (hF : Hn F = some (.lst xs)) (hl : xs.length = i) (hx : ∀ x ∈ xs, RowG g Hn x n i) (hr : RowG g Hn row n (i + 1)) :
    Mv b H (upd Hn F (.lst (xs ++ [row]))) ∧ Bag (upd Hn F (.lst (xs ++ [row]))) b ∧ ∃ ys : List V, (upd Hn F (.lst (xs ++ [row]))) F = some (.lst ys) ∧ ys.length = i + 1 ∧ ∀ x ∈ ys, RowG g (upd Hn F (.lst (xs ++ [row]))) x n (i + 1) := by
  have kt : Kt Hn (upd Hn F (.lst (xs ++ [row]))) := Kt.updL hF
  refine ⟨mv.updD hF0, hb.upd nF, xs ++ [row], upd_same, by rw [List.length_append, hl]; rfl, fun x h => ?_⟩
  rcases List.mem_append.mp h with h | h
  · exact ((hx x h).kt kt).mono (Nat.le_succ i)
  · rw [List.mem_singleton.mp h]
    exact hr.kt kt
theorem RowG.zeros {g : Int} {H : Hp} {u : Addr} {l : Addr} {n : Nat} (hg : g = 0 ∨ (3 ≤ g ∧ g ≤ 13)) (hu : H u = some (.tup [.int 0, .int 1])) (hl : H l = some (.tup (List.replicate n [V.ref u]).flatten)) : RowG g H (.ref l) n 0 := by
  rw [List.flatten_replicate_singleton] at hl
  refine rowG_mk hl List.length_replicate fun x hx => ?_
  rw [(List.mem_replicate.mp hx).2]
  refine ⟨(0, 1), ⟨u, rfl, hu⟩, by decide, by decide, by decide, ?_⟩
  rcases hg with z | z
  · exact .inl z
  · exact .inr ⟨z.1, z.2, rfl⟩
end Fm

namespace Fm
open PySem PySem.Spec PyProof.Rows L2
theorem part_ok {g : Int} {r s : List (Int × Int)} (hg : g = 0 ∨ (3 ≤ g ∧ g ≤ 13)) (hr : ∀ x ∈ r, OkN g 40 x) (hs : ∀ x ∈ s, OkN g 40 x) (hl : r.length ≤ 10) (hl2 : s.length ≤ 10) : PBd (cellF g r s) := by
  have p1 : ∀ x ∈ r, 0 < x.2 := fun x h => (hr x h).pos
  have p2 : ∀ x ∈ s, 0 < x.2 := fun x h => (hs x h).pos
  have e1 : 40 * r.length ≤ 400 := Nat.mul_le_mul_left 40 hl
  have e2 : 40 * s.length ≤ 400 := Nat.mul_le_mul_left 40 hl2
  have b1 := wrB_bd (k := 40) (r := r) fun x h => ⟨p1 x h, (hr x h).2.1⟩
  have b2 := wrB_bd (k := 40) (r := s) fun x h => ⟨p2 x h, (hs x h).2.1⟩
  have c1 : ∀ t ∈ wrT r, t.natAbs ≤ 2 ^ 440 := fun t h => Nat.le_trans (wrT_bd hr t h) (Nat.pow_le_pow_right (by decide) (by omega))
  have c2 : ∀ t ∈ wrT s, t.natAbs ≤ 2 ^ 440 := fun t h => Nat.le_trans (wrT_bd hs t h) (Nat.pow_le_pow_right (by decide) (by omega))
  have d := dot_bd c1 c2
  rw [wrT_len] at d
  have dN : (dotF (wrT r) (wrT s)).natAbs < 2 ^ 3000 := by
    refine Nat.lt_of_le_of_lt (Nat.le_trans d (Nat.mul_le_mul_right _ (show r.length ≤ 2 ^ 4 by omega))) ?_
    rw [← Nat.pow_add]
    exact Nat.pow_lt_pow_right (by decide) (by decide)
  have dD : (wrB r * wrB s).natAbs < 2 ^ 3000 := by
    rw [Int.natAbs_mul]
    refine Nat.lt_of_le_of_lt (Nat.mul_le_mul b1 b2) ?_
    rw [← Nat.pow_add]
    exact Nat.pow_lt_pow_right (by decide) (by omega)
  rw [cell_is hg hr hs]
  exact low_bd (by omega) (Int.mul_ne_zero (by have := (wrB_spec p1).1; omega) (by have := (wrB_spec p2).1; omega)) (by decide) dN dD
theorem times_ok {g : Int} {x z : Int × Int} (hg : g ≤ 13) (hx : OkN g 40 x) (hz : OkN g 40 z) : PBd (timesF g x z) := by
  have b1 := wide_lt hx.1 hz.1
  have b2 := wide_lt hx.2.1 hz.2.1
  have up : ∀ {n : Nat}, n < 2 ^ (40 + 40) → n < 2 ^ 3000 := fun h => Nat.lt_of_lt_of_le h (Nat.pow_le_pow_right (by decide) (by decide))
  exact low_bd hg (Int.mul_ne_zero (by have := hx.pos; omega) (by have := hz.pos; omega)) (by decide) (up b1) (up b2)
theorem ok_take {g : Int} {k i : Nat} {r : List (Int × Int)} (h : ∀ x ∈ r, OkN g k x) : ∀ x ∈ r.take i, OkN g k x := fun x hx => h x (List.mem_of_mem_take hx)
/-! ### bent things -/
def NK (kb : Nat) (H : Hp) (v : V) : Prop := ∃ a : Int × Int, NumV H v a ∧ a.1.natAbs < 2 ^ kb ∧ a.2.natAbs < 2 ^ kb
def RK (kb : Nat) (H : Hp) (v : V) : Prop := ∃ p xs, v = .ref p ∧ H p = some (.tup xs) ∧ 0 < xs.length ∧ xs.length ≤ 10 ∧ ∀ x ∈ xs, NK kb H x
def TK (kb : Nat) (H : Hp) (v : V) : Prop := ∃ p xs, v = .ref p ∧ H p = some (.tup xs) ∧ 0 < xs.length ∧ xs.length ≤ 10 ∧ ∀ x ∈ xs, RK kb H x
theorem NK.kt {kb : Nat} {H H' : Hp} {v : V} (h : NK kb H v) (s : Kt H H') : NK kb H' v := by
  obtain ⟨a, h1, h2⟩ := h
  exact ⟨a, h1.kt s, h2⟩
theorem RK.kt {kb : Nat} {H H' : Hp} {v : V} (h : RK kb H v) (s : Kt H H') : RK kb H' v := by
  obtain ⟨p, xs, e, hp, h1, h2, hx⟩ := h
  exact ⟨p, xs, e, s _ _ hp, h1, h2, fun x m => (hx x m).kt s⟩
theorem TK.kt {kb : Nat} {H H' : Hp} {v : V} (h : TK kb H v) (s : Kt H H') : TK kb H' v := by
  obtain ⟨p, xs, e, hp, h1, h2, hx⟩ := h
  exact ⟨p, xs, e, s _ _ hp, h1, h2, fun x m => (hx x m).kt s⟩
theorem lt_up {a : Int} {k l : Nat} (h : a.natAbs < 2 ^ k) (hl : k ≤ l) : a.natAbs < 2 ^ l := Nat.lt_of_lt_of_le h (Nat.pow_le_pow_right (by decide) hl)
theorem NK.tb {kb l : Nat} {H : Hp} {v : V} (h : NK kb H v) (hl : kb ≤ l) : TB l 1 H v := by
  obtain ⟨a, ⟨p, rfl, hp⟩, h1, h2⟩ := h
  refine TB.tup hp (by simp) fun x hx => ?_
  simp only [List.mem_cons, List.not_mem_nil, or_false] at hx
  rcases hx with rfl | rfl
  · exact .inl (lt_up h1 hl)
  · exact .inl (lt_up h2 hl)
theorem RK.tb {kb l : Nat} {H : Hp} {v : V} (h : RK kb H v) (hl : kb ≤ l) : TB l 2 H v := by
  obtain ⟨p, xs, rfl, hp, _, h2, hx⟩ := h
  exact TB.tup hp (by omega) fun x m => (hx x m).tb hl
theorem TK.tb {kb l : Nat} {H : Hp} {v : V} (h : TK kb H v) (hl : kb ≤ l) : TB l 3 H v := by
  obtain ⟨p, xs, rfl, hp, _, h2, hx⟩ := h
  exact TB.tup hp (by omega) fun x m => (hx x m).tb hl
theorem TB.a {k n : Nat} {H : Hp} {i : Int} (h : i.natAbs < 2 ^ k) : TB k n H (.int i) := TB.at h
theorem TB.tupA {k : Nat} {H : Hp} {p : Addr} {xs : List V} (h : H p = some (.tup xs)) (hz : xs.length ≤ 100) (hx : ∀ x ∈ xs, AtB k x) : TB k 1 H (.ref p) := TB.tup h hz fun x m => TB.at (hx x m)
/-- what the looks say of a table, back to its numbers -/
theorem nk_of {k n : Nat} {H : Hp} {g : Int} {v : V} (h : TB k (n + 1) H v) (e : numOf H g v = true) : NK k H v := by
  rcases tb_cases h with no | ⟨p, xs, rfl, hp, hz, hx⟩
  · rw [numOf_no no] at e
    cases e
  · rw [numOf_tup hp] at e
    match xs, e, hx, hp with
    | [.int t, .int b], e, hx, hp =>
      have a1 : (TB k n H (.int t)) := hx _ (by simp)
      have a2 : (TB k n H (.int b)) := hx _ (by simp)
      have f : ∀ {i : Int}, TB k n H (.int i) → i.natAbs < 2 ^ k := fun {i} z => by
        cases n with
        | zero =>
          rcases z with z | ⟨p, xs, z, _⟩
          · exact z
          · cases z
        | succ n =>
          rcases z with z | ⟨p, xs, z, _⟩ | ⟨p, xs, z, _⟩
          · exact z
          · cases z
          · cases z
      exact ⟨(t, b), ⟨p, rfl, hp⟩, f a1, f a2⟩
theorem rk_of {k n : Nat} {H : Hp} {g m : Int} {v : V} (h : TB k (n + 2) H v) (e : rowOf H g m v = true) (h1 : 1 ≤ m) (h2 : m ≤ 10) : RK k H v := by
  rcases tb_cases h with no | ⟨p, xs, rfl, hp, hz, hx⟩
  · rw [rowOf_no no] at e
    cases e
  · rw [rowOf_tup hp, Bool.and_eq_true] at e
    have el := of_decide_eq_true e.1
    exact ⟨p, xs, rfl, hp, by omega, by omega, fun x m => nk_of (hx x m) (List.all_eq_true.mp e.2 x m)⟩
theorem tk_of {k n : Nat} {H : Hp} {g m w : Int} {v : V} (h : TB k (n + 3) H v) (e : tabOf H g m w v = true) (h1 : 1 ≤ m) (h2 : m ≤ 10) (h3 : 1 ≤ w) (h4 : w ≤ 10) : TK k H v := by
  rcases tb_cases h with no | ⟨p, xs, rfl, hp, hz, hx⟩
  · rw [tabOf_no no] at e
    cases e
  · rw [tabOf_tup hp, Bool.and_eq_true] at e
    have el := of_decide_eq_true e.1
    exact ⟨p, xs, rfl, hp, by omega, by omega, fun x m => rk_of (hx x m) (List.all_eq_true.mp e.2 x m) h3 h4⟩
theorem RowG.rk {g : Int} {H : Hp} {v : V} {n i kb : Nat} (h : RowG g H v n i) (hi : i ≤ 10) (hk : 40 ≤ kb) (hn : 0 < n) (hn2 : n ≤ 10) : RK kb H v := by
  obtain ⟨r, ⟨p, xs, e, hp, hl, hx⟩, hr, hg⟩ := h
  refine ⟨p, xs, e, hp, by omega, by omega, fun x m => ?_⟩
  obtain ⟨j, hj, ej⟩ := List.mem_iff_getElem.mp m
  have e1 : xs[j]? = some x := by rw [List.getElem?_eq_getElem hj, ej]
  have e2 : r[j]? = some (r[j]'(by omega)) := List.getElem?_eq_getElem (by omega)
  have ok := (hg _ (List.getElem_mem (show j < r.length by omega))).ok hi
  exact ⟨_, hx j x _ e1 e2, lt_up ok.1 hk, lt_up ok.2.1 hk⟩
theorem TabG.tk {g : Int} {H : Hp} {v : V} {m n i kb : Nat} (h : TabG g H v m n i) (hi : i ≤ 10) (hk : 40 ≤ kb) (hm : 0 < m) (hm2 : m ≤ 10) (hn : 0 < n) (hn2 : n ≤ 10) : TK kb H v := by
  obtain ⟨t, ⟨p, xs, e, hp, hl, hx⟩, ht, hg⟩ := h
  refine ⟨p, xs, e, hp, by omega, by omega, fun x mm => ?_⟩
  obtain ⟨j, hj, ej⟩ := List.mem_iff_getElem.mp mm
  have e1 : xs[j]? = some x := by rw [List.getElem?_eq_getElem hj, ej]
  have e2 : t[j]? = some (t[j]'(by omega)) := List.getElem?_eq_getElem (by omega)
  have hh := hg _ (List.getElem_mem (show j < t.length by omega))
  exact RowG.rk ⟨_, hx j x _ e1 e2, hh.1, hh.2⟩ hi hk hn hn2
theorem w_sl {r : V → Option Int → Option Int → Hp → VK → Prop} {te : TE} {tl th : TO} {σ : L2.St} {H : Hp} {Q : VK} (h : te σ H fun x H1 => tl σ H1 fun l H2 => th σ H2 fun u H3 => r x l u H3 Q) : tSl r te tl th σ H Q := h
theorem w_part {te : TE} {σ : L2.St} {H : Hp} {R : Option Int → Hp → Prop} (h : te σ H fun x H1 => ∃ i, x = .int i ∧ R (some i) H1) : tPart te σ H R := h
theorem w_nopart {σ : L2.St} {H : Hp} {R : Option Int → Hp → Prop} (h : R none H) : tNoPart σ H R := h
theorem w_exi {a : Int} {R : Int → Prop} (h : R a) : ∃ i, V.int a = .int i ∧ R i := ⟨a, rfl, h⟩
theorem cut_mem {xs : List V} {lo hi : Option Int} : (∀ y ∈ cutV xs lo hi, y ∈ xs) ∧ (cutV xs lo hi).length ≤ xs.length := by
  unfold cutV
  refine ⟨fun y hy => List.mem_of_mem_drop (List.mem_of_mem_take hy), ?_⟩
  rw [List.length_take, List.length_drop]
  omega
theorem w_slA {K : PySem.W.Frag} {H : Hp} {Q : VK} {p : Addr} {xs : List V} {lo hi : Option Int} (hp : H p = some (.tup xs)) (q : ∀ q' H' ys, Same H H' → H' q' = some (.tup ys) → ys.length ≤ xs.length → (∀ y ∈ ys, y ∈ xs) → Q (.ref q') H') : rSlA K (.ref p) lo hi H Q :=
  ⟨p, xs, rfl, SqT.of hp, fun _ => q p H xs (Same.refl H) hp (Nat.le_refl _) (fun y h => h), fun _ l hl => q l _ _ (same_upd hl) upd_same cut_mem.2 cut_mem.1⟩
theorem w_catA {K : PySem.W.Frag} {H : Hp} {Q : VK} {p r : Addr} {xs ys : List V} (hp : H p = some (.tup xs)) (hr : H r = some (.tup ys)) (hz : xs.length + ys.length ≤ 1000) (q : ∀ q' H' zs, Same H H' → H' q' = some (.tup zs) → zs.length ≤ xs.length + ys.length → (∀ y ∈ zs, y ∈ xs ∨ y ∈ ys) → Q (.ref q') H') : rCatA K (.ref p) (.ref r) H Q :=
  ⟨p, r, xs, ys, rfl, rfl, SqT.of hp, SqT.of hr, Nat.le_of_lt (small1000 hz), fun _ => q r H ys (Same.refl H) hr (Nat.le_add_left _ _) (fun y h => .inr h), fun _ _ => q p H xs (Same.refl H) hp (Nat.le_add_right _ _) (fun y h => .inl h), fun _ _ l hl => q l _ _ (same_upd hl) upd_same (by rw [List.length_append]; exact Nat.le_refl _) (fun y h => List.mem_append.mp h)⟩
theorem TB.kd' {k n : Nat} {H H' : Hp} {v : V} (h : TB k n H v) (e : Kd H H') : TB k n H' v := TB.kd e h
end Fm

namespace Fm
open PySem PySem.Spec PyProof.Rows L2
/-! ### tables as data -/
def numD (a : Int × Int) : PyData := .tuple [.int a.1, .int a.2]
def rowD (r : List (Int × Int)) : PyData := .tuple (r.map numD)
theorem dpAll_of {α : Type} {K : PySem.W.Frag} {H : Hp} {f : α → PyData} : ∀ {xs : List V} {as : List α}, xs.length = as.length → (∀ (i : Nat) (x : V) (a : α), xs[i]? = some x → as[i]? = some a → Dp K H x (f a)) → DpAll K H xs (as.map f)
  | [], [], _, _ => .nil
  | [], _ :: _, h, _ => by cases h
  | _ :: _, [], h, _ => by cases h
  | x :: xs, a :: as, h, hx => .cons (hx 0 x a rfl rfl) (dpAll_of (by simpa using h) fun i y b h1 h2 => hx (i + 1) y b h1 h2)
theorem NumV.dp {K : PySem.W.Frag} {H : Hp} {v : V} {a : Int × Int} (h : NumV H v a) : Dp K H v (numD a) := by
  obtain ⟨p, rfl, hp⟩ := h
  exact .tup (SqT.of hp) (.cons (.int _) (.cons (.int _) .nil))
theorem RowV.dp {K : PySem.W.Frag} {H : Hp} {v : V} {r : List (Int × Int)} (h : RowV H v r) : Dp K H v (rowD r) := by
  obtain ⟨p, xs, rfl, hp, hl, hx⟩ := h
  exact .tup (SqT.of hp) (dpAll_of hl fun i x a h1 h2 => (hx i x a h1 h2).dp)
theorem TabV.dp {K : PySem.W.Frag} {H : Hp} {v : V} {t : List (List (Int × Int))} (h : TabV H v t) : Dp K H v (.tuple (t.map rowD)) := by
  obtain ⟨p, xs, rfl, hp, hl, hx⟩ := h
  exact .tup (SqT.of hp) (dpAll_of hl fun i x a h1 h2 => RowV.dp (hx i x a h1 h2))
theorem lay_num : ∀ (r : List (Int × Int)), PyData.canLayAll0 (r.map numD) = true ∧ PyData.depthAll (r.map numD) ≤ 1
  | [] => ⟨by simp [PyData.canLayAll0], by simp [PyData.depthAll]⟩
  | a :: r => by
    have ih := lay_num r
    refine ⟨?_, ?_⟩
    · rw [List.map_cons, PyData.canLayAll0, ih.1]
      simp [numD, PyData.canLay0, PyData.canLayAll0]
    · rw [List.map_cons, PyData.depthAll]
      have : (numD a).depth ≤ 1 := by simp [numD, PyData.depth, PyData.depthAll]
      have := ih.2
      omega
theorem lay_row : ∀ (t : List (List (Int × Int))), PyData.canLayAll0 (t.map rowD) = true ∧ PyData.depthAll (t.map rowD) ≤ 2
  | [] => ⟨by simp [PyData.canLayAll0], by simp [PyData.depthAll]⟩
  | r :: t => by
    have ih := lay_row t
    have h := lay_num r
    refine ⟨?_, ?_⟩
    · rw [List.map_cons, PyData.canLayAll0, ih.1]
      simp [rowD, PyData.canLay0, h.1]
    · rw [List.map_cons, PyData.depthAll]
      have : (rowD r).depth ≤ 2 := by rw [rowD, PyData.depth]; have := h.2; omega
      have := ih.2
      omega
theorem w_neTab {K : PySem.W.Frag} {H : Hp} {Q : VK} {v v' : V} {t t' : List (List (Int × Int))} (h1 : TabV H v t) (h2 : TabV H v' t') (e : t = t') (q : Q (.bl false) H) : rNeD K v v' H Q := by
  subst e
  have l := lay_row t
  have c : PyData.canLay0 (.tuple (t.map rowD)) = true := by rw [PyData.canLay0]; exact l.1
  have d : PyData.depth (.tuple (t.map rowD)) ≤ 64 := by rw [PyData.depth]; have := l.2; omega
  refine ⟨_, _, TabV.dp h1, TabV.dp h2, shaped_of c d, shaped_of c d, ?_⟩
  rw [SeqAt.eqv_refl _ c]
  exact q
theorem w_neRows {K : PySem.W.Frag} {H : Hp} {Q : VK} {p r : Addr} {xs ys : List V} {t : List (List (Int × Int))} (hp : H p = some (.lst xs)) (hr : H r = some (.lst ys)) (h1 : Acc RowV H xs t t.length) (h2 : Acc RowV H ys t t.length) (q : Q (.bl false) H) : rNeD K (.ref p) (.ref r) H Q := by
  have l := lay_row t
  have c : PyData.canLay0 (.list (t.map rowD)) = true := by rw [PyData.canLay0]; exact l.1
  have d : PyData.depth (.list (t.map rowD)) ≤ 64 := by rw [PyData.depth]; have := l.2; omega
  refine ⟨.list (t.map rowD), .list (t.map rowD), .lst (SqL.of hp) (dpAll_of h1.1 fun i x a e1 e2 => RowV.dp (h1.2 i x a e1 e2)), .lst (SqL.of hr) (dpAll_of h2.1 fun i x a e1 e2 => RowV.dp (h2.2 i x a e1 e2)), shaped_of c d, shaped_of c d, ?_⟩
  rw [SeqAt.eqv_refl _ c]
  exact q
theorem w_eqRow {K : PySem.W.Frag} {H : Hp} {Q : VK} {v v' : V} {r : List (Int × Int)} (h1 : RowV H v r) (h2 : RowV H v' r) (q : Q (.bl true) H) : rEqD K v v' H Q := by
  have l := lay_num r
  have c : PyData.canLay0 (rowD r) = true := by rw [rowD, PyData.canLay0]; exact l.1
  have d : PyData.depth (rowD r) ≤ 64 := by rw [rowD, PyData.depth]; have := l.2; omega
  refine ⟨_, _, RowV.dp h1, RowV.dp h2, shaped_of c d, shaped_of c d, ?_⟩
  rw [SeqAt.eqv_refl _ c]
  exact q
theorem turn_len {l : Nat} {t : List (List (Int × Int))} : (turnF l t).length = l := by
  unfold turnF
  rw [List.length_map, List.length_range]
theorem turn_rows {n l : Nat} {t : List (List (Int × Int))} (ht : t.length = n) : ∀ r ∈ turnF l t, r.length = n := fun r hr => by
  obtain ⟨j, _, rfl⟩ := List.mem_map.mp hr
  rw [List.length_map, ht]
theorem turn_turn {n l : Nat} {t : List (List (Int × Int))} (ht : t.length = n) (h : ∀ r ∈ t, r.length = l) : turnF n (turnF l t) = t := by
  refine List.ext_getElem (by rw [turn_len, ht]) fun i h1 h2 => ?_
  rw [turn_len] at h1
  have e := turn_at (l := n) (j := i) (t := turnF l t) h1
  have e1 : (turnF n (turnF l t))[i]'(by rw [turn_len]; exact h1) = (turnF l t).map fun row => row.getD i (0, 1) := by
    rw [List.getElem?_eq_getElem (by rw [turn_len]; exact h1)] at e
    exact Option.some.inj e
  rw [e1]
  have hl := h _ (List.getElem_mem h2)
  refine List.ext_getElem (by rw [List.length_map, turn_len, hl]) fun j h3 h4 => ?_
  rw [List.length_map, turn_len] at h3
  rw [List.getElem_map]
  have e2 := turn_at (l := l) (j := j) (t := t) h3
  have e3 : (turnF l t)[j]'(by rw [turn_len]; exact h3) = t.map fun row => row.getD j (0, 1) := by
    rw [List.getElem?_eq_getElem (by rw [turn_len]; exact h3)] at e2
    exact Option.some.inj e2
  rw [e3, List.getD_eq_getElem?_getD, List.getElem?_map, List.getElem?_eq_getElem h2]
  show t[i].getD j (0, 1) = t[i][j]
  rw [List.getD_eq_getElem?_getD, List.getElem?_eq_getElem h4]
  rfl
theorem cell_num {g : Int} {r s : List (Int × Int)} (hg : g = 0 ∨ (3 ≤ g ∧ g ≤ 13)) (hr : ∀ x ∈ r, OkN g 40 x) (hs : ∀ x ∈ s, OkN g 40 x) : numOk g [.int (cellF g r s).1, .int (cellF g r s).2] = true := by
  rw [cell_is hg hr hs]
  have p1 : ∀ x ∈ r, 0 < x.2 := fun x h => (hr x h).pos
  have p2 : ∀ x ∈ s, 0 < x.2 := fun x h => (hs x h).pos
  rcases hg with rfl | ⟨h3, h13⟩
  · have hn : wrB r * wrB s ≠ 0 := Int.mul_ne_zero (by have := (wrB_spec p1).1; omega) (by have := (wrB_spec p2).1; omega)
    obtain ⟨⟨a, b⟩, _⟩ := low0_red (u := dotF (wrT r) (wrT s)) hn
    rw [numOk_0, b, decide_eq_true (by omega)]
    rfl
  · have o1 : ∀ x ∈ r, x.2 = 1 := fun x h => by
      rcases (hr x h).2.2 with z | z
      · omega
      · exact z.2.2
    have o2 : ∀ x ∈ s, x.2 = 1 := fun x h => by
      rcases (hs x h).2.2 with z | z
      · omega
      · exact z.2.2
    rw [wrB_one o1, wrB_one o2, Int.mul_one, low_one (by omega), numOk_g (by omega)]
    have b0 := Int.fmod_nonneg_of_pos (dotF (wrT r) (wrT s)) (show 0 < g by omega)
    have b1 := Int.fmod_lt_of_pos (dotF (wrT r) (wrT s)) (show 0 < g by omega)
    rw [decide_eq_true b0, decide_eq_true b1, decide_eq_true rfl]
    rfl
theorem NumV.nk {H : Hp} {v : V} {a : Int × Int} {k : Nat} (h : NumV H v a) (h1 : a.1.natAbs < 2 ^ k) (h2 : a.2.natAbs < 2 ^ k) : TB k 1 H v := NK.tb ⟨a, h, h1, h2⟩ (Nat.le_refl _)
theorem RowV.tb {H : Hp} {v : V} {r : List (Int × Int)} {k : Nat} (h : RowV H v r) (hl : r.length ≤ 100) (hb : ∀ a ∈ r, a.1.natAbs < 2 ^ k ∧ a.2.natAbs < 2 ^ k) : TB k 2 H v := by
  obtain ⟨p, xs, rfl, hp, hlx, hx⟩ := h
  refine TB.tup hp (by omega) fun x m => ?_
  obtain ⟨j, hj, ej⟩ := List.mem_iff_getElem.mp m
  have e1 : xs[j]? = some x := by rw [List.getElem?_eq_getElem hj, ej]
  have e2 : r[j]? = some (r[j]'(by omega)) := List.getElem?_eq_getElem (by omega)
  have b := hb _ (List.getElem_mem (show j < r.length by omega))
  exact (hx j x _ e1 e2).nk b.1 b.2
theorem TabV.tb {H : Hp} {v : V} {t : List (List (Int × Int))} {k : Nat} (h : TabV H v t) (hl : t.length ≤ 100) (hb : ∀ r ∈ t, r.length ≤ 100 ∧ ∀ a ∈ r, a.1.natAbs < 2 ^ k ∧ a.2.natAbs < 2 ^ k) : TB k 3 H v := by
  obtain ⟨p, xs, rfl, hp, hlx, hx⟩ := h
  refine TB.tup hp (by omega) fun x m => ?_
  obtain ⟨j, hj, ej⟩ := List.mem_iff_getElem.mp m
  have e1 : xs[j]? = some x := by rw [List.getElem?_eq_getElem hj, ej]
  have e2 : t[j]? = some (t[j]'(by omega)) := List.getElem?_eq_getElem (by omega)
  have b := hb _ (List.getElem_mem (show j < t.length by omega))
  exact RowV.tb (hx j x _ e1 e2) b.1 b.2
theorem row_true {H : Hp} {v : V} {r : List (Int × Int)} {g m : Int} (h : RowV H v r) (hl : (r.length : Int) = m) (hn : ∀ a ∈ r, numOk g [.int a.1, .int a.2] = true) : rowOf H g m v = true := by
  obtain ⟨p, xs, rfl, hp, hlx, hx⟩ := h
  rw [rowOf_tup hp, decide_eq_true (by omega), Bool.true_and, List.all_eq_true]
  intro x mm
  obtain ⟨j, hj, ej⟩ := List.mem_iff_getElem.mp mm
  have e1 : xs[j]? = some x := by rw [List.getElem?_eq_getElem hj, ej]
  have e2 : r[j]? = some (r[j]'(by omega)) := List.getElem?_eq_getElem (by omega)
  obtain ⟨q, rfl, hq⟩ := hx j x _ e1 e2
  rw [numOf_tup hq]
  exact hn _ (List.getElem_mem (show j < r.length by omega))
theorem tab_true {H : Hp} {v : V} {t : List (List (Int × Int))} {g m w : Int} (h : TabV H v t) (hl : (t.length : Int) = m) (hn : ∀ r ∈ t, (r.length : Int) = w ∧ ∀ a ∈ r, numOk g [.int a.1, .int a.2] = true) : tabOf H g m w v = true := by
  obtain ⟨p, xs, rfl, hp, hlx, hx⟩ := h
  rw [tabOf_tup hp, decide_eq_true (by omega), Bool.true_and, List.all_eq_true]
  intro x mm
  obtain ⟨j, hj, ej⟩ := List.mem_iff_getElem.mp mm
  have e1 : xs[j]? = some x := by rw [List.getElem?_eq_getElem hj, ej]
  have e2 : t[j]? = some (t[j]'(by omega)) := List.getElem?_eq_getElem (by omega)
  have b := hn _ (List.getElem_mem (show j < t.length by omega))
  exact row_true (hx j x _ e1 e2) b.1 b.2
end Fm

namespace Fm
open PySem PySem.Spec PyProof.Rows L2
/-! ### whole roots -/
def RootOf (n r : Nat) : Prop := r * r ≤ n ∧ n < (r + 1) * (r + 1)
theorem root_uniq {n r s : Nat} (h1 : RootOf n r) (h2 : RootOf n s) : r = s := by
  rcases Nat.lt_trichotomy r s with h | h | h
  · have : (r + 1) * (r + 1) ≤ s * s := Nat.mul_le_mul h h
    have := h1.2
    have := h2.1
    omega
  · exact h
  · have : (s + 1) * (s + 1) ≤ r * r := Nat.mul_le_mul h h
    have := h2.2
    have := h1.1
    omega
theorem four_mul (a b : Nat) : 4 * (a * b) ≤ (a + b) * (a + b) := by
  rcases Nat.le_total a b with h | h
  · obtain ⟨d, rfl⟩ := Nat.exists_eq_add_of_le h
    have e : (a + (a + d)) * (a + (a + d)) = 4 * (a * (a + d)) + d * d := by grind
    omega
  · obtain ⟨d, rfl⟩ := Nat.exists_eq_add_of_le h
    have e : (b + d + b) * (b + d + b) = 4 * ((b + d) * b) + d * d := by grind
    omega
/-- a step of Newton's stays above the root -/
theorem newton_ge {n g : Nat} (hg : 0 < g) : n < ((g + n / g) / 2 + 1) * ((g + n / g) / 2 + 1) := by
  have h1 : n < g * (n / g + 1) := Nat.lt_mul_div_succ n hg
  have h2 := four_mul g (n / g + 1)
  generalize n / g = q at h1 h2 ⊢
  have h3 : g + (q + 1) ≤ 2 * ((g + q) / 2 + 1) := by omega
  have h4 : (g + (q + 1)) * (g + (q + 1)) ≤ (2 * ((g + q) / 2 + 1)) * (2 * ((g + q) / 2 + 1)) := Nat.mul_le_mul h3 h3
  generalize (g + q) / 2 + 1 = s at h4 ⊢
  have e : (2 * s) * (2 * s) = 4 * (s * s) := by grind
  omega
/-- where a step does not go down, the root is reached -/
theorem newton_end {n g : Nat} (hg : 0 < g) (h : ¬ (g + n / g) / 2 < g) : g * g ≤ n := by
  have h1 : g ≤ n / g := by omega
  exact (Nat.le_div_iff_mul_le hg).mp h1
/-- a step of the digits' root -/
theorem digit_step {n f s : Nat} (h1 : f * f ≤ n) (h2 : n < (f + 2 * s) * (f + 2 * s)) : ((f + s) * (f + s) ≤ n → (f + s) * (f + s) ≤ n ∧ n < (f + s + s) * (f + s + s)) ∧ (¬ (f + s) * (f + s) ≤ n → f * f ≤ n ∧ n < (f + s) * (f + s)) := by
  refine ⟨fun h => ⟨h, ?_⟩, fun h => ⟨h1, by omega⟩⟩
  rw [show f + s + s = f + 2 * s by omega]
  exact h2
/-- a square in lowest terms has squares above and below -/
theorem red_square {p q : Int × Int} (hp : Red p) (hq : Red q) (h : timesF 0 q q = p) : p = (q.1 * q.1, q.2 * q.2) := by
  have hn : q.2 * q.2 ≠ 0 := Int.mul_ne_zero (by have := hq.1; omega) (by have := hq.1; omega)
  have hr : Red (q.1 * q.1, q.2 * q.2) := by
    refine ⟨Int.mul_pos hq.1 hq.1, ?_⟩
    have h1 : Nat.Coprime q.1.natAbs q.2.natAbs := hq.2
    show Nat.gcd (q.1 * q.1).natAbs (q.2 * q.2).natAbs = 1
    rw [Int.natAbs_mul, Int.natAbs_mul]
    have h2 : Nat.Coprime (q.1.natAbs * q.1.natAbs) q.2.natAbs := Nat.Coprime.mul_left h1 h1
    exact Nat.Coprime.mul_right h2 h2
  rw [← h]
  exact low0_uniq hr hn (by simp only)
end Fm

namespace Fm
open PySem PySem.Spec PyProof.Rows L2
section
variable {prog : Program} {w : World} {A : Around} {E : Value → Shared → Prop} {s : Shared}
/-- no item is left while another exception is handled: StopIteration gets that one as its context -/
theorem stops_hot {α : Type} {x1 : Addr} {Q : α → Shared → Prop} (hot : HotX.HotAt A x1 s.heap)
    (hf : ∀ (e : Addr) (h' : Heap) (o : Obj), h'.get? e = some o → o.cls = .type "StopIteration" → (∀ b u, s.heap.get? b = some u → h'.get? b = some u) → E (.ref e) { s with heap := h' }) :
    wpAny (model prog w) A (newExc (.type "StopIteration") [] >>= fun v => (raiseNew v : Sem α)) Q E s := by
  obtain ⟨hh, o1, v1, g1, d1, c1⟩ := hot
  refine wpAny_bind ?_
  simp only [newExc, newTuple]
  refine wpAny_bind (wpAny_newObj_type ?q1 (by size_fits))
  refine wpAny_bind (m := firstArgMember _ _) (wpAny_of_eq (a := Value.none) (by first | rfl | (simp only [firstArgMember]; rfl)) ?q2)
  refine wpAny_newObj_type ?q3 (by size_fits)
  have up : ∀ (u : Obj) (v : Obj) b z, s.heap.get? b = some z → ((s.heap.push u).push v).get? b = some z := fun u v b z e => Heap.get?_push_of_some v (Heap.get?_push_of_some u e)
  refine HotX.raiseNew_hot ⟨hh, o1, v1, up _ _ _ _ g1, d1, c1⟩ ?ne (Heap.get?_push_size _ rfl) rfl ?sz ?fin
  case ne => exact Nat.ne_of_lt (Heap.lt_size (Heap.get?_push_of_some _ g1))
  case sz => first | (simp; done) | (simp; omega) | (simp only [Array.size_append]; simp; omega)
  case fin =>
    refine hf _ _ _ (Heap.get?_update_self _ (Heap.get?_push_size _ rfl) rfl) rfl fun b u e => ?_
    rw [Heap.get?_update_other _ _ (Nat.ne_of_gt (Heap.lt_size (Heap.get?_push_of_some _ e)))]
    exact up _ _ _ _ e
/-- the list's iterator is at its end, an exception being handled -/
theorem list_end_hot {it l x1 : Addr} {i : Nat} {items : Array Value} {Q : Option Value → Shared → Prop} (hot : HotX.HotAt A x1 s.heap) (ne : x1 ≠ it) (st : s.heap.IsListIter it l i) (hl : s.heap.IsList l items) (out : items[i]? = none)
    (k : ∀ h', Heap.ExtBut it s.heap h' → Q none { s with heap := h' }) : wpAny (model prog w) A (pyNext (.ref it)) Q E s := by
  obtain ⟨oi, gi, ci, di⟩ := id st
  obtain ⟨ol, gl, _, nl, dl⟩ := hl
  obtain ⟨hh, o1, v1, g1, d1, c1⟩ := hot
  have nn : ¬ ((Value.ref l == Value.none) = true) := Bool.false_ne_true
  unfold pyNext
  refine wpAny_bind (wpAny_attempt (wpAny_callSpecial?_slot (name := Str.ofString "__next__") st.typeIs slot_listiter_next (wpAny_call_entry slot_listiter_next st.typeIs entry_listiter_next ?go (args_listiter_next _))))
  show wpAny _ _ (field (.ref it) 0 >>= _) _ _ s
  refine wpAny_bind (wpAny_field gi di (x := .ref l) rfl ?_)
  show wpAny _ _ (if (Value.ref l == Value.none) = true then _ else _) _ _ s
  rw [if_neg nn]
  show wpAny _ _ (field (.ref it) 1 >>= _) _ _ s
  refine wpAny_bind (wpAny_field gi di (x := .int i 0) rfl ?_)
  show wpAny _ _ (seqItems? (.ref l) >>= _) _ _ s
  refine wpAny_bind (wpAny_seqItems gl dl ?_)
  simp only [Int.toNat_natCast, out]
  refine wpAny_bind (wpAny_rule (wpAny_bind (wpAny_setField gi di (by simp) ?_)))
  refine stops_hot (x1 := x1) ⟨hh, o1, v1, (Heap.get?_update_other _ _ (Ne.symm ne)).trans g1, d1, c1⟩ fun e h' o ge ce kp => ?_
  refine wpAny_bind (wpAny_isInstance (T := "StopIteration") (b := true) ⟨o, ge, ce⟩ isSubtype_stop ?_)
  refine wpAny_pure (k h' fun b u hb eb => kp b u ?_)
  exact (Heap.get?_update_other _ _ (Ne.symm hb)).trans eb
/-- the same of a tuple -/
theorem tup_end_hot {it t x1 : Addr} {i : Nat} {items : Array Value} {Q : Option Value → Shared → Prop} (hot : HotX.HotAt A x1 s.heap) (ne : x1 ≠ it) (st : IsTupIter s.heap it t i) (hl : IsTup s.heap t items) (out : items[i]? = none)
    (k : ∀ h', Heap.ExtBut it s.heap h' → Q none { s with heap := h' }) : wpAny (model prog w) A (pyNext (.ref it)) Q E s := by
  obtain ⟨oi, gi, ci, di⟩ := id st
  obtain ⟨ol, gl, _, nl, dl⟩ := hl
  obtain ⟨hh, o1, v1, g1, d1, c1⟩ := hot
  have nn : ¬ ((Value.ref t == Value.none) = true) := Bool.false_ne_true
  unfold pyNext
  refine wpAny_bind (wpAny_attempt (wpAny_callSpecial?_slot (name := Str.ofString "__next__") st.typeIs slot_tupleiter_next (wpAny_call_entry slot_tupleiter_next st.typeIs entry_tupleiter_next ?go (args_tupleiter_next _))))
  show wpAny _ _ (field (.ref it) 0 >>= _) _ _ s
  refine wpAny_bind (wpAny_field gi di (x := .ref t) rfl ?_)
  show wpAny _ _ (if (Value.ref t == Value.none) = true then _ else _) _ _ s
  rw [if_neg nn]
  show wpAny _ _ (field (.ref it) 1 >>= _) _ _ s
  refine wpAny_bind (wpAny_field gi di (x := .int i 0) rfl ?_)
  show wpAny _ _ (seqItems? (.ref t) >>= _) _ _ s
  refine wpAny_bind (wpAny_seqItems gl dl ?_)
  simp only [Int.toNat_natCast, out]
  refine wpAny_bind (wpAny_rule (wpAny_bind (wpAny_setField gi di (by simp) ?_)))
  refine stops_hot (x1 := x1) ⟨hh, o1, v1, (Heap.get?_update_other _ _ (Ne.symm ne)).trans g1, d1, c1⟩ fun e h' o ge ce kp => ?_
  refine wpAny_bind (wpAny_isInstance (T := "StopIteration") (b := true) ⟨o, ge, ce⟩ isSubtype_stop ?_)
  refine wpAny_pure (k h' fun b u hb eb => kp b u ?_)
  exact (Heap.get?_update_other _ _ (Ne.symm hb)).trans eb
/-- a tuple's items come to names, an exception being handled -/
theorem unpack_hot {t x1 : Addr} {items : Array Value} {env : Env} {elts : List Expr} {kk} {pos : Pos} {Q : Unit → Shared → Prop} (hot : HotX.HotAt A x1 s.heap) (hl : IsTup s.heap t items)
    (hn : (assignEach elts env).length = items.size) (hst : (assignEach elts env).findIdx? (·.1) = none)
    (k : ∀ h', Heap.ExtBut s.heap.objs.size s.heap h' → wpAny (model prog w) A (assignInOrder ((assignEach elts env).map (·.2)) items.toList) Q E { s with heap := h' }) :
    wpAny (model prog w) A (assign (.Tuple elts kk pos) env (.ref t)) Q E s := by
  have lt : t ≠ s.heap.objs.size := by
    obtain ⟨o, ho, _⟩ := hl
    exact Nat.ne_of_lt (Heap.lt_size ho)
  obtain ⟨hh, o1, v1, g1, d1, c1⟩ := hot
  have n1 : x1 ≠ s.heap.objs.size := Nat.ne_of_lt (Heap.lt_size g1)
  rw [assign_Tuple]
  refine wpAny_bind (wpAny_standAt ?_)
  unfold unpack
  rw [hn, hst]
  refine wpAny_bind (wpAny_holding ?_)
  unfold unpackItems
  refine wpAny_bind ?_
  unfold notIterableAtAll
  refine wpAny_bind (wpAny_specialOf hl.typeIs slot_tuple_iter.lookup (wpAny_pure ?_))
  simp only [Bool.false_eq_true, if_false]
  refine wpAny_bind (wpAny_holding (iter_tuple hl (wpAny_bind (wpAny_holding (draw_tuple lt items.size 0 _ _ ⟨_, Heap.get?_push_size _ rfl, rfl, rfl⟩ (hl.push _) (by omega) fun h2 st2 sb2 => ?_)))))
  rw [List.drop_zero, List.take_of_length_le (by simp), if_neg (by simp)]
  have ht2 : IsTup h2 t items := (hl.push _).extBut sb2.extBut lt
  have g2 : h2.get? x1 = some o1 := (sb2.2 x1 n1).trans (Heap.get?_push_of_some _ g1)
  refine wpAny_bind (wpAny_holding (tup_end_hot (x1 := x1) ⟨hh, o1, v1, g2, d1, c1⟩ n1 st2 ht2 (by simp) fun h3 e3 => ?_))
  simp only [Option.isSome_none, Bool.false_eq_true, if_false]
  refine wpAny_pure (k h3 fun b o hb e => e3 b o hb (sb2.extBut b o hb (Heap.get?_push_of_some _ e)))
end
end Fm

namespace Fm
open PySem PySem.Spec PyProof.Rows L2
/-- a, b = a pair, while an exception is handled -/
theorem pg_tupH {X : Cx} {es : List Expr} {kk : Nat} {t : TGs} {n : Nat} {pos : Pos} (hc : L2H.HotC X) (h : PGs X es t) (hn : (assignEach es X.env).length = n := by rfl) (hst : (assignEach es X.env).findIdx? (·.1) = none := by rfl) :
    PG X (.Tuple es kk pos) (gTup X.K n t) := by
  refine ⟨fun pins s σ H v u Q I r hw => ?_⟩
  obtain ⟨a, xs, rfl, hq, hl, hw⟩ := hw
  cases r
  obtain ⟨its, rv, ht, _⟩ := I.tuple hq
  obtain ⟨x1, hot⟩ := hc.at I
  refine unpack_hot hot ht (by simp [hn, ← hl, rv.length]) hst fun h' hx => ?_
  exact h.run pins _ σ H xs _ Q (I.kept (t' := s.toks) fun b o e => hx b o (Nat.ne_of_lt (Heap.lt_size e)) e) (by simpa using rv) hw
/-- [elt for target in a list if ..] while an exception is handled: D the new list, W by the turn -/
def tLcH (K : PySem.W.Frag) (ti : TE) (g : TG) (tt : TT) (te : TE) (vs : List Nat) : TE := fun σ H Q => ti σ H fun v H1 => ∃ (a : Addr) (xs : List V), v = .ref a ∧ SqL K H1 a xs ∧ ∀ D, H1 D = none → ∃ W : Nat → Hp → Prop,
  W 0 (upd H1 D (.lst [])) ∧ (∀ i H', W i H' → SqL K H' a xs) ∧ (∀ H', W xs.length H' → Q (.ref D) H') ∧ ∀ i x H', xs[i]? = some x → W i H' → g x (wipe σ vs) H' fun σ2 H2 => wipe σ2 vs = wipe σ vs ∧ tt σ2 H2 fun b H3 =>
    if b = true then te σ2 H3 fun y H4 => ∃ acc, H4 D = some (.lst acc) ∧ acc.length < sizeLine ∧ W (i + 1) (upd H4 D (.lst (acc ++ [y]))) else W (i + 1) H3
/-- the block's context: the handled exception is pinned in it -/
abbrev blkH (X : Cx) (p : Addr × Obj) (s : Shared) (H : Hp) (scope : Scope) (cenv : Env) (fp : List Addr) : Cx := (X.blk s H scope cenv fp).tr [p] (fun _ _ => False)
section
variable {X : Cx}
theorem hot_blk {p : Addr × Obj} {s : Shared} {H : Hp} {scope : Scope} {cenv : Env} {fp : List Addr} (h : L2H.Hot1 X.A p) : L2H.HotC (blkH X p s H scope cenv fp) := ⟨p, h, List.mem_cons_self⟩
theorem lc_hot {pins : List (Addr × Obj)} {s : Shared} {σ : L2.St} {H : Hp} {Q : VK} {elt tg iter : Expr} {ifs : List Expr} {scope : Scope} {own : List (Str × Nat)} {pos pos' : Pos} {ti : TE} {g : TG} {tt : TT} {te : TE} {use : Option (Value → Sem Unit)} {Qf : Value → Shared → Prop} {p : Addr × Obj}
    (hp : L2H.Hot1 X.A p) (hpn : p ∈ X.pn) (hN : X.N.Nodup) (I : Inv X pins σ H s) (hi : PE X iter ti) (ok : BlkOk X.N X.env.scope scope own)
    (hg : ∀ (s : Shared) (H : Hp) (C : Addr) (cl : List (Str × Addr)) (fp : List Addr), PG (blkH X p s H scope (compEnvC scope cl C X.env) fp) tg g)
    (ht : ∀ (s : Shared) (H : Hp) (C : Addr) (cl : List (Str × Addr)) (fp : List Addr), PTs (blkH X p s H scope (compEnvC scope cl C X.env) fp) ifs tt)
    (he : ∀ (s : Shared) (H : Hp) (C : Addr) (cl : List (Str × Addr)) (fp : List Addr), PE (blkH X p s H scope (compEnvC scope cl C X.env) fp) elt te)
    (hs : ∀ x, foldedSetIterable iter X.env x = pure x) (h : tLcH X.K ti g tt te (own.map (·.2)) σ H Q)
    (hRR : ∀ D C s' m H', Inv X pins σ H' s' → Q (.ref D) H' → s'.heap.Ns C m → FpOk X pins H' C → compPost (model X.prog X.w) X.A X.xe use Qf (.ref D) C (.ok .next) s') :
    wpAny (model X.prog X.w) X.A (comprehension (.ListComp elt [⟨tg, iter, ifs, 0⟩] scope pos) scope X.env pos' (newList []) false (eval iter X.env) use) Qf X.xe s := by
  have hfr : ∀ y ∈ scope.names, y.2 = .free → ∃ c, X.env.cells.lookup y.1 = some c := fun y hy e => (ok.free y hy e).elim (fun z => I.ok.has _ (.inl z)) fun z => I.ok.has _ (.inr z)
  refine wpAny_comprehension_free (use := use) rfl hs (closure_ok hfr) ok.kind (fun y hy e => by rw [ok.uniq y hy, e]) (thn (hi.run pins s σ H _ I h) fun xv s1 hx => ?_)
  obtain ⟨v, H1, I1, rv1, a, xs, rfl, hq, hD⟩ := hx
  cases rv1
  obtain ⟨its, rvs, pl, _⟩ := I1.list hq
  have hln := rvs.length
  refine wpAny_pyIter_list pl.isList ?_
  generalize hit : s1.heap.objs.size = it
  generalize hs2 : ({ s1 with heap := s1.heap.push { cls := .type "list_iterator", data := .fields #[.ref a, .int 0 0] } } : Shared) = s2
  have h2 : s2.heap = s1.heap.push { cls := .type "list_iterator", data := .fields #[.ref a, .int 0 0] } := by rw [← hs2]
  have I2 : Inv X pins σ H1 s2 := by
    rw [← hs2]
    exact I1.kept (t' := s1.toks) fun b o e => Heap.get?_push_of_some _ e
  have st2 : s2.heap.IsListIter it a 0 := by
    rw [h2, ← hit]
    exact ⟨_, Heap.get?_push_size _ rfl, rfl, rfl⟩
  have f2 : FpOk X pins H1 it := I1.fpOk (Nat.le_of_eq hit) (I1.hok.fresh (Nat.le_of_eq hit))
  refine wpAny_newObj_type (newEnv_comp ?_) (by show 0 ≤ sizeLine; decide)
  generalize hDD : s2.heap.objs.size = D
  obtain ⟨W, w0, wl, wd, ws⟩ := hD D (I2.hok.fresh (Nat.le_of_eq hDD))
  have ltit : it < s2.heap.objs.size := by rw [h2, Heap.size_push, hit]; exact Nat.lt_succ_self _
  generalize hs3 : ({ s2 with heap := s2.heap.push { cls := .type "list", data := .seq ([] : List Value).toArray } } : Shared) = s3
  have h3 : s3.heap = s2.heap.push { cls := .type "list", data := .seq ([] : List Value).toArray } := by rw [← hs3]
  have I3 : Inv X pins σ (upd H1 D (.lst [])) s3 := by
    rw [← hs3]
    refine I2.laid (t' := s2.toks) (fun b o e => Heap.get?_push_of_some _ e) (Nat.le_of_eq hDD) ⟨Nat.zero_le _, [], 0, .nil, ?_⟩
    rw [← hDD]
    exact Heap.get?_push_size _ rfl
  have nD : it ≠ D := by rw [← hDD]; exact Nat.ne_of_lt ltit
  have f3 : ∀ b ∈ [it], FpOk X pins (upd H1 D (.lst [])) b ∧ b < s3.heap.objs.size := fun b hb => by
    obtain rfl : b = it := by simpa using hb
    refine ⟨⟨?_, f2.2⟩, by rw [h3, Heap.size_push]; exact Nat.lt_succ_of_lt ltit⟩
    rw [upd_ne nD]
    exact f2.1
  have st3 : s3.heap.IsListIter it a 0 := st2.at fun o e => by rw [h3]; exact Heap.get?_push_of_some _ e
  have I4 := block_start I3 ok hN f3
  generalize hcl : cellsFrom (s3.heap.objs.size + 1) scope.names (cloFrom X.env.cells scope.names []) = cl at I4
  show codeAny _ _ (.compStart (.ListComp elt [⟨tg, iter, ifs, 0⟩] scope pos) 0 (.ref it) (.ref D) (compEnvC scope cl s3.heap.objs.size X.env)) (compPost (model X.prog X.w) X.A X.xe use Qf (.ref D) s3.heap.objs.size) { s3 with heap := pushCells (s3.heap.push { cls := .type "dict", data := .dict #[] }) scope.names }
  have pg := hg s3 (upd H1 D (.lst [])) s3.heap.objs.size cl [it]
  have pt := ht s3 (upd H1 D (.lst [])) s3.heap.objs.size cl [it]
  have pe := he s3 (upd H1 D (.lst [])) s3.heap.objs.size cl [it]
  generalize hce : compEnvC scope cl s3.heap.objs.size X.env = ce at I4 pg pt pe ⊢
  have cL : ce.locals = s3.heap.objs.size := by subst hce; rfl
  generalize hs4 : ({ s3 with heap := pushCells (s3.heap.push { cls := .type "dict", data := .dict #[] }) scope.names } : Shared) = s4 at I4 ⊢
  have kp4 : ∀ b o, s3.heap.get? b = some o → s4.heap.get? b = some o := fun b o e => by rw [← hs4]; exact pushCells_keeps _ _ _ _ (Heap.get?_push_of_some _ e)
  have st4 : s4.heap.IsListIter it a 0 := st3.at fun o e => kp4 _ _ e
  obtain ⟨pg3, pn3, pl3, pf3, pc3⟩ := I3.pin p (List.mem_append_left _ hpn)
  have ps3 : p.1 ∉ frs X.stack := fun z => by
    rcases I3.ok.stk with e | ⟨e, ef⟩
    · rw [e] at z
      exact pf3 z
    · rw [e] at z
      obtain ⟨en, hen, q⟩ := List.mem_filterMap.mp z
      rcases List.mem_cons.mp hen with e1 | e1
      · rw [e1, ef] at q
        exact pl3 (Option.some.inj q).symm
      · exact pf3 (List.mem_filterMap.mpr ⟨en, e1, q⟩)
  have hlt3 := Heap.lt_size pg3
  generalize hH3 : upd H1 D (.lst []) = H3 at I3 I4 pg pt pe w0 f3 pn3
  have J4 : Inv (blkH X p s3 H3 scope ce [it]) [] (wipe σ (own.map (·.2))) H3 s4 :=
    ⟨I4.ok.toTry _ _, I4.os, I4.bare, I4.base, I4.loc, I4.cell, I4.free, I4.freeC, fun q hq => by
      obtain rfl : q = p := by simpa using hq
      exact ⟨kp4 _ _ pg3, pn3, by show q.1 ≠ ce.locals; rw [cL]; exact Nat.ne_of_lt hlt3, ps3, pc3⟩, I4.hok, I4.len⟩
  have npit : p.1 ≠ it := f2.2.2.2.2.2 p (List.mem_append_left _ hpn)
  have stat : ∀ {σ' : L2.St} {H' : Hp} {s' : Shared}, Inv (blkH X p s3 H3 scope ce [it]) [] σ' H' s' → H' it = none → ∀ b ∈ [it], FpOk (blkH X p s3 H3 scope ce [it]) [] H' b := fun {σ' H' s'} I' hn b hb => by
    obtain rfl : b = it := by simpa using hb
    refine ⟨hn, (I'.ok.exf b hb).1, I'.ok.exfs b hb, .inl hb, fun x c e => (I'.ok.exf b hb).2 x c e, fun q hq => ?_⟩
    obtain rfl : q = p := by simpa using hq
    exact npit
  have n3 : H3 it = none := (f3 it (by simp)).1.1
  have go : codeAny (model X.prog X.w) X.A (.compLoop (.ListComp elt [⟨tg, iter, ifs, 0⟩] scope pos) 0 (.ref it) (.ref D) ce) (compPost (model X.prog X.w) X.A X.xe use Qf (.ref D) s3.heap.objs.size) s4 := by
    refine compLoop_any (fun n s' => ∃ i H', n = xs.length - i ∧ i ≤ xs.length ∧ Inv (blkH X p s3 H3 scope ce [it]) [] (wipe σ (own.map (·.2))) H' s' ∧ s'.heap.IsListIter it a i ∧ H' it = none ∧ W i H') ?_ xs.length ⟨0, H3, rfl, Nat.zero_le _, J4, st4, n3, w0⟩
    rintro n s5 ⟨i, H5, rfl, hle, I5, st5, n5, w5⟩
    have hq5 := wl i H5 w5
    obtain ⟨its5, rv5, pl5, _⟩ := I5.list hq5
    have hl5 := rv5.length
    obtain ⟨f0, f1, f4, f6, f7, f8⟩ := stat I5 n5 it (by simp)
    by_cases hlt : i < xs.length
    · have hxi : xs[i]? = some xs[i] := List.getElem?_eq_getElem hlt
      obtain ⟨u, hu, ru⟩ := rv5.get hxi
      refine thnF (wpAny_pyNext_list_item (E := fun _ _ => False) st5 pl5.isList (x := u) (by simpa using hu) (Q := fun r s6 => r = some u ∧ ∃ h', s6 = { s5 with heap := h' } ∧ h'.IsListIter it a (i + 1) ∧ Heap.SameBut it s5.heap h') fun h' st' sb => ⟨rfl, h', rfl, st', sb⟩) fun r s6 hr => ?_
      obtain ⟨rfl, h6, rfl, st6, sb6⟩ := hr
      have I6 : Inv (blkH X p s3 H3 scope ce [it]) [] (wipe σ (own.map (·.2))) H5 { s5 with heap := h6 } := I5.turned (t' := s5.toks) (fun b o hb e => (sb6.2 b hb).trans e) f0 f1 f6 f7 f8
      obtain ⟨oi, ei, ci, di⟩ := id st6
      refine go_of (s := { s5 with heap := h6 }) ei ci di (by decide) ?_
      have I7 := I6.pinned (fp := [it]) (stat I6 n5) fun b hb => by
        obtain rfl : b = it := by simpa using hb
        exact ⟨oi, ei, fun v z => by rw [di] at z; cases z⟩
      refine thnF (pg.run _ _ _ H5 xs[i] u _ I7 ru (ws i _ H5 hxi w5)) fun _ s8 hr8 => ?_
      obtain ⟨σ8, H8, I8, hw8, q8⟩ := hr8
      refine thnF (pt.run _ s8 σ8 H8 _ I8 q8) fun b s9 hr9 => ?_
      obtain ⟨H9, I9, q9⟩ := hr9
      have fin : ∀ {s' : Shared} {H' : Hp}, Inv (blkH X p s3 H3 scope ce [it]) ([] ++ pinsAt [it] h6) σ8 H' s' → W (i + 1) H' → ∃ m, m < xs.length - i ∧ ∃ i H', m = xs.length - i ∧ i ≤ xs.length ∧ Inv (blkH X p s3 H3 scope ce [it]) [] (wipe σ (own.map (·.2))) H' s' ∧ s'.heap.IsListIter it a i ∧ H' it = none ∧ W i H' := fun {s' H'} I' w' => by
        have z := I'.pin (it, oi) (List.mem_append_right _ (List.mem_append_right _ (mem_pinsAt (by simp) ei)))
        refine ⟨xs.length - (i + 1), by omega, i + 1, H', rfl, hlt, (I'.unpinned (pins := [])).weak (by rw [← hw8, wipe_length]) (fun j v e => ?_), st6.at fun o e => ?_, z.2.1, w'⟩
        · rw [← hw8] at e
          exact (wipe_some e).1
        · have e' : h6.get? it = some o := e
          rw [ei] at e'
          cases e'
          exact z.1
      cases b with
      | false =>
        simp only [Bool.false_eq_true, if_false] at q9 ⊢
        exact fin I9 q9
      | true =>
        simp only [if_true] at q9 ⊢
        refine thnF (pe.run _ s9 σ8 H9 _ I9 q9) fun z s10 hr10 => ?_
        obtain ⟨yv, H10, I10, r10, acc, hD10, hz10, nx⟩ := hr10
        exact app_ok (X := blkH X p s3 H3 scope ce [it]) I10 hD10 hz10 r10 fun s11 I11 => fin I11 nx
    · have ei : i = xs.length := by omega
      obtain ⟨x1, hot⟩ := (hot_blk (X := X) (p := p) (s := s3) (H := H3) (scope := scope) (cenv := ce) (fp := [it]) hp).at I5
      have hx1 : x1 ≠ it := by
        have e : X.A.handled = some (.ref x1) := hot.1
        rw [hp.1] at e
        cases e
        exact npit
      refine thnF (list_end_hot (E := fun _ _ => False) hot hx1 st5 pl5.isList (by simp; omega) (Q := fun r s6 => r = none ∧ Inv (blkH X p s3 H3 scope ce [it]) [] (wipe σ (own.map (·.2))) H5 s6) fun h' eb => ⟨rfl, I5.turned (t' := s5.toks) (fun b o hb e => eb b o hb e) f0 f1 f6 f7 f8⟩) fun r s6 hr => ?_
      obtain ⟨rfl, I6⟩ := hr
      have I7 : Inv X pins σ H5 s6 := I3.call' (ch := [it]) I6.os I6.base I6.hok I6.bare fun b hb => ⟨(f3 b hb).1.2.2.2.1, (f3 b hb).1.2.1, (f3 b hb).1.2.2.2.2.1, (f3 b hb).1.2.2.2.2.2⟩
      obtain ⟨m, hn, _⟩ := I6.loc
      have hn : s6.heap.Ns ce.locals m := hn
      have nC : H5 ce.locals = none := I6.free
      rw [cL] at hn nC
      rw [ei] at w5
      exact hRR D s3.heap.objs.size s6 m H5 I7 (wd H5 w5) hn (I3.fpOk (Nat.le_refl _) nC)
  exact codeAny_compStart_list go (wpAny_pyIter_listiter st4 go)
end
end Fm

namespace Fm
open PySem PySem.Spec PyProof.Rows L2
section
variable {X : Cx}
/-- name = [..] while an exception is handled -/
theorem ps_setLcH {i : Nat} {y : Str} {py : Pos} {elt tg iter : Expr} {ifs : List Expr} {scope : Scope} {own : List (Str × Nat)} {pos spos : Pos} {ti : TE} {g : TG} {tt : TT} {te : TE} {p : Addr × Obj} (hp : L2H.Hot1 X.A p) (hpn : p ∈ X.pn) (hN : X.N.Nodup) (hy : X.N[i]? = some y) (hyl : X.env.scope.names.lookup y = some .local)
    (hsw : swapsWith (.ListComp elt [⟨tg, iter, ifs, 0⟩] scope pos) (some (.Name y py)) spos.line X.env = pure true) (hi : PE X iter ti) (ok : BlkOk X.N X.env.scope scope own)
    (hg : ∀ (s : Shared) (H : Hp) (C : Addr) (cl : List (Str × Addr)) (fp : List Addr), PG (blkH X p s H scope (compEnvC scope cl C X.env) fp) tg g)
    (ht : ∀ (s : Shared) (H : Hp) (C : Addr) (cl : List (Str × Addr)) (fp : List Addr), PTs (blkH X p s H scope (compEnvC scope cl C X.env) fp) ifs tt)
    (he : ∀ (s : Shared) (H : Hp) (C : Addr) (cl : List (Str × Addr)) (fp : List Addr), PE (blkH X p s H scope (compEnvC scope cl C X.env) fp) elt te)
    (hs : ∀ x, foldedSetIterable iter X.env x = pure x := by intro _; rfl) :
    PS X (.Assign [.Name y py] (.ListComp elt [⟨tg, iter, ifs, 0⟩] scope pos) spos) (tAsg (tLcH X.K ti g tt te (own.map (·.2))) (gName i)) := by
  refine ⟨fun pins s σ H D I h0 => ?_⟩
  have h : tLcH X.K ti g tt te (own.map (·.2)) σ H (fun x H1 => gName i x σ H1 D.nx) := h0
  rw [exec_Assign_Name_used _ _ _ _ hsw]
  refine wpAny_bind (wpAny_standAt (wpAny_bind ?_))
  show wpAny _ X.A (do let _ ← comprehension (.ListComp elt [⟨tg, iter, ifs, 0⟩] scope pos) scope X.env (firstIterPos [⟨tg, iter, ifs, 0⟩] pos) (newList []) false (eval iter X.env) (some (assign (.Name y py) X.env))) _ _ s
  refine wpAny_bind (thn (lc_hot (Qf := fun _ s' => SP X pins D .next s') hp hpn hN I hi ok hg ht he hs h fun L C s' m H' I' q hn f => ?fin) fun _ s' hq => wpAny_pure (wpAny_pure hq))
  obtain ⟨f0, f1, f2, f3, f4, f5⟩ := f
  show wpAny _ _ (assign (.Name y py) X.env (.ref L)) _ _ _
  refine wpAny_assign_Name (store_ok2 (v := V.ref L) I' hN hy (.inl hyl) rfl (fun s2 I2 hx => ?_) (.inr hyl))
  obtain ⟨a, sb, ha⟩ := hx
  have nCa : C ≠ a := ha.elim (fun z => by rw [z]; exact f1) fun z e => f4 y a z e.symm
  exact ⟨m, hn.sameBut sb nCa, fun h3 sb3 => ⟨_, H', I2.turned (t' := s2.toks) (fun b o hb e => (sb3.2 b hb).trans e) f0 f1 f3 f4 f5, q⟩⟩
/-- an exception that came out of a try's body, looked at by its clauses: sI is the state without it -/
structure Gd (X : Cx) (pins : List (Addr × Obj)) (σ : L2.St) (H : Hp) (B : Heap) (sI : Shared) (a : Addr) (cls : Value) (d : Option Addr) (s : Shared) : Prop where
  inv : Inv X pins σ H sI
  nb : ∀ b o, sI.heap.get? b = some o → b ∉ frs X.stack → B.get? b = some o
  up : sI.heap.UpToSlots s.heap
  fl : HandSPX.FlyingZ B (X.env :: X.outer) a (L2N.Zn cls d) s.heap
  na : H a = none
  os : s.os = sI.os
  ag : AllBare s.gens
theorem Gd.at {pins : List (Addr × Obj)} {σ : L2.St} {H : Hp} {B : Heap} {sI s : Shared} {a : Addr} {cls : Value} {d : Option Addr} (G : Gd X pins σ H B sI a cls d s) : Inv X pins σ H s := G.inv.landed G.nb G.fl.1 G.up G.os G.ag
theorem Gd.suite {pins : List (Addr × Obj)} {σ : L2.St} {H : Hp} {B : Heap} {sI s : Shared} {a : Addr} {cls : Value} {d : Option Addr} (hf : X.env.frame = some X.env.locals) (G : Gd X pins σ H B sI a cls d s) :
    ∃ (oe : Obj) (vs : Array Value), s.heap.get? a = some oe ∧ L2N.Zn cls d oe ∧ oe.data = .fields vs ∧ Inv (X.suite a ((a, oe) :: (X.pn ++ pins))) [] σ H s := by
  obtain ⟨oe, vs, ge, ze, de⟩ := G.fl.there
  have nf : a ∉ frs (X.env :: X.outer) := fun hm => by
    obtain ⟨_, o', e', hnf⟩ := G.fl.2.2.1.mem hm
    rw [ge] at e'
    cases e'
    exact hnf _ de
  refine ⟨oe, vs, ge, ze, de, G.at.suite ge de G.na (fun z => nf ?_) fun hm => nf ?_⟩
  · exact List.mem_filterMap.mpr ⟨X.env, List.mem_cons_self, by rw [hf, z]⟩
  · obtain ⟨e, he, q⟩ := List.mem_filterMap.mp hm
    exact List.mem_filterMap.mpr ⟨e, List.mem_cons_of_mem _ he, q⟩
/-- the clause's class, asked of it -/
theorem Gd.ask {pins : List (Addr × Obj)} {σ : L2.St} {H : Hp} {B : Heap} {sI s : Shared} {a : Addr} {cls c : Value} {d : Option Addr} {x : Str} {np : Pos} {b : Bool} {R : Bool → Shared → Prop} {E E' : Value → Shared → Prop} (hf : X.env.frame = some X.env.locals) (G : Gd X pins σ H B sI a cls d s) (hc : Names X x c) (hx : PySem.W.exmOne X.K cls c = some b) (q : R b s) :
    wpAny (model X.prog X.w) (X.A.mark (some (.ref a))) (eval (.Name x np) X.env) (fun v s1 => wpAny (model X.prog X.w) (X.A.mark (some (.ref a))) (excMatches (.ref a) v) R E' s1) E s := by
  obtain ⟨oe, vs, ge, ze, de, S⟩ := G.suite hf
  have LT : PySem.W.Looks (model X.prog X.w) s.heap (typeOf (.ref a)) cls := fun A Q E s k q => wpAny_typeOf_ref (k _ _ ge) (by rw [ze.1]; exact q)
  have LM := PySem.W.exm_one (M := model X.prog X.w) G.at.kIn LT hx
  obtain ⟨hg, hdb, hm | ⟨hm, hv, hnn⟩⟩ := hc
  · exact ld_glob (X := X.suite a ((a, oe) :: (X.pn ++ pins))) S hg hm (LM.here q) hdb
  · exact ld_blt (X := X.suite a ((a, oe) :: (X.pn ++ pins))) S hg hm hv (LM.here q) hnn hdb
theorem Gd.again {pins : List (Addr × Obj)} {σ : L2.St} {H : Hp} {B : Heap} {sI s : Shared} {a : Addr} {cls : Value} {d : Option Addr} {M : Model} {A : Around} {E : Value → Shared → Prop} {Q : Unit → Shared → Prop} (G : Gd X pins σ H B sI a cls d s)
    (k : ∀ h', Gd X pins σ H B sI a cls d { s with heap := h' } → Q () { s with heap := h' }) : wpAny M A (setFlight (.ref a) none) Q E s :=
  HandSPX.lands_againZ G.fl fun h' fl' up' => k h' ⟨G.inv, G.nb, G.up.trans up', fl', G.na, G.os, G.ag⟩
/-- the clauses without a name, one after another -/
theorem Gd.plain {pins : List (Addr × Obj)} {σ : L2.St} {H : Hp} {B : Heap} {sI : Shared} {a : Addr} {cls : Value} {d : Option Addr} {D : Ends} {Wout : WX} (hs : X.stack = X.env :: X.outer) (hf : X.env.frame = some X.env.locals) (tk : L2N.Takes X Wout) :
    ∀ {hds : List ExceptHandler} {l : List (Value × (Addr → Value → Option Addr → TS))}, L2N.HdsOk X hds l → ∀ {s : Shared}, Gd X pins σ H B sI a cls d s → wMany X.K Wout D l cls d σ H → wpAny (model X.prog X.w) X.A (handleBy (.ref a) X.env hds) (SP X pins D) X.xe s := by
  intro hds l hk
  induction hk with
  | nil =>
    intro s G wsh
    refine wpAny_handleBy_nil ?_
    obtain ⟨_, _, _, oe, vs, T, oT, ts', he, hz, hd, h1, _⟩ := id G.fl
    have nT : ¬ ((Value.ref T == Value.none) = true) := by simp
    unfold PySem.passOn
    refine wpAny_bind (wpAny_field he hd h1 ?_)
    rw [if_neg nT]
    have on : wpAny (model X.prog X.w) X.A (setFlight (.ref a) X.env.frame) (fun _ s4 => wpAny (model X.prog X.w) X.A (throw (.ref a) : Sem Flow) (SP X pins D) X.xe s4) X.xe s := by
      rw [hf]
      refine HandSPX.setFlight_upZ G.fl fun h4 hh4 up4 => wpAny_throw (tk _ _ ?_)
      exact ⟨a, B, sI, pins, σ, H, cls, d, rfl, G.inv, G.nb, G.up.trans up4, .inr (.inr (by rw [hs]; exact hh4)), G.na, G.os, G.ag, wsh⟩
    first
      | exact wpAny_bind (wpAny_pure (wpAny_bind on))
      | exact wpAny_bind on
  | cons hc hsu r ih =>
    intro s G wsh
    obtain ⟨b, hb1, hyes, hno⟩ := wsh
    refine wpAny_handleBy_cons (codeAny_handlers_test (G.ask hf hc hb1 ?_)) (by intro q; cases q)
    cases b with
    | true =>
      refine codeAny_handlers_suite (G.again fun h' G' => ?_)
      obtain ⟨oe, vs, ge, ze, de, S⟩ := G'.suite hf
      refine wpAny_mono ((hsu a oe cls d (X.pn ++ pins) ze ⟨_, de⟩).run [] _ _ H _ S (hyes rfl a G.na)) (fun f s6 hsp => ?_) fun _ _ z => z.elim
      have ok := G.inv.ok
      cases f with
      | next => exact (let ⟨σ6, H6, S6, q6⟩ := hsp; ⟨σ6, H6, S6.unsuite ok, q6⟩)
      | brk => exact (let ⟨σ6, H6, S6, q6⟩ := hsp; ⟨σ6, H6, S6.unsuite ok, q6⟩)
      | cont => exact (let ⟨σ6, H6, S6, q6⟩ := hsp; ⟨σ6, H6, S6.unsuite ok, q6⟩)
      | ret u => exact (let ⟨v6, σ6, H6, S6, r6, q6⟩ := hsp; ⟨v6, σ6, H6, S6.unsuite ok, r6, q6⟩)
    | false => exact ih G (hno rfl)
/-- try: body / except x as n: suite / further clauses without a name -/
theorem ps_tryM {x n : Str} {c : Value} {i : Nat} {body suite : List Stmt} {b₀ : Stmt} {hds : List ExceptHandler} {np pos pos' : Pos} {tb : WX → TS} {ts : Addr → Value → Option Addr → TS} {Wout : WX} {l : List (Value × (Addr → Value → Option Addr → TS))}
    (hs : X.stack = X.env :: X.outer) (hf : X.env.frame = some X.env.locals) (hN : X.N.Nodup) (hi : X.N[i]? = some n) (hln : X.env.kindOf n = some .local) (hc : Names X x c) (tk : L2N.Takes X Wout)
    (hb : ∀ (W : WX) (pn : List (Addr × Obj)) (xe : Value → Shared → Prop), L2N.Takes (X.tr pn xe) W → PassesOwn (model X.prog X.w) X.A X.env xe → PSs (X.tr pn xe) body (tb W))
    (hsu : ∀ (a : Addr) (oe : Obj) (cls : Value) (d : Option Addr) (pn : List (Addr × Obj)), L2N.Zn cls d oe → (∃ vs, oe.data = .fields vs) → PSs (X.suite a ((a, oe) :: pn)) (b₀ :: suite) (ts a cls d)) (hh : L2N.HdsOk X hds l) :
    PS X (.Try body (.ExceptHandler (some (.Name x np)) (some n) (b₀ :: suite) pos' :: hds) [] [] pos) (fun D σ H => tb (wAs X.K c i ts (wMany X.K Wout D l) D) D σ H) := by
  refine ⟨fun pins s σ H D I h => ?_⟩
  have ok := I.ok
  have hfr : X.A.frames = some (X.env :: X.outer) := by rw [ok.frames, hs]
  refine wpAny_Try_except (wpAny_mono ((hb (wAs X.K c i ts (wMany X.K Wout D l) D) (X.pn ++ pins) (fun e s1 => wpAny (model X.prog X.w) X.A (noteFrame e X.env) (fun _ s2 => wpAny (model X.prog X.w) X.A (setFlight e none) (fun _ s3 =>
    wpAny (model X.prog X.w) X.A (handleBy e X.env (.ExceptHandler (some (.Name x np)) (some n) (b₀ :: suite) pos' :: hds)) (SP X pins D) X.xe s3) X.xe s2) X.xe s1) (fun u s' xx => ?cat) PassesOwn.looking).run [] s σ H D (I.toTry _) h) (fun f s1 hsp => ?thru) fun e s1 he => he)
  case thru =>
    cases f with
    | next => exact (let ⟨σ', H', J', q⟩ := hsp; wpAny_execs_nil ⟨σ', H', J'.ofTry ok, q⟩)
    | brk => exact (let ⟨σ', H', J', q⟩ := hsp; ⟨σ', H', J'.ofTry ok, q⟩)
    | cont => exact (let ⟨σ', H', J', q⟩ := hsp; ⟨σ', H', J'.ofTry ok, q⟩)
    | ret u => exact (let ⟨v, σ', H', J', r, q⟩ := hsp; ⟨v, σ', H', J'.ofTry ok, r, q⟩)
  case cat =>
    obtain ⟨a, B, sI, pins', σ', H', cls, d, rfl, J', nb, up, sky, na, os, ag, b, hb1, hyes, hno⟩ := xx
    have sky' : Sky B (X.env :: X.outer) a (L2N.Zn cls d) X.env.locals s'.heap := by rw [← hs]; exact sky
    show wpAny (model X.prog X.w) X.A (noteFrame (.ref a) X.env) _ _ _
    refine L2N.Sky.land L2N.Zn.steady hfr hf sky' fun h3 fl3 up3 => ?_
    have G : Gd X pins σ' H' B sI a cls d { s' with heap := h3 } := ⟨J'.ofTry ok, nb, up.trans up3, fl3, na, os, ag⟩
    refine wpAny_handleBy_cons (codeAny_handlers_test (G.ask hf hc hb1 ?_)) (by intro q; cases q)
    cases b with
    | false => exact G.plain hs hf tk hh (hno rfl)
    | true =>
      refine codeAny_handlers_suite_as (G.again fun h4 G4 => ?_)
      obtain ⟨oe, vs, ge, ze, de, S⟩ := G4.suite hf
      refine store_ok (X := X.suite a ((a, oe) :: (X.pn ++ pins))) (v := .ref a) S hN hi (.inl hln) rfl (fun s5 S5 => ?_) (.inr hln)
      refine wpAny_mono ((hsu a oe cls d (X.pn ++ pins) ze ⟨_, de⟩).run [] s5 _ H' _ S5 (hyes rfl a na)) (fun f s6 hsp => ?_) fun _ _ z => z.elim
      have goes : ∀ {σ6 : L2.St} {H6 : Hp} {Q : Shared → Prop}, Inv (X.suite a ((a, oe) :: (X.pn ++ pins))) [] σ6 H6 s6 → (∀ s7, Inv X pins (σ6.set i none) H6 s7 → Q s7) →
          wpAny (model X.prog X.w) X.A (do bindName X.env n .none; unbindBehindTheSuite X.env n pos') (fun _ s7 => Q s7) X.xe s6 := fun S6 hq => gone_ok (S6.unsuite ok) hN hi hln hq
      cases f with
      | next => exact (let ⟨σ6, H6, S6, q6⟩ := hsp; goes S6 fun s7 J7 => ⟨_, _, J7, q6⟩)
      | brk => exact (let ⟨σ6, H6, S6, q6⟩ := hsp; goes S6 fun s7 J7 => ⟨_, _, J7, q6⟩)
      | cont => exact (let ⟨σ6, H6, S6, q6⟩ := hsp; goes S6 fun s7 J7 => ⟨_, _, J7, q6⟩)
      | ret u => exact (let ⟨v6, σ6, H6, S6, r6, q6⟩ := hsp; goes S6 fun s7 J7 => ⟨_, _, _, J7, r6, q6⟩)
end
end Fm

namespace Fm
open PySem PySem.Spec PyProof.Rows L2
/-- what is wanted of an exception that leaves a lambda's frame -/
abbrev lamX (X : Cx) (A : Around) (outer : List Env) (s : Shared) (H : Hp) (E : XK) (scope : Scope) (f c : Addr) : Value → Shared → Prop := fun e s' =>
  wpAny (model X.prog X.w) (A.deeper (LamX.lamEnv X scope s.heap.objs.size f c)) (leaving (LamX.lamEnv X scope s.heap.objs.size f c) e) (fun _ s2 => L2N.CX X.prog X.w outer H s E e s2) (fun e' s2 => L2N.CX X.prog X.w outer H s E e' s2) s'
/-- the context of a lambda's body -/
abbrev lamN (X : Cx) (A : Around) (outer : List Env) (s : Shared) (H : Hp) (E : XK) (scope : Scope) (f c : Addr) : Cx := (LamX.lamCx X A outer s H E scope f c).wish (lamX X A outer s H E scope f c)
/-- what a lambda's body may let out is taken -/
theorem lamN_takes {X : Cx} {A : Around} {outer : List Env} {s : Shared} {H : Hp} {E : XK} {scope : Scope} {f c : Addr} : L2N.Takes (lamN X A outer s H E scope f c) (fun cls d _ H' => E cls d H') :=
  L2N.takes_of (X := lamN X A outer s H E scope f c) (E₁ := fun e' s2 => L2N.CX X.prog X.w outer H s E e' s2) rfl rfl rfl rfl
section
variable {X : Cx}
/-- a(), in the def that got the lambda (made in X at s): what it raises has no context -/
theorem pe_actN {CXg : CXT} {Eg : XK} {Ng : List Str} {qg : Str} {sg : Scope} {g f c : Addr} {cdg pm ctv : Value} {params : Arguments} {body : Expr} {scope : Scope} {k i : Nat} {a : Str} {pn : List (Addr × Obj)} {xe : Value → Shared → Prop} {W : WX} {E : XK} {tb : TE} {p1 p2 : Pos} {pins : List (Addr × Obj)} {σ : L2.St} {H : Hp} {s : Shared}
    (I : Inv X pins σ H s) (L : LamX.LamS X.env.scope scope) (of0 : s.heap.get? f = some (PySem.W.kla_obj "<lambda>" (X.env.qual ++ "<lambda>") params body scope (cloFrom X.env.cells scope.names []) pm c ctv)) (nf : H f = none) (nfr : f ∉ frs X.stack)
    (bnd : bindArgs (PySem.W.kla_fn "<lambda>" (X.env.qual ++ "<lambda>") params body scope (cloFrom X.env.cells scope.names []) pm (.ref c) ctv) ⟨[], []⟩ = pure [])
    (tk : L2N.Takes ((cxOf CXg X.prog X.w X.K X.mg X.base Ng qg sg g cdg X.A X.stack s H Eg).tr pn xe) W) (hr : Room (k + 1) (X.A.deeper (envOfC qg sg s.heap.objs.size g cdg)))
    (hbody : ∀ (A : Around) (outer : List Env) (s : Shared) (H : Hp), Room k (A.deeper (LamX.lamEnv X scope s.heap.objs.size f c)) → PE (lamN X A outer s H E scope f c) body tb)
    (hN : Ng[i]? = some a) (hv : Vis sg a) (hd : (a == ("__debug__" : Str)) = false) (hcd : (a == ("__classdict__" : Str)) = false) :
    PE ((cxOf CXg X.prog X.w X.K X.mg X.base Ng qg sg g cdg X.A X.stack s H Eg).tr pn xe) (.Call (.Name a p1) [] [] p2) (fun σZ HZ Q => (∀ cls d H', E cls d H' → W cls d σZ H') ∧ σZ[i]? = some (some (.ref f)) ∧ HZ c = some (LamX.CodeO c (X.env.qual ++ "<lambda>")) ∧ tb σ HZ Q) := by
  refine ⟨fun pinsZ sZ σZ HZ Q IZ hh => ?_⟩
  obtain ⟨hW, hs, hc, ht⟩ := hh
  refine wpAny_Call_Name_kw (thn ((pe_var (pos := p1) (i := i) hN hv hd hcd).run pinsZ sZ σZ HZ (fun v H1 => v = .ref f ∧ H1 = HZ) IZ ⟨.ref f, hs, rfl, rfl⟩) fun u s1 hu => ?_)
  obtain ⟨v, H1, I1, r1, rfl, rfl⟩ := hu
  obtain rfl : u = Value.ref f := r1
  have of1 := I1.base.keep f _ of0 nf nfr (fun z => nomatch (show f ∈ ([] : List Addr) from z))
  refine PySem.W.callWith_F0 ⟨_, _, _, _, of1⟩ ?_
  obtain ⟨⟨oc, vs, t, hoc, hdc, hvc⟩, _, _⟩ := I1.hok c _ hc
  have rc : codeAny (model X.prog X.w) (X.A.deeper (envOfC qg sg s.heap.objs.size g cdg)) (.call (.ref f) ⟨[], []⟩) (CR (L2N.CX X.prog X.w) (envOfC qg sg s.heap.objs.size g cdg :: X.stack) X.prog X.w H1 s1 Q E) s1 := by
    refine PySem.W.kla_callFunE hr.depth of1 rfl L.co L.gen rfl ⟨c, oc, vs, t, rfl, hoc, hdc, hvc⟩ ?_
    rw [bnd]
    refine wpAny_pure (wpAny_newFunctionEnv (fun y hy => (L.own y hy).2) (fun y hy => absurd hy (by simp)) (fun h₁ hns hsb => ⟨I1.nolimit.fresh _ hsb, ?_⟩) L.kind)
    show codeAny _ _ (.expr body (LamX.lamEnv X scope s1.heap.objs.size f c)) _ _
    have J := LamX.lam_start2 (E := E) (f := f) (c' := c) (tk := s1.toks + ([] : List (Str × Value)).length) I L I1.env0 hr.hd I1.base hns fun b o e => hsb.extBut b o (Nat.ne_of_lt (Heap.lt_size e)) (Heap.get?_push_of_some _ e)
    refine PySem.W.kla_codeExpr (wpAny_mono ((hbody _ _ s1 H1 (hr.deeper _)).run [] _ _ H1 Q (J.wish _) ht) (fun v s' hq => ?_) fun e s' hq => hq)
    obtain ⟨w', H', J', rv, q⟩ := hq
    exact ⟨w', H', J'.os, J'.bare, J'.base, J'.hok, rv, q⟩
  refine wpAny_call (codeAny_mono rc fun r s' hq => ?_)
  cases r with
  | error e => exact tk e s' (L2N.XE.of_call I1 hW hq)
  | ok fl =>
    cases fl with
    | ret u => exact I1.after hq
    | next => exact hq.elim
    | brk => exact hq.elim
    | cont => exact hq.elim
/-- the def that calls what it got: TT is what it makes of the lambda's reading -/
def GivesN (X : Cx) (Ng : List Str) (x : Str) (sg : Scope) (g : Addr) (cdg : Value) (bg : List Stmt) (a : Str) (q : Str) (TT : (XK → Hp → VK → Prop) → Hp → VK → Prop) : Prop :=
  ∀ (f c : Addr) (s : Shared) (H : Hp) (Q : VK) (tl : XK → Hp → VK → Prop), Room 1 (X.A.deeper (envOfC x sg s.heap.objs.size g cdg)) →
    (∀ (W : WX) (pn : List (Addr × Obj)) (xe : Value → Shared → Prop) (E : XK) (p1 p2 : Pos), L2N.Takes ((cxOf C8.CX0 X.prog X.w X.K X.mg X.base Ng x sg g cdg X.A X.stack s H C8.E0).tr pn xe) W →
      PE ((cxOf C8.CX0 X.prog X.w X.K X.mg X.base Ng x sg g cdg X.A X.stack s H C8.E0).tr pn xe) (.Call (.Name a p1) [] [] p2) (fun σZ HZ Q => (∀ cls d H', E cls d H' → W cls d σZ H') ∧ σZ[0]? = some (some (.ref f)) ∧ HZ c = some (LamX.CodeO c q) ∧ tl E HZ Q)) →
    H c = some (LamX.CodeO c q) → TT tl H Q →
    ∃ t, PSs (cxOf C8.CX0 X.prog X.w X.K X.mg X.base Ng x sg g cdg X.A X.stack s H C8.E0).nox bg t ∧ t { nx := fun _ H' => Q .non H', rt := Q } (L2.start Ng [.ref f]) H
/-- x(lambda: body) -/
theorem pe_lamN {T : List (Addr × Str)} {TT : (XK → Hp → VK → Prop) → Hp → VK → Prop} {x a : Str} {g c P : Addr} {k : Nat} {pg : Arguments} {bg : List Stmt} {sg : Scope} {dV kV doc pm cdv ct oc : Value} {an od : Option Addr} {osl : Array (Option Value)} {Ng : List Str}
    {params : Arguments} {body : Expr} {scope : Scope} {t : XK → TE} {p lpos pos : Pos} (hg : Gl X x) (hm : X.mg x = some (.ref g)) (hk : PySem.W.keepIn X.K (.ref g) = true)
    (lk : X.K.lookup g = some ⟨oc, od, .func (PySem.W.fnOf x x pg bg sg dV kV doc pm an cdv ct), osl⟩) (hcg : PySem.W.codeIn X.K cdv x = true) (hb : L2.Binds X.K (PySem.W.fnOf x x pg bg sg dV kV doc pm an cdv ct) [a] []) (Sg : FnScope Ng [a] sg) (hNg : Ng[0]? = some a) (hva : Vis sg a)
    (hG : GivesN X Ng x sg g cdv bg a (X.env.qual ++ "<lambda>") TT)
    (TB : LamX.TabB X.base X.mg c P) (hcode : X.env.code = .ref c) (hmT : (P, X.env.qual ++ "<lambda>") ∈ T) (hu : ∀ p ∈ T, p.1 = P → p.2 = X.env.qual ++ "<lambda>") (hr : Room (k + 2) X.A) (L : LamX.LamS X.env.scope scope) (hdef : defaultsOf params X.env = ([], []))
    (hbind : ∀ (q : Str) (cl : List (Str × Addr)) (pm cv ctv : Value), bindArgs (PySem.W.kla_fn "<lambda>" q params body scope cl pm cv ctv) ⟨[], []⟩ = pure [])
    (hbody : ∀ (A : Around) (outer : List Env) (s : Shared) (H : Hp) (E : XK) (f c : Addr), Room k (A.deeper (LamX.lamEnv X scope s.heap.objs.size f c)) → PE (lamN X A outer s H E scope f c) body (t E))
    (hdb : (x == ("__debug__" : Str)) = false := by decide) (hd : (a == ("__debug__" : Str)) = false := by decide) (hcd : (a == ("__classdict__" : Str)) = false := by decide) :
    PE X (.Call (.Name x p) [.Lambda params body scope lpos] [] pos) (LamX.tLam T TT t) := by
  refine ⟨fun pins s σ H Q I hh => ?_⟩
  obtain ⟨hT, hh⟩ := hh
  refine wpAny_Call_Name_kw (ld_glob I hg hm (PySem.W.callWith_K (h₀ := X.base) I.ok.mod.kin hk ?_ (by rfl) (by rfl)) hdb)
  show wpAny _ _ (spliced ((false, eval (.Lambda params body scope lpos) X.env) :: backTo pos (starEach [] X.env))) _ _ s
  refine Calls.spliced_cons (LamX.lam_make2 I TB hcode hmT hu hT hdef (L.has I.ok) fun f c' pm' ctv H1 s' I1 eN T1 hf hfn hfr hco => Calls.spliced_nil ⟨I1.kIn, ?_⟩)
  have rc : codeAny (model X.prog X.w) X.A (.call (.ref g) ⟨[.ref f], []⟩) (CR C8.CX0 X.stack X.prog X.w H1 s' Q C8.E0) s' := by
    refine LamX.run_ofS (N := Ng) (ps := [a]) (us := [.ref f]) (vs := [.ref f]) lk hcg Sg hr I1.env0 (hb s' [.ref f] I1.kIn rfl) (.cons rfl .nil) rfl fun hr' => ?_
    obtain ⟨t', ht', hq'⟩ := hG f c' s' H1 Q (fun E H' Q' => t E σ H' Q') (hr'.mono (by omega)) (fun W pn xe E p1 p2 tk => pe_actN (i := 0) I1 L hf hfn hfr (hbind _ _ _ _ _) tk hr' (fun A outer s H hr2 => hbody A outer s H E f c' hr2) hNg hva hd hcd) hco (hh H1 eN T1)
    exact ⟨t', ht'.nox, hq'⟩
  refine wpAny_call (codeAny_mono rc fun r s2 hq => ?_)
  cases r with
  | error e => exact (show False from hq).elim
  | ok fl =>
    cases fl with
    | ret u => exact I1.after hq
    | next => exact hq.elim
    | brk => exact hq.elim
    | cont => exact hq.elim
end
section
variable {P : Program} {w : World} {K : PySem.W.Frag} {mg : Str → Option Value} {base : Heap}
end
end Fm

namespace Fm
open PySem PySem.Spec PyProof.Rows L2
theorem pss_by {X : Cx} {body : List Stmt} {t' : TS} (h : ∀ D σ H, t' D σ H → ∃ t, PSs X body t ∧ t D σ H) : PSs X body t' := ⟨fun pins s σ H D I hh => by
  obtain ⟨t, ht, q⟩ := h D σ H hh
  exact ht.run pins s σ H D I q⟩
theorem list6 {α : Type} {l : List α} (h : l.length = 6) : ∃ a b c d e f, l = [a, b, c, d, e, f] := match l, h with
  | [a, b, c, d, e, f], _ => ⟨a, b, c, d, e, f, rfl⟩
theorem takes0N {X : Cx} : L2N.Takes X (fun _ _ _ _ => False) := fun _ _ x => by
  obtain ⟨_, _, _, _, _, _, _, _, _, _, _, _, _, _, _, _, z⟩ := x
  exact z.elim
/-- the names of those that are so -/
theorem names_read {K : PySem.W.Frag} {σ : L2.St} {H : Hp} {Q : VK} {L : Addr} {ts : List V} {ps : List (Str × Bool)} {iS j1 j2 : Nat} (hσ : σ[iS]? = some (some (.ref L))) (hL : H L = some (.lst ts)) (hlen : ts.length = ps.length) (hsm : ps.length ≤ 1000)
    (hts : ∀ (i : Nat) (t : V) (p : Str × Bool), ts[i]? = some t → ps[i]? = some p → ∃ a, t = .ref a ∧ H a = some (.tup [.str p.1, .bl p.2])) (h12 : j1 ≠ j2) (hj1 : j1 < σ.length) (hj2 : j2 < σ.length)
    (hw : ∀ v w, wipe (((wipe σ [j1, j2]).set j1 (some v)).set j2 (some w)) [j1, j2] = wipe σ [j1, j2]) 
    (q : ∀ D H', H D = none → Same H H' → H' D = some (.lst ((ps.filter (·.2)).map fun p => V.str p.1)) → Q (.ref D) H') :
    tLcH K (tVar iS) (gTup K 2 (gCons (gName j1) (gCons (gName j2) gNil))) (tB (tVar j2)) (tVar j1) [j1, j2] σ H Q := by
  refine ⟨.ref L, hσ, L, ts, rfl, SqL.of hL, fun D hD => ⟨fun i H' => Same H H' ∧ H' D = some (.lst (((ps.take i).filter (·.2)).map fun p => V.str p.1)), ⟨Same.updD (Same.refl H) hD, upd_same⟩, fun i H' hP => SqL.of (hP.1 _ _ hL), fun H' hP => ?_, fun i x H' hx hP => ?_⟩⟩
  · rw [hlen, List.take_length] at hP
    exact q D H' hD hP.1 hP.2
  · obtain ⟨sm, hD'⟩ := hP
    have hi : i < ps.length := by
      have := (List.getElem?_eq_some_iff.mp hx).1
      omega
    have hpi : ps[i]? = some ps[i] := List.getElem?_eq_getElem hi
    obtain ⟨a, rfl, ha⟩ := hts i x _ hx hpi
    have l1 : j1 < (wipe σ [j1, j2]).length := by rw [wipe_length]; exact hj1
    have l2 : j2 < ((wipe σ [j1, j2]).set j1 (some (V.str ps[i].1))).length := by rw [List.length_set, wipe_length]; exact hj2
    refine ⟨a, _, rfl, SqT.of (sm _ _ ha), rfl, _, _, rfl, _, _, rfl, rfl, hw _ _, .bl ps[i].2, List.getElem?_set_self l2, ps[i].2, rfl, ?_⟩
    cases hb : ps[i].2 with
    | false =>
      rw [if_neg Bool.false_ne_true]
      refine ⟨sm, ?_⟩
      have ef : List.filter (fun x : Str × Bool => x.2) [ps[i]] = [] := by rw [List.filter_cons, if_neg (by rw [hb]; exact Bool.false_ne_true)]; rfl
      rw [List.take_add_one, hpi, hD', List.filter_append, List.map_append]
      show _ = some (HO.lst (_ ++ List.map _ (List.filter (fun x : Str × Bool => x.2) [ps[i]])))
      rw [ef, List.map_nil, List.append_nil]
    | true =>
      rw [if_pos rfl]
      refine ⟨.str ps[i].1, ?_, _, hD', ?_, Same.updD sm hD, ?_⟩
      · rw [List.getElem?_set_ne (Ne.symm h12), List.getElem?_set_self l1]
      · refine small1000 ?_
        rw [List.length_map]
        exact Nat.le_trans (List.length_filter_le _ _) (by rw [List.length_take]; omega)
      · have ef : List.filter (fun x : Str × Bool => x.2) [ps[i]] = [ps[i]] := by rw [List.filter_cons, if_pos hb]; rfl
        rw [upd_same, List.take_add_one, hpi, List.filter_append, List.map_append]
        show _ = some (HO.lst (_ ++ List.map _ (List.filter (fun x : Str × Bool => x.2) [ps[i]])))
        rw [ef]
        rfl
/-- all classes of refusals under MirrorError -/
def mirNames : List Str := ["NoGround", "NoNumber", "NoRow", "NoTable", "NoForm", "NoKeeper", "NoWorth", "NoSeat", "NoFour", "NoPlace", "NoClaim", "NoText", "NoSaying", "TooMany", "NotKept"]
/-- the class at C is the one named nm among them, of errors without a dict -/
structure MirC (K : PySem.W.Frag) (C : Addr) (nm : Str) : Prop where
  exc : ExcC K C
  kit : ∀ x ∈ mirNames, PySem.W.kitOne K (.ref C) (.ref (He.ga K x)) = some (decide (x = nm))
  ve : PySem.W.kitOne K (.ref C) (.type "ValueError") = some true
  exm : PySem.W.exmOne K (.ref C) (.ref (He.ga K "MirrorError")) = some true
  one : mirNames.filter (fun x => decide (x = nm)) = [nm]
theorem mir_told {l : List Str} {nm : Str} (h : l.filter (fun x => decide (x = nm)) = [nm]) : ((l.map fun x => (x, decide (x = nm))).filter (·.2)).map (fun p => V.str p.1) = [V.str nm] := by
  rw [List.filter_map]
  show List.map _ (List.map _ (l.filter fun x => decide (x = nm))) = _
  rw [h]
  rfl
def excCB (K : PySem.W.Frag) (D : Addr) : Bool :=
  He.eqO (PySem.W.findIn K (.ref D) "__getattribute__") (some (some (.builtin "BaseException.__getattribute__"))) && (He.eqO (PySem.W.findIn K (.ref D) "__getattr__") (some none) && (decide (PySem.W.subIn K (.ref D) (.type "BaseException") = some true) && (PySem.W.hasDictIn K D &&
  (He.eqO (PySem.W.findIn K (.ref D) "__class__") (some (some (.builtin "object.__class__"))) && (He.eqO (PySem.W.specialIn K (.builtin "object.__class__") "__get__") (some (some (.builtin "getset_descriptor.__get__"))) && (decide (PySem.W.takesIn K (.builtin "object.__class__") = some true) && decide (PySem.W.mroIn K D (.type "object") = some true)))))))
theorem excCB_ok {K : PySem.W.Frag} {D : Addr} (h : excCB K D = true) : ExcC K D := by
  unfold excCB at h
  obtain ⟨h1, h⟩ := He.ba h
  obtain ⟨h2, h⟩ := He.ba h
  obtain ⟨h3, h⟩ := He.ba h
  obtain ⟨h4, h⟩ := He.ba h
  obtain ⟨h5, h⟩ := He.ba h
  obtain ⟨h6, h⟩ := He.ba h
  obtain ⟨h7, h8⟩ := He.ba h
  exact ⟨He.eqO_ok h1, He.eqO_ok h2, of_decide_eq_true h3, h4, He.eqO_ok h5, He.eqO_ok h6, of_decide_eq_true h7, of_decide_eq_true h8⟩
/-- what the written part must say of the class named nm -/
def mirB (K : PySem.W.Frag) (nm : Str) : Bool :=
  excCB K (He.ga K nm) && ((mirNames.all fun x => decide (PySem.W.kitOne K (.ref (He.ga K nm)) (.ref (He.ga K x)) = some (decide (x = nm)))) && (decide (PySem.W.kitOne K (.ref (He.ga K nm)) (.type "ValueError") = some true) && decide (PySem.W.exmOne K (.ref (He.ga K nm)) (.ref (He.ga K "MirrorError")) = some true)))
theorem mirB_ok {K : PySem.W.Frag} {nm : Str} (h : mirB K nm = true) (h1 : mirNames.filter (fun x => decide (x = nm)) = [nm]) : MirC K (He.ga K nm) nm := by
  unfold mirB at h
  obtain ⟨a, h⟩ := He.ba h
  obtain ⟨b, h⟩ := He.ba h
  obtain ⟨c, d⟩ := He.ba h
  exact ⟨excCB_ok a, fun x hx => of_decide_eq_true (List.all_eq_true.mp b x hx), of_decide_eq_true c, of_decide_eq_true d, h1⟩
/-- the suite of the first clause, as read: the class's name is told -/
def tsMir (K : PySem.W.Frag) (iE : Nat) (n : Nat) : Addr → Value → Option Addr → TS := fun a cls d D σ H => ∃ C nm, cls = .ref C ∧ d = none ∧ MirC K C nm ∧ σ[iE]? = some (some (.ref a)) ∧ σ.length = n ∧ ∀ H', Same H H' → D.rt (.str nm) H'
/-- what _law_refusal makes of the lambda's reading: None, or the name of what is raised -/
def TTref (K : PySem.W.Frag) : (XK → Hp → VK → Prop) → Hp → VK → Prop := fun tl H Q => tl (fun cls d H' => (∃ C nm, cls = .ref C ∧ d = none ∧ MirC K C nm ∧ ∀ H'', Same H' H'' → Q (.str nm) H'') ∨
  (∃ C, cls = .ref C ∧ PySem.W.exmOne K cls (.ref (He.ga K "MirrorError")) = some false ∧ PySem.W.exmOne K cls (.ref (He.ga K "OverNought")) = some true ∧ Q (.str "OverNought") H') ∨
  (∃ C, cls = .ref C ∧ PySem.W.exmOne K cls (.ref (He.ga K "MirrorError")) = some false ∧ PySem.W.exmOne K cls (.ref (He.ga K "OverNought")) = some false ∧ PySem.W.exmOne K cls (.ref (He.ga K "Flat")) = some true ∧ Q (.str "Flat") H')) H (fun _ H' => Q .non H')
section
variable {P : Program} {w : World} {K : PySem.W.Frag} {mg : Str → Option Value} {base : Heap} {x qual : Str} {params : Arguments} {body : List Stmt} {scope : Scope} {dvs : List V} {kws : List (Str × V)} {f c : Addr} {fd : FuncData}
/-- as F.ok, where the def's code object is known -/
def CodeAt (K : PySem.W.Frag) (f c : Addr) : Prop := ∀ (oc : Value) (od : Option Addr) (fd : FuncData) (osl : Array (Option Value)), K.lookup f = some ⟨oc, od, .func fd, osl⟩ → fd.code = .ref c
theorem okC {CX : CXT} {N ps : List Str} {k : Nat} {sp : Sp} (F : FunD K x qual params body scope dvs kws f fd) (hC : CodeAt K f c) (S : FnScope N ps scope) (len : ∀ vs H Q E, sp vs H Q E → vs.length = ps.length)
    (hbody : ∀ (A : Around) (outer : List Env) (s : Shared) (H : Hp) (vs : List V) (Q : VK) (E : XK), Room k (A.deeper (envOfC qual scope s.heap.objs.size f (.ref c))) → sp vs H Q E →
      ∃ t, PSs (cxOf CX P w K mg base N qual scope f (.ref c) A outer s H E) body t ∧ t { nx := fun _ H' => Q .non H', rt := Q } (start N vs) H) : FnOk P w K mg base CX (k + 1) f fd ps sp := by
  obtain ⟨oc, od, dV, kV, doc, pm, an, cdv, ct, osl, rfl, lk, hcd, _, _⟩ := F.ex
  have e : cdv = .ref c := hC _ _ _ _ lk
  subst e
  exact fn_of lk hcd S len fun A outer s H vs Q E hr hsp => hbody A outer s H vs Q E hr hsp
theorem codeAt_of {p : He.Defn} (F : FunD K x qual params body scope dvs kws (He.fAd K p) fd) : CodeAt K (He.fAd K p) (He.codeOf K p) := by
  obtain ⟨oc, od, dV, kV, doc, pm, an, cdv, ct, osl, rfl, lk, hcd, _, _⟩ := F.ex
  obtain ⟨c, rfl⟩ := He.codeIn_ref hcd
  intro oc' od' fd' osl' lk'
  have e := lk.symm.trans lk'
  cases e
  rw [He.codeOf_eq lk rfl]
end
section
variable {X : Cx}
/-- x(lambda: body), x by its facts -/
theorem pe_lamF {T : List (Addr × Str)} {TT : (XK → Hp → VK → Prop) → Hp → VK → Prop} {x a : Str} {g c P : Addr} {k : Nat} {pg : Arguments} {bg : List Stmt} {sg : Scope} {fd : FuncData} {Ng : List Str} {params : Arguments} {body : Expr} {scope : Scope} {t : XK → TE} {p lpos pos : Pos}
    (F : FunD X.K x x pg bg sg [] [] g fd) (hb : L2.Binds X.K fd [a] []) (hg : Gl X x) (hm : X.mg x = some (.ref g)) (Sg : FnScope Ng [a] sg) (hNg : Ng[0]? = some a) (hva : Vis sg a) (hG : ∀ cdv, GivesN X Ng x sg g cdv bg a (X.env.qual ++ "<lambda>") TT)
    (TB : LamX.TabB X.base X.mg c P) (hcode : X.env.code = .ref c) (hmT : (P, X.env.qual ++ "<lambda>") ∈ T) (hu : ∀ p ∈ T, p.1 = P → p.2 = X.env.qual ++ "<lambda>") (hr : Room (k + 2) X.A) (L : LamX.LamS X.env.scope scope) (hdef : defaultsOf params X.env = ([], []))
    (hbind : ∀ (q : Str) (cl : List (Str × Addr)) (pm cv ctv : Value), bindArgs (PySem.W.kla_fn "<lambda>" q params body scope cl pm cv ctv) ⟨[], []⟩ = pure [])
    (hbody : ∀ (A : Around) (outer : List Env) (s : Shared) (H : Hp) (E : XK) (f c : Addr), Room k (A.deeper (LamX.lamEnv X scope s.heap.objs.size f c)) → PE (lamN X A outer s H E scope f c) body (t E))
    (hdb : (x == ("__debug__" : Str)) = false := by decide) (hd : (a == ("__debug__" : Str)) = false := by decide) (hcd : (a == ("__classdict__" : Str)) = false := by decide) :
    PE X (.Call (.Name x p) [.Lambda params body scope lpos] [] pos) (LamX.tLam T TT t) := by
  obtain ⟨oc, od, dV, kV, doc, pm, an, cdv, ct, osl, rfl, lk, hcd', _, _⟩ := F.ex
  exact pe_lamN hg hm F.kp lk hcd' hb Sg hNg hva (hG cdv) TB hcode hmT hu hr L hdef hbind hbody hdb hd hcd
end
end Fm

namespace Fm
open PySem PySem.Spec PyProof.Rows L2
/-! ### xs[::-2]: some of the items -/
theorem vals_pick {xs : List V} {its : List Value} (r : Vals xs its) : ∀ R : List Nat, Vals (R.filterMap (xs[·]?)) (R.filterMap (its[·]?))
  | [] => .nil
  | i :: R => by
    have ih := vals_pick r R
    rw [List.filterMap_cons, List.filterMap_cons]
    have hl := r.length
    cases e : xs[i]? with
    | none =>
      have e2 : its[i]? = none := by
        rw [List.getElem?_eq_none_iff] at e ⊢
        omega
      simp only [e2]
      exact ih
    | some x =>
      obtain ⟨u, hu, ru⟩ := r.get e
      simp only [hu]
      exact .cons ru ih
def tStep2 (K : PySem.W.Frag) (te : TE) : TE := fun σ H Q => te σ H fun x H1 => ∃ a xs, x = .ref a ∧ SqL K H1 a xs ∧ ∀ p ys, H1 p = none → ys.length ≤ xs.length → (∀ y ∈ ys, y ∈ xs) → Q (.ref p) (upd H1 p (.lst ys))
theorem pe_step2 {X : Cx} {e : Expr} {te : TE} {k : Nat} {p1 p2 p3 pos : Pos} (he : PE X e te) : PE X (.Subscript e (.Slice none none (some (.UnaryOp .USub (.Constant (.int 2) k p1) p2)) p3) pos) (tStep2 X.K te) := by
  refine ⟨fun pins s σ H Q I h => ?_⟩
  refine Subscript_ (thn (he.run pins s σ H _ I h) fun v s1 hr => ?_)
  obtain ⟨x, H1, I1, r1, a, xs, rfl, hx, q⟩ := hr
  cases r1
  have hst : PO X (some (.UnaryOp .USub (.Constant (.int 2) k p1) p2)) (tPart (tUn (rU fun i => .int (-i)) (tC (.int 2)))) := po_some (pe_un un_neg pe_int)
  refine wpAny_Slice (thn (po_none.run pins s1 σ H1 (fun o H2 => o = none ∧ H2 = H1) I1 ⟨rfl, rfl⟩) fun vl s2 hr2 => ?_)
  obtain ⟨l, H2, I2, pl, rfl, rfl⟩ := hr2
  refine thn (po_none.run pins s2 σ H2 (fun o H3 => o = none ∧ H3 = H2) I2 ⟨rfl, rfl⟩) fun vu s3 hr3 => ?_
  obtain ⟨u, H3, I3, pu, rfl, rfl⟩ := hr3
  refine thn (hst.run pins s3 σ H3 (fun o H4 => o = some (-2) ∧ H4 = H3) I3 ⟨2, rfl, -2, rfl, rfl, rfl⟩) fun vs s4 hr4 => ?_
  obtain ⟨o, H4, I4, ps, rfl, rfl⟩ := hr4
  have I5 : Inv X pins σ H4 { s4 with heap := s4.heap.push { cls := .type "slice", data := .fields #[vl, vu, vs] } } := I4.kept (t' := s4.toks) fun b ob e => Heap.get?_push_of_some _ e
  obtain ⟨its, r, ht, hz⟩ := I5.list hx
  have hlen := r.length
  show wpAny (model X.prog X.w) X.A (subscriptTail e (.Slice none none (some (.UnaryOp .USub (.Constant (.int 2) k p1) p2)) p3) (.ref a) (.ref s4.heap.objs.size)) (EP X pins σ Q) X.xe _
  refine tail_any (ops := [.ref a, .ref s4.heap.objs.size]) ht.isList.typeIs (PySem.slot_list_getitem.lookup) ?_ (by with_unfolding_all rfl)
  refine wpAny_getItem_list_slice ht.isList (Heap.IsSliceOf.new _ vl vu vs) pl pu ps (by decide) ?_ (by rw [List.size_toArray]; omega)
  have hsz := slicePick_size_le its.toArray none none (some (-2))
  have hp : slicePick its.toArray none none (some (-2)) = ((sliceRange (sliceBounds none none (some (-2)) its.length).1 (sliceBounds none none (some (-2)) its.length).2.1 (sliceBounds none none (some (-2)) its.length).2.2).filterMap (its[·]?)).toArray := by
    unfold slicePick
    simp
  rw [hp] at hsz ⊢
  generalize sliceRange _ _ _ = R at hsz ⊢
  have rv := vals_pick r R
  have hl2 := rv.length
  simp only [List.size_toArray] at hsz
  refine ⟨.ref _, _, I5.laid (t' := s4.toks) (o := .lst (R.filterMap (xs[·]?))) (fun b ob e => Heap.get?_push_of_some _ e) (Nat.le_refl _) ⟨by omega, _, 0, rv, Heap.get?_push_size _ rfl⟩, rfl, q _ _ (I5.hok.fresh (Nat.le_refl _)) (by omega) fun y hy => ?_⟩
  obtain ⟨i, _, e⟩ := List.mem_filterMap.mp hy
  exact List.mem_of_getElem? e
theorem w_step2 {K : PySem.W.Frag} {te : TE} {σ : L2.St} {H : Hp} {Q : VK} (h : te σ H fun x H1 => ∃ a xs, x = .ref a ∧ SqL K H1 a xs ∧ ∀ p ys, H1 p = none → ys.length ≤ xs.length → (∀ y ∈ ys, y ∈ xs) → Q (.ref p) (upd H1 p (.lst ys))) : tStep2 K te σ H Q := h
theorem w_par3 {i j l : Nat} {as : TA} {D : Ends} {σ : L2.St} {H : Hp} (h : as σ H fun vs H1 => ∃ u v w, vs = [u, v, w] ∧ D.nx (((σ.set i (some u)).set j (some v)).set l (some w)) H1) : tPar3 i j l as D σ H := h
theorem w_ex3 {a b c : V} {R : V → V → V → Prop} (h : R a b c) : ∃ u v w, [a, b, c] = [u, v, w] ∧ R u v w := ⟨a, b, c, rfl, h⟩
theorem w_bits {to : TE} {σ : L2.St} {H : Hp} {Q : VK} (h : to σ H fun x H1 => ∃ i, x = .int i ∧ Q (.int (Builtin.Int.intBits i : Nat)) H1) : tBits to σ H Q := h
/-! ### whole roots by value -/
def isqrt : Nat → Nat
  | 0 => 0
  | n + 1 => if (isqrt n + 1) * (isqrt n + 1) ≤ n + 1 then isqrt n + 1 else isqrt n
theorem isqrt_spec (n : Nat) : RootOf n (isqrt n) := by
  induction n with
  | zero => exact ⟨Nat.le_refl _, by decide⟩
  | succ n ih =>
    obtain ⟨h1, h2⟩ := ih
    unfold isqrt
    split
    · rename_i h
      refine ⟨h, ?_⟩
      have : (isqrt n + 1 + 1) * (isqrt n + 1 + 1) = (isqrt n + 1) * (isqrt n + 1) + 2 * isqrt n + 3 := by grind
      omega
    · rename_i h
      exact ⟨by omega, by omega⟩
theorem root_is {n r : Nat} (h : RootOf n r) : r = isqrt n := root_uniq h (isqrt_spec n)
/-- the root on a wheel: the first one -/
def wroot (g a : Int) : Option Int := ((List.range g.toNat).map fun (i : Nat) => (i : Int)).find? fun i => decide ((i * i).fmod g = a)
/-- the root of a number, as both sides reckon it -/
def rootV (g : Int) (a : Int × Int) : Option (Int × Int) :=
  if g = 0 then (if a.1 < 0 then none else if (isqrt a.1.toNat : Int) * (isqrt a.1.toNat : Int) = a.1 ∧ (isqrt a.2.toNat : Int) * (isqrt a.2.toNat : Int) = a.2 then some ((isqrt a.1.toNat : Int), (isqrt a.2.toNat : Int)) else none) else (wroot g a.1).map fun i => (i, 1)
/-- None, or a number -/
def OptV (H : Hp) (v : V) : Option (Int × Int) → Prop
  | none => v = .non
  | some r => NumV H v r
theorem OptV.kt {H H' : Hp} {v : V} {o : Option (Int × Int)} (h : OptV H v o) (k : Kt H H') : OptV H' v o := by
  cases o with
  | none => exact h
  | some r => exact NumV.kt h k
/-- a number of the ground g, below 2 ^ k -/
def TN (g : Int) (k : Nat) (a : Int × Int) : Prop := ((g = 0 ∧ Red a) ∨ (0 < g ∧ 0 ≤ a.1 ∧ a.1 < g ∧ a.2 = 1)) ∧ a.1.natAbs < 2 ^ k ∧ a.2.natAbs < 2 ^ k
theorem TN.mono {g : Int} {k l : Nat} {a : Int × Int} (h : TN g k a) (hl : k ≤ l) : TN g l a := ⟨h.1, Nat.lt_of_lt_of_le h.2.1 (Nat.pow_le_pow_right (by decide) hl), Nat.lt_of_lt_of_le h.2.2 (Nat.pow_le_pow_right (by decide) hl)⟩
theorem TN.pos {g : Int} {k : Nat} {a : Int × Int} (h : TN g k a) : 0 < a.2 := by
  rcases h.1 with ⟨_, h⟩ | ⟨_, _, _, h⟩
  · exact h.1
  · omega
theorem TN.num {g : Int} {k : Nat} {a : Int × Int} (h : TN g k a) : numOk g [.int a.1, .int a.2] = true := by
  rcases h.1 with ⟨rfl, hr⟩ | ⟨hg, h1, h2, h3⟩
  · rw [numOk_0, decide_eq_true (show 1 ≤ a.2 from hr.1), hr.2]
    rfl
  · rw [numOk_g (by omega), decide_eq_true h1, decide_eq_true h2, decide_eq_true h3]
    rfl
def Gr5 (g : Int) : Prop := g = 3 ∨ g = 5 ∨ g = 7 ∨ g = 11 ∨ g = 13
/-- on a wheel what is no multiple has a back -/
theorem inv_of {g d : Int} (hg : Gr5 g) (hd : d.fmod g ≠ 0) : ∃ f : Int, 1 ≤ f ∧ f ≤ 13 ∧ (f * d).fmod g = 1 := by
  have g0 : 0 < g := by unfold Gr5 at hg; omega
  have e : ∀ f : Int, (f * d).fmod g = (f * d.fmod g).fmod g := fun f => by
    rw [fmod_pos _ g0, fmod_pos _ g0, fmod_pos _ g0, Int.mul_emod f (d % g), Int.emod_emod_of_dvd d (Int.dvd_refl g), ← Int.mul_emod]
  have r0 : 0 ≤ d.fmod g := by rw [fmod_pos _ g0]; exact Int.emod_nonneg _ (by omega)
  have r1 : d.fmod g < g := by rw [fmod_pos _ g0]; exact Int.emod_lt_of_pos _ g0
  simp only [e]
  generalize d.fmod g = r at hd r0 r1 ⊢
  have key : ∀ g ∈ [3, 5, 7, 11, 13], ∀ r ∈ List.range g, r ≠ 0 → ∃ f ∈ List.range 14, 1 ≤ f ∧ ((f : Int) * (r : Int)).fmod (g : Int) = 1 := by decide +kernel
  obtain ⟨n, rfl⟩ := Int.eq_ofNat_of_zero_le r0
  have mk : ∀ m : Nat, m ∈ [3, 5, 7, 11, 13] → (n : Int) < m → ∃ f : Int, 1 ≤ f ∧ f ≤ 13 ∧ (f * (n : Int)).fmod (m : Int) = 1 := fun m hm hn => by
    obtain ⟨f, hf, h1, h2⟩ := key m hm n (List.mem_range.mpr (by omega)) (by omega)
    exact ⟨f, by omega, by have := List.mem_range.mp hf; omega, h2⟩
  unfold Gr5 at hg
  rcases hg with rfl | rfl | rfl | rfl | rfl
  · exact mk 3 (by decide) r1
  · exact mk 5 (by decide) r1
  · exact mk 7 (by decide) r1
  · exact mk 11 (by decide) r1
  · exact mk 13 (by decide) r1
/-- what comes of lowest terms is a number -/
theorem tn_low {g u d : Int} {k : Nat} (hg : g = 0 ∨ Gr5 g) (hd : d ≠ 0) (hg2 : g ≠ 0 → d.fmod g ≠ 0) (hk : 4 ≤ k) (h1 : u.natAbs < 2 ^ k) (h2 : d.natAbs < 2 ^ k) : TN g k (lowF g u d) := by
  have g13 : g ≤ 13 := by unfold Gr5 at hg; omega
  obtain ⟨b1, b2, b3⟩ := low_bd (g := g) (u := u) g13 hd hk h1 h2
  refine ⟨?_, b1, b2⟩
  rcases hg with rfl | hg
  · exact .inl ⟨rfl, (low0_red hd).1⟩
  · have g0 : 0 < g := by unfold Gr5 at hg; omega
    obtain ⟨f, f1, f2, f3⟩ := inv_of hg (hg2 (by omega))
    refine .inr ⟨g0, ?_⟩
    rw [low_inv g0 f3]
    refine ⟨?_, ?_, rfl⟩
    · show 0 ≤ (u * f).fmod g
      rw [fmod_pos _ g0]
      exact Int.emod_nonneg _ (by omega)
    · show (u * f).fmod g < g
      rw [fmod_pos _ g0]
      exact Int.emod_lt_of_pos _ g0
theorem one_fmod {g : Int} (hg : Gr5 g) : (1 : Int).fmod g ≠ 0 := by
  unfold Gr5 at hg
  rcases hg with rfl | rfl | rfl | rfl | rfl <;> decide
theorem TN.bd {g : Int} {k : Nat} {a : Int × Int} (h : TN g k a) (hk : k ≤ 3000) : PBd a := ⟨(h.mono hk).2.1, (h.mono hk).2.2, by have := h.pos; omega⟩
theorem tn_times {g : Int} {k l : Nat} {a c : Int × Int} (hg : g = 0 ∨ Gr5 g) (ha : TN g k a) (hc : TN g l c) (hk : 4 ≤ k) : TN g (k + l) (timesF g a c) := by
  have ha2 := ha.pos
  have hc2 := hc.pos
  refine tn_low hg (Int.mul_ne_zero (by omega) (by omega)) (fun z => ?_) (by omega) (wide_lt ha.2.1 hc.2.1) (wide_lt ha.2.2 hc.2.2)
  rcases ha.1 with ⟨e, _⟩ | ⟨_, _, _, e⟩
  · exact absurd e z
  · rcases hc.1 with ⟨e2, _⟩ | ⟨_, _, _, e2⟩
    · exact absurd e2 z
    · rw [e, e2]
      exact one_fmod (hg.resolve_left z)
theorem tn_plus {g : Int} {k l : Nat} {a c : Int × Int} (hg : g = 0 ∨ Gr5 g) (ha : TN g k a) (hc : TN g l c) (hk : 4 ≤ k) : TN g (k + l + 1) (plusF g a c) := by
  have ha2 := ha.pos
  have hc2 := hc.pos
  have b1 : (a.1 * c.2 + c.1 * a.2).natAbs < 2 ^ (k + l + 1) := by
    have h1 := wide_lt ha.2.1 hc.2.2
    have h2 := wide_lt hc.2.1 ha.2.2
    rw [Nat.add_comm l k] at h2
    rw [Nat.pow_succ]
    generalize 2 ^ (k + l) = z at h1 h2 ⊢
    omega
  refine tn_low hg (Int.mul_ne_zero (by omega) (by omega)) (fun z => ?_) (by omega) b1 (Nat.lt_of_lt_of_le (wide_lt ha.2.2 hc.2.2) (Nat.pow_le_pow_right (by decide) (by omega)))
  rcases ha.1 with ⟨e, _⟩ | ⟨_, _, _, e⟩
  · exact absurd e z
  · rcases hc.1 with ⟨e2, _⟩ | ⟨_, _, _, e2⟩
    · exact absurd e2 z
    · rw [e, e2]
      exact one_fmod (hg.resolve_left z)
def minusF (g : Int) (a : Int × Int) : Int × Int := lowF g (0 - a.1) a.2
theorem tn_minus {g : Int} {k : Nat} {a : Int × Int} (hg : g = 0 ∨ Gr5 g) (ha : TN g k a) (hk : 4 ≤ k) : TN g k (minusF g a) := by
  have ha2 := ha.pos
  refine tn_low hg (by omega) (fun z => ?_) hk (by have := ha.2.1; omega) ha.2.2
  rcases ha.1 with ⟨e, _⟩ | ⟨_, _, _, e⟩
  · exact absurd e z
  · rw [e]
    exact one_fmod (hg.resolve_left z)
/-- the root of a number is a number -/
theorem root_num {g : Int} {k : Nat} {a r : Int × Int} (ha : TN g k a) (h : rootV g a = some r) : numOk g [.int r.1, .int r.2] = true := by
  unfold rootV at h
  rcases ha.1 with ⟨rfl, h1, h2⟩ | ⟨hg, h1, h2, h3⟩
  · rw [if_pos rfl] at h
    split at h
    · cases h
    · split at h
      · rename_i h0 hh
        obtain ⟨e1, e2⟩ := hh
        cases h
        generalize (isqrt a.1.toNat : Int) = p at e1 ⊢
        generalize hq : (isqrt a.2.toNat : Int) = q at e2 ⊢
        have q0 : 0 ≤ q := by omega
        have qp : 0 < q := by
          rcases Int.lt_or_eq_of_le q0 with z | z
          · exact z
          · rw [← z] at e2
            omega
        rw [← e1, ← e2] at h2
        have hg2 : Int.gcd p q = 1 := by
          have d1 : (Int.gcd p q : Int) ∣ p * p := Int.dvd_trans (Int.gcd_dvd_left p q) (Int.dvd_mul_right p p)
          have d2 : (Int.gcd p q : Int) ∣ q * q := Int.dvd_trans (Int.gcd_dvd_right p q) (Int.dvd_mul_right q q)
          have d3 := Int.dvd_coe_gcd d1 d2
          rw [h2] at d3
          have d4 : Int.gcd p q ∣ 1 := Int.ofNat_dvd.mp d3
          exact Nat.dvd_one.mp d4
        rw [numOk_0, decide_eq_true (show 1 ≤ q from qp), hg2]
        rfl
      · cases h
  · rw [if_neg (by omega)] at h
    cases e : wroot g a.1 with
    | none =>
      rw [e] at h
      cases h
    | some i =>
      rw [e] at h
      cases h
      obtain ⟨n, hn, rfl⟩ := List.mem_map.mp (List.mem_of_find?_eq_some e)
      have := List.mem_range.mp hn
      rw [numOk_g (by omega), decide_eq_true (show 0 ≤ (n : Int) by omega), decide_eq_true (show (n : Int) < g by omega)]
      rfl
/-! ### numbers compared -/
theorem w_neBl {H : Hp} {Q : VK} {a b : Bool} (e : a = b) (q : Q (.bl false) H) : rNe (.bl a) (.bl b) H Q := by
  subst e
  refine ⟨rfl, ?_⟩
  show Q (.bl (!decide (V.bl a = V.bl a))) H
  rw [decide_eq_true rfl]
  exact q
theorem w_eqStr {H : Hp} {Q : VK} {a b : Str} (q : Q (.bl (decide (a = b))) H) : rEq (.str a) (.str b) H Q := by
  refine ⟨rfl, ?_⟩
  have e : decide (V.str a = V.str b) = decide (a = b) := by
    by_cases h : a = b
    · rw [decide_eq_true h, decide_eq_true (by rw [h])]
    · rw [decide_eq_false h, decide_eq_false (fun z => h (V.str.inj z))]
  show Q (.bl (decide (V.str a = V.str b))) H
  rw [e]
  exact q
theorem w_neStr {H : Hp} {Q : VK} {a b : Str} (q : Q (.bl (!decide (a = b))) H) : rNe (.str a) (.str b) H Q := by
  refine ⟨rfl, ?_⟩
  have e : decide (V.str a = V.str b) = decide (a = b) := by
    by_cases h : a = b
    · rw [decide_eq_true h, decide_eq_true (by rw [h])]
    · rw [decide_eq_false h, decide_eq_false (fun z => h (V.str.inj z))]
  show Q (.bl (!decide (V.str a = V.str b))) H
  rw [e]
  exact q
theorem num_eqv (a b : Int × Int) : PyData.eqv (numD a) (numD b) = decide (a = b) := by
  obtain ⟨a1, a2⟩ := a
  obtain ⟨b1, b2⟩ := b
  by_cases h1 : a1 = b1
  · by_cases h2 : a2 = b2
    · subst h1 h2
      rw [decide_eq_true rfl]
      exact SeqAt.eqv_refl _ (by simp [numD, PyData.canLay0, PyData.canLayAll0])
    · rw [decide_eq_false (by intro z; cases z; exact h2 rfl)]
      simp [numD, PyData.eqv, PyData.eqvAll, h1, h2]
  · rw [decide_eq_false (by intro z; cases z; exact h1 rfl)]
    simp [numD, PyData.eqv, PyData.eqvAll, h1]
theorem num_shaped (a : Int × Int) : SeqAt.shaped (numD a) = true := shaped_of (by simp [numD, PyData.canLay0, PyData.canLayAll0]) (by simp [numD, PyData.depth, PyData.depthAll])
theorem w_eqNum {K : PySem.W.Frag} {H : Hp} {Q : VK} {v v' : V} {a b : Int × Int} (h1 : NumV H v a) (h2 : NumV H v' b) (q : Q (.bl (decide (a = b))) H) : rEqD K v v' H Q := by
  refine ⟨_, _, NumV.dp h1, NumV.dp h2, num_shaped a, num_shaped b, ?_⟩
  rw [num_eqv]
  exact q
theorem w_neNum {K : PySem.W.Frag} {H : Hp} {Q : VK} {v v' : V} {a b : Int × Int} (h1 : NumV H v a) (h2 : NumV H v' b) (q : Q (.bl (!decide (a = b))) H) : rNeD K v v' H Q := by
  refine ⟨_, _, NumV.dp h1, NumV.dp h2, num_shaped a, num_shaped b, ?_⟩
  rw [num_eqv]
  exact q
theorem w_eqNil {K : PySem.W.Frag} {H : Hp} {Q : VK} {p r : Addr} {xs : List V} {n : Nat} (h : H p = some (.lst xs)) (h2 : H r = some (.lst [])) (hx : ∀ x ∈ xs, Dat K H x n) (hn : n ≤ 60) (q : Q (.bl (decide (xs = []))) H) : rEqD K (.ref p) (.ref r) H Q := by
  obtain ⟨d, e, h3, h4, h5, h6, h7⟩ := w_neNil (K := K) (Q := fun v H' => Q (match v with | .bl b => .bl (!b) | v => v) H') h h2 hx hn (by show Q (.bl (!(!decide (xs = [])))) H; rw [Bool.not_not]; exact q)
  refine ⟨d, e, h3, h4, h5, h6, ?_⟩
  have h8 : Q (.bl (!(!PyData.eqv d e))) H := h7
  rw [Bool.not_not] at h8
  exact h8
/-! ### calls of what might raise, where it doesn't -/
theorem passLN {X : Cx} : Passes (L2N.CX X.prog X.w) X E0 := fun _ _ _ _ _ _ _ h => by
  obtain ⟨_, _, _, _, _, _, _, _, _, _, _, _, z⟩ := h
  exact z.elim
/-- a class of refusals, to be raised with a text -/
structure RaiseC (K : PySem.W.Frag) (mg : Str → Option Value) (x : Str) : Prop where
  g : mg x = some (.ref (He.ga K x))
  e : PySem.W.excIn K (He.ga K x) He.veBase "ValueError.__new__" = true
  k : PySem.W.keepIn K (.ref (He.ga K x)) = true
  b : PySem.W.subIn K (.ref (He.ga K x)) (.type "BaseException") = some true
  t : PySem.W.typeIn K (.ref (He.ga K x)) = some (.type "type")
theorem raiseC_of {K : PySem.W.Frag} {mg : Str → Option Value} {x : Str} (g : mg x = some (.ref (He.ga K x))) (c : (He.Fa.exc x).ok K = true) : RaiseC K mg x := by
  obtain ⟨a, b, d, e⟩ := He.exc_ok c
  exact ⟨g, a, b, d, e⟩
/-! ### tables of code objects beside the bag -/
open LamX in
theorem tabs_mv {T : List (Addr × Str)} {H H' : Hp} {b : Addr} (t : Tabs T H) (hb : Bag H b) (m : Mv b H H') : Tabs T H' := fun p hp => by
  obtain ⟨A, B, eb, _⟩ := hb
  obtain ⟨ps, h1, h2, h3⟩ := t p hp
  refine ⟨ps, m _ _ (fun z => ?_) h1, h2, fun pos cv hc => ?_⟩
  · rw [z, eb] at h1
    cases h1
  · obtain ⟨c, e1, e2⟩ := h3 pos cv hc
    refine ⟨c, e1, m _ _ (fun z => ?_) e2⟩
    rw [z, eb] at e2
    exact absurd (Option.some.inj e2) (fun q => by unfold CodeO at q; cases q)
open LamX in
theorem tabs_updL {T : List (Addr × Str)} {H : Hp} {D : Addr} {xs ys : List V} (t : Tabs T H) (hD : H D = some (.lst xs)) : Tabs T (upd H D (.lst ys)) := fun p hp => by
  obtain ⟨ps, h1, h2, h3⟩ := t p hp
  refine ⟨ps, ?_, h2, fun pos cv hc => ?_⟩
  · rw [upd_ne (fun z => by rw [z, hD] at h1; cases h1)]
    exact h1
  · obtain ⟨c, e1, e2⟩ := h3 pos cv hc
    refine ⟨c, e1, ?_⟩
    rw [upd_ne (fun z => ?_)]
    · exact e2
    · rw [z, hD] at e2
      exact absurd (Option.some.inj e2) (fun q => by unfold CodeO at q; cases q)
open LamX in
theorem tabs_sm {T : List (Addr × Str)} {H H' : Hp} (t : Tabs T H) (s : Same H H') : Tabs T H' := t.ext s
/-- all but the tables stay, and these are tables still -/
def Sx (T : List (Addr × Str)) (H H' : Hp) : Prop := LamX.ExtN H H' ∧ LamX.Tabs T H'
theorem Sx.tup {T : List (Addr × Str)} {H H' : Hp} {p : Addr} {xs : List V} (s : Sx T H H') (h : H p = some (.tup xs)) : H' p = some (.tup xs) := s.1 _ _ h fun _ z => by cases z
theorem Sx.lst {T : List (Addr × Str)} {H H' : Hp} {p : Addr} {xs : List V} (s : Sx T H H') (h : H p = some (.lst xs)) : H' p = some (.lst xs) := s.1 _ _ h fun _ z => by cases z
theorem Sx.kt {T : List (Addr × Str)} {H H' : Hp} (s : Sx T H H') : Kt H H' := fun _ _ h => s.tup h
theorem Sx.trans {T : List (Addr × Str)} {H H1 H2 : Hp} (a : Sx T H H1) (b : Sx T H1 H2) : Sx T H H2 := ⟨a.1.trans b.1, b.2⟩
theorem Sx.same {T : List (Addr × Str)} {H H' : Hp} (t : LamX.Tabs T H) (s : Same H H') : Sx T H H' := ⟨LamX.ExtN.of s, tabs_sm t s⟩
theorem Sx.refl {T : List (Addr × Str)} {H : Hp} (t : LamX.Tabs T H) : Sx T H H := ⟨LamX.ExtN.refl H, t⟩
theorem Sx.bag {T : List (Addr × Str)} {H H' : Hp} {b : Addr} (s : Sx T H H') (hb : Bag H b) : Bag H' b := by
  obtain ⟨A, B, h, r⟩ := hb
  exact ⟨A, B, s.lst h, r⟩
/-- a new list, filled -/
theorem Sx.updD {T : List (Addr × Str)} {H H' : Hp} {D : Addr} {xs ys : List V} (s : Sx T H H') (hD : H D = none) (h : H' D = some (.lst xs)) : Sx T H (upd H' D (.lst ys)) :=
  ⟨fun b o e n => by rw [upd_ne (fresh_of e hD)]; exact s.1 b o e n, tabs_updL s.2 h⟩
/-- a bag that is new -/
theorem Sx.mv {T : List (Addr × Str)} {H H1 H2 : Hp} {b : Addr} (s : Sx T H H1) (hn : H b = none) (hb : Bag H1 b) (m : Mv b H1 H2) : Sx T H H2 := ⟨fun p o e n => m p o (fresh_of e hn) (s.1 p o e n), tabs_mv s.2 hb m⟩
end Fm

namespace Fm
open PySem PySem.Spec PyProof.Rows L2
def CPowW (i j : Int) : Prop := 0 ≤ j ∧ (Builtin.Int.intBits i : Int) * j ≤ 2 ^ 27
theorem op_powW {X : Cx} : OpR X (binaryOp .Pow) (rI CPowW fun i j => .int (i ^ j.toNat)) := opI fun _ _ _ _ _ _ _ hc q => pow_int hc.1 hc.2 q
/-! ### fractions as rational numbers -/
def qv (p : Int × Int) : Rat := (p.1 : Rat) / (p.2 : Rat)
theorem rat_ne {z : Int} (h : z ≠ 0) : (z : Rat) ≠ 0 := fun e => h (by exact_mod_cast e)
theorem qv_eq {p : Int × Int} {n d : Int} (hp : p.2 ≠ 0) (hd : d ≠ 0) (h : p.1 * d = n * p.2) : qv p = (n : Rat) / (d : Rat) := by
  unfold qv
  have h1 := rat_ne hp
  have h2 := rat_ne hd
  have e : (p.1 : Rat) * (d : Rat) = (n : Rat) * (p.2 : Rat) := by exact_mod_cast h
  grind
theorem qv_cross {p : Int × Int} {n d : Int} (hp : p.2 ≠ 0) (hd : d ≠ 0) (h : qv p = (n : Rat) / (d : Rat)) : p.1 * d = n * p.2 := by
  unfold qv at h
  have h1 := rat_ne hp
  have h2 := rat_ne hd
  have e : (p.1 : Rat) * (d : Rat) = (n : Rat) * (p.2 : Rat) := by grind
  exact_mod_cast e
theorem qv_low {u d : Int} (hd : d ≠ 0) : qv (lowF 0 u d) = (u : Rat) / (d : Rat) := by
  obtain ⟨h1, h2⟩ := low0_red (u := u) hd
  exact qv_eq (by have := h1.1; omega) hd h2
theorem qv_inj {p q : Int × Int} (hp : Red p) (hq : Red q) (h : qv p = qv q) : p = q := by
  refine red_uniq hp hq ?_
  have := qv_cross (p := p) (n := q.1) (d := q.2) (by have := hp.1; omega) (by have := hq.1; omega) h
  exact this
theorem qv_times {a c : Int × Int} (ha : a.2 ≠ 0) (hc : c.2 ≠ 0) : qv (timesF 0 a c) = qv a * qv c := by
  unfold timesF
  rw [qv_low (Int.mul_ne_zero ha hc)]
  unfold qv
  have h1 := rat_ne ha
  have h2 := rat_ne hc
  have e1 : ((a.1 * c.1 : Int) : Rat) = (a.1 : Rat) * (c.1 : Rat) := by exact_mod_cast rfl
  have e2 : ((a.2 * c.2 : Int) : Rat) = (a.2 : Rat) * (c.2 : Rat) := by exact_mod_cast rfl
  rw [e1, e2]
  grind
theorem fmod_mul_r {a b g : Int} (hg : 0 < g) : (a * b.fmod g).fmod g = (a * b).fmod g := by
  rw [fmod_pos _ hg, fmod_pos _ hg, fmod_pos _ hg, Int.mul_emod a (b % g), Int.emod_emod_of_dvd b (Int.dvd_refl g), ← Int.mul_emod]
theorem fmod_mul_l {a b g : Int} (hg : 0 < g) : (a.fmod g * b).fmod g = (a * b).fmod g := by
  rw [Int.mul_comm, fmod_mul_r hg, Int.mul_comm]
theorem times_wheel {g : Int} {a c : Int × Int} (hg : 0 < g) (ha : a.2 = 1) (hc : c.2 = 1) : timesF g a c = ((a.1 * c.1).fmod g, 1) := by
  unfold timesF
  rw [ha, hc, Int.mul_one]
  exact low_one hg
/-- a square has a root -/
theorem isqrt_sq (n : Nat) : isqrt (n * n) = n := (root_is ⟨Nat.le_refl _, Nat.mul_lt_mul'' (Nat.lt_succ_self n) (Nat.lt_succ_self n)⟩).symm
theorem sq_some {g : Int} {k : Nat} {q : Int × Int} (hg : g = 0 ∨ Gr5 g) (hq : TN g k q) (hk : 4 ≤ k) : (rootV g (timesF g q q)).isSome = true := by
  have tq := tn_times hg hq hq hk
  rcases hq.1 with ⟨rfl, hr⟩ | ⟨g0, q0, q1, q2⟩
  · have hp : Red (timesF 0 q q) := by
      rcases tq.1 with ⟨_, h⟩ | ⟨h, _⟩
      · exact h
      · exact absurd h (by decide)
    rw [red_square hp hr rfl]
    have hq2 := hr.1
    have e1 : (q.1 * q.1).toNat = q.1.natAbs * q.1.natAbs := by rw [← Int.natAbs_mul_self (a := q.1)]; exact Int.toNat_natCast _
    have e2 : (q.2 * q.2).toNat = q.2.natAbs * q.2.natAbs := by rw [← Int.natAbs_mul_self (a := q.2)]; exact Int.toNat_natCast _
    have n0 : ¬ q.1 * q.1 < 0 := by rw [← Int.natAbs_mul_self (a := q.1)]; omega
    have y1 : (isqrt (q.1 * q.1).toNat : Int) * (isqrt (q.1 * q.1).toNat : Int) = q.1 * q.1 := by rw [e1, isqrt_sq, ← Int.natCast_mul]; exact Int.natAbs_mul_self
    have y2 : (isqrt (q.2 * q.2).toNat : Int) * (isqrt (q.2 * q.2).toNat : Int) = q.2 * q.2 := by rw [e2, isqrt_sq, ← Int.natCast_mul]; exact Int.natAbs_mul_self
    unfold rootV
    rw [if_pos rfl, if_neg n0, if_pos ⟨y1, y2⟩]
    rfl
  · rw [times_wheel g0 q2 q2]
    unfold rootV
    rw [if_neg (by omega), Option.isSome_map]
    unfold wroot
    rw [List.find?_isSome]
    refine ⟨q.1, List.mem_map.mpr ⟨q.1.toNat, List.mem_range.mpr (by omega), by omega⟩, decide_eq_true rfl⟩
theorem TN.red {k : Nat} {a : Int × Int} (h : TN 0 k a) : Red a := by
  rcases h.1 with ⟨_, h⟩ | ⟨h, _⟩
  · exact h
  · exact absurd h (by decide)
theorem TN.one {g : Int} {k : Nat} {a : Int × Int} (h : TN g k a) (hg : 0 < g) : a.2 = 1 := by
  rcases h.1 with ⟨e, _⟩ | ⟨_, _, _, e⟩
  · omega
  · exact e
theorem TN.gpos {g : Int} {k : Nat} {a : Int × Int} (h : TN g k a) (hz : g ≠ 0) : 0 < g := by rcases h.1 with ⟨e, _⟩ | ⟨e, _⟩ <;> omega
theorem alike_sq {g : Int} {k : Nat} {x y : Int × Int} (hg : g = 0 ∨ Gr5 g) (hx : TN g k x) (hy : TN g k y) (hk : 4 ≤ k) : (rootV g (timesF g x (timesF g x (timesF g y y)))).isSome = true := by
  have tq := tn_times hg hx hy hk
  have e : timesF g x (timesF g x (timesF g y y)) = timesF g (timesF g x y) (timesF g x y) := by
    have t1 := tn_times hg hy hy hk
    have t2 := tn_times hg hx t1 hk
    have t3 := tn_times hg hx t2 hk
    have t4 := tn_times hg tq tq (by omega)
    rcases hg with rfl | hg5
    · refine qv_inj t3.red t4.red ?_
      have nx : x.2 ≠ 0 := by have := hx.pos; omega
      have ny : y.2 ≠ 0 := by have := hy.pos; omega
      rw [qv_times nx (by have := t2.pos; omega), qv_times nx (by have := t1.pos; omega), qv_times ny ny, qv_times (by have := tq.pos; omega) (by have := tq.pos; omega), qv_times nx ny]
      grind
    · have g0 : 0 < g := by unfold Gr5 at hg5; omega
      rw [times_wheel g0 (hx.one g0) (t2.one g0), times_wheel g0 (hx.one g0) (t1.one g0), times_wheel g0 (hy.one g0) (hy.one g0), times_wheel g0 (tq.one g0) (tq.one g0), times_wheel g0 (hx.one g0) (hy.one g0)]
      simp only [fmod_mul_r g0, fmod_mul_l g0]
      rw [show x.1 * (x.1 * (y.1 * y.1)) = x.1 * y.1 * (x.1 * y.1) by grind]
  rw [e]
  exact sq_some hg tq (by omega)
theorem times_one {g : Int} {k : Nat} {x : Int × Int} (hg : g = 0 ∨ Gr5 g) (hx : TN g k x) : timesF g x (1, 1) = x := by
  rcases hg with rfl | hg5
  · unfold timesF
    have := hx.pos
    refine low0_uniq hx.red (by omega) ?_
    show x.1 * (x.2 * 1) = x.1 * 1 * x.2
    rw [Int.mul_one, Int.mul_one]
  · have g0 : 0 < g := by unfold Gr5 at hg5; omega
    rw [times_wheel g0 (hx.one g0) rfl]
    rcases hx.1 with ⟨e, _⟩ | ⟨_, h1, h2, h3⟩
    · omega
    · have e : (x.1 * 1).fmod g = x.1 := by
        rw [Int.mul_one, fmod_pos _ g0]
        exact Int.emod_eq_of_lt h1 h2
      show ((x.1 * 1).fmod g, (1 : Int)) = x
      rw [e, ← h3]
/-! ### numbers other than nought -/
theorem nz_times {g : Int} {k l : Nat} {a c : Int × Int} (hg : g = 0 ∨ Gr5 g) (ha : TN g k a) (hc : TN g l c) (h1 : a.1 ≠ 0) (h2 : c.1 ≠ 0) : (timesF g a c).1 ≠ 0 := by
  rcases hg with rfl | hg5
  · intro z
    have hd : a.2 * c.2 ≠ 0 := Int.mul_ne_zero (by have := ha.pos; omega) (by have := hc.pos; omega)
    obtain ⟨r, e⟩ := low0_red (u := a.1 * c.1) hd
    have z' : (lowF 0 (a.1 * c.1) (a.2 * c.2)).1 = 0 := z
    rw [z', Int.zero_mul] at e
    exact Int.mul_ne_zero (Int.mul_ne_zero h1 h2) (by have := r.1; omega) e.symm
  · have g0 : 0 < g := by unfold Gr5 at hg5; omega
    rw [times_wheel g0 (ha.one g0) (hc.one g0)]
    rcases ha.1 with ⟨e, _⟩ | ⟨_, a0, a1, _⟩
    · omega
    rcases hc.1 with ⟨e, _⟩ | ⟨_, c0, c1, _⟩
    · omega
    have key : ∀ g ∈ [3, 5, 7, 11, 13], ∀ a ∈ List.range g, ∀ c ∈ List.range g, a ≠ 0 → c ≠ 0 → ((a : Int) * (c : Int)).fmod (g : Int) ≠ 0 := by decide +kernel
    obtain ⟨na, ea⟩ := Int.eq_ofNat_of_zero_le a0
    obtain ⟨nc, ec⟩ := Int.eq_ofNat_of_zero_le c0
    rw [ea] at a1 h1
    rw [ec] at c1 h2
    show (a.1 * c.1).fmod g ≠ 0
    rw [ea, ec]
    have mk : ∀ m : Nat, m ∈ [3, 5, 7, 11, 13] → (na : Int) < m → (nc : Int) < m → ((na : Int) * (nc : Int)).fmod (m : Int) ≠ 0 := fun m hm x1 x2 => key m hm na (List.mem_range.mpr (by omega)) nc (List.mem_range.mpr (by omega)) (by omega) (by omega)
    unfold Gr5 at hg5
    rcases hg5 with rfl | rfl | rfl | rfl | rfl
    · exact mk 3 (by decide) a1 c1
    · exact mk 5 (by decide) a1 c1
    · exact mk 7 (by decide) a1 c1
    · exact mk 11 (by decide) a1 c1
    · exact mk 13 (by decide) a1 c1
theorem nz_minus {g : Int} {k : Nat} {a : Int × Int} (hg : g = 0 ∨ Gr5 g) (ha : TN g k a) (h1 : a.1 ≠ 0) : (minusF g a).1 ≠ 0 := by
  unfold minusF
  have hp := ha.pos
  rcases hg with rfl | hg5
  · intro z
    obtain ⟨r, e⟩ := low0_red (u := 0 - a.1) (d := a.2) (by omega)
    rw [z, Int.zero_mul] at e
    exact Int.mul_ne_zero (show 0 - a.1 ≠ 0 by omega) (by have := r.1; omega) e.symm
  · have g0 : 0 < g := by unfold Gr5 at hg5; omega
    rcases ha.1 with ⟨e, _⟩ | ⟨_, a0, a1, a2⟩
    · omega
    rw [a2, low_one g0]
    show (0 - a.1).fmod g ≠ 0
    rw [fmod_pos _ g0, ← Int.add_emod_right, Int.emod_eq_of_lt (by omega) (by omega)]
    omega
/-- only nought is written with nought above -/
theorem TN.zero {g : Int} {k : Nat} {a : Int × Int} (h : TN g k a) : a.1 = 0 ↔ a = (0, 1) := by
  constructor
  · intro z
    rcases h.1 with ⟨rfl, hr⟩ | ⟨_, _, _, e⟩
    · have h2 := hr.2
      rw [z, Int.gcd_zero_left] at h2
      have := hr.1
      exact Prod.ext z (by show a.2 = 1; omega)
    · exact Prod.ext z e
  · intro e
    rw [e]
end Fm

namespace Fr
open Lean.Grind
variable {F : Type} [CommRing F]
abbrev Row (F : Type) := Nat → F
/-- a sum of rows, times numbers -/
def lin : List F → List (Row F) → Row F
  | c :: cs, a :: A => fun j => c * a j + lin cs A j
  | _, _ => fun _ => 0
/-- what rows span: in every space that holds them -/
structure Spc (W : Row F → Prop) : Prop where
  zero : W (fun _ => 0)
  add : ∀ u v, W u → W v → W (fun j => u j + v j)
  mul : ∀ (c : F) u, W u → W (fun j => c * u j)
def InS (L : List (Row F)) (v : Row F) : Prop := ∀ W : Row F → Prop, Spc W → (∀ r ∈ L, W r) → W v
theorem InS.mem {L : List (Row F)} {v : Row F} (h : v ∈ L) : InS L v := fun _ _ hr => hr v h
theorem InS.spc (L : List (Row F)) : Spc (InS L) := ⟨fun _ s _ => s.zero, fun u v hu hv W s hr => s.add u v (hu W s hr) (hv W s hr), fun c u hu W s hr => s.mul c u (hu W s hr)⟩
theorem InS.trans {L M : List (Row F)} {v : Row F} (h : InS L v) (hl : ∀ r ∈ L, InS M r) : InS M v := h (InS M) (InS.spc M) hl
theorem lin_zero : ∀ (h : List Nat) (A : List (Row F)), lin (h.map fun _ => (0 : F)) A = fun _ => 0
  | [], _ => by unfold lin; rfl
  | _ :: _, [] => by unfold lin; rfl
  | _ :: h, a :: A => by
    funext j
    show (0 : F) * a j + lin (h.map fun _ => (0 : F)) A j = 0
    rw [lin_zero h A]
    grind
theorem lin_add (f g : Nat → F) : ∀ (h : List Nat) (A : List (Row F)), lin (h.map fun p => f p + g p) A = fun j => lin (h.map f) A j + lin (h.map g) A j
  | [], _ => by
    funext j
    show (0 : F) = 0 + 0
    grind
  | _ :: _, [] => by
    funext j
    show (0 : F) = 0 + 0
    grind
  | p :: h, a :: A => by
    funext j
    show (f p + g p) * a j + lin (h.map fun p => f p + g p) A j = f p * a j + lin (h.map f) A j + (g p * a j + lin (h.map g) A j)
    rw [lin_add f g h A]
    grind
theorem lin_mul (c : F) (f : Nat → F) : ∀ (h : List Nat) (A : List (Row F)), lin (h.map fun p => c * f p) A = fun j => c * lin (h.map f) A j
  | [], _ => by
    funext j
    show (0 : F) = c * 0
    grind
  | _ :: _, [] => by
    funext j
    show (0 : F) = c * 0
    grind
  | p :: h, a :: A => by
    funext j
    show c * f p * a j + lin (h.map fun p => c * f p) A j = c * (f p * a j + lin (h.map f) A j)
    rw [lin_mul c f h A]
    grind
/-- least rows A with their heads h -/
structure Rr (A : List (Row F)) (h : List Nat) : Prop where
  len : A.length = h.length
  inc : ∀ (i k p q : Nat), h[i]? = some p → h[k]? = some q → i < k → p < q
  one : ∀ (i : Nat) (a : Row F) (p : Nat), A[i]? = some a → h[i]? = some p → a p = 1
  nul : ∀ (i k : Nat) (a : Row F) (p : Nat), A[i]? = some a → h[k]? = some p → i ≠ k → a p = 0
  ahead : ∀ (i : Nat) (a : Row F) (p j : Nat), A[i]? = some a → h[i]? = some p → j < p → a j = 0
/-- by numbers that are all nought but one -/
theorem lin_unit : ∀ (i : Nat) (A : List (Row F)) (h : List Nat) (f : Nat → F) (a : Row F), A.length = h.length → A[i]? = some a → (∀ (k p : Nat), h[k]? = some p → k ≠ i → f p = 0) → (∀ p : Nat, h[i]? = some p → f p = 1) → lin (h.map f) A = a
  | _, [], _, _, _, _, e, _, _ => by cases e
  | _, _ :: _, [], _, _, hl, _, _, _ => by cases hl
  | 0, b :: A, q :: h, f, a, hl, e, hz, h1 => by
    have e' : b = a := Option.some.inj e
    subst e'
    funext j
    show f q * b j + lin (h.map f) A j = b j
    have hq : f q = 1 := h1 q rfl
    have hr : lin (h.map f) A = fun _ => 0 := by
      have : h.map f = h.map fun _ => (0 : F) := List.map_congr_left fun p hp => by
        obtain ⟨k, hk⟩ := List.getElem?_of_mem hp
        exact hz (k + 1) p hk (by omega)
      rw [this, lin_zero]
    rw [hq, hr]
    grind
  | i + 1, b :: A, q :: h, f, a, hl, e, hz, h1 => by
    have ih := lin_unit i A h f a (Nat.succ.inj hl) e (fun k p hk hne => hz (k + 1) p hk (by omega)) (fun p hp => h1 p hp)
    have hq : f q = 0 := hz 0 q rfl (by omega)
    funext j
    show f q * b j + lin (h.map f) A j = a j
    rw [hq, ih]
    grind
/-- a row that is spanned is told by what it has at the heads -/
theorem Rr.coord {A : List (Row F)} {h : List Nat} (R : Rr A h) {v : Row F} (hv : InS A v) : v = lin (h.map v) A := by
  refine hv (fun v => v = lin (h.map v) A) ⟨?_, fun u w hu hw => ?_, fun c u hu => ?_⟩ fun r hr => ?_
  · exact (lin_zero h A).symm
  · have e := lin_add u w h A
    rw [e, ← hu, ← hw]
  · have e := lin_mul c u h A
    rw [e, ← hu]
  · obtain ⟨i, hi⟩ := List.getElem?_of_mem hr
    exact (lin_unit i A h r r R.len hi (fun k p hk hne => R.nul i k r p hi hk (fun z => hne z.symm)) fun p hp => R.one i r p hi hp).symm
/-- a sum that isn't nought has a part that isn't -/
theorem lin_ne {p : Nat} : ∀ (A : List (Row F)) (h : List Nat) (f : Nat → F), A.length = h.length → lin (h.map f) A p ≠ 0 → ∃ (i : Nat) (a : Row F) (q : Nat), A[i]? = some a ∧ h[i]? = some q ∧ f q ≠ 0 ∧ a p ≠ 0
  | [], [], _, _, hne => absurd rfl hne
  | [], _ :: _, _, hl, _ => by cases hl
  | _ :: _, [], _, hl, _ => by cases hl
  | a :: A, q :: h, f, hl, hne => by
    have hne' : f q * a p + lin (h.map f) A p ≠ 0 := hne
    by_cases e : f q * a p = 0
    · have h2 : lin (h.map f) A p ≠ 0 := fun z => hne' (by rw [e, z]; grind)
      obtain ⟨i, b, r, h3, h4, h5, h6⟩ := lin_ne A h f (Nat.succ.inj hl) h2
      exact ⟨i + 1, b, r, h3, h4, h5, h6⟩
    · refine ⟨0, a, q, rfl, rfl, fun z => e ?_, fun z => e ?_⟩
      · rw [z]
        grind
      · rw [z]
        grind
/-- the first place of a spanned row that isn't nought is a head -/
theorem Rr.lead {A : List (Row F)} {h : List Nat} (R : Rr A h) {v : Row F} (hv : InS A v) {p : Nat} (hp : v p ≠ 0) (h0 : ∀ j, j < p → v j = 0) : p ∈ h := by
  have e := R.coord hv
  have hp' : lin (h.map v) A p ≠ 0 := fun z => hp (by rw [e]; exact z)
  obtain ⟨i, a, q, hi, hq, h1, h2⟩ := lin_ne A h v R.len hp'
  have hge : p ≤ q := Nat.le_of_not_lt fun z => h1 (h0 q z)
  have hle : q ≤ p := Nat.le_of_not_lt fun z => h2 (R.ahead i a q p hi hq z)
  have : p = q := by omega
  rw [this]
  exact List.mem_of_getElem? hq
theorem inc_eq : ∀ (h k : List Nat), (∀ (i j p q : Nat), h[i]? = some p → h[j]? = some q → i < j → p < q) → (∀ (i j p q : Nat), k[i]? = some p → k[j]? = some q → i < j → p < q) → (∀ p, p ∈ h ↔ p ∈ k) → h = k
  | [], [], _, _, _ => rfl
  | [], q :: k, _, _, hm => absurd ((hm q).mpr List.mem_cons_self) (by intro z; cases z)
  | p :: h, [], _, _, hm => absurd ((hm p).mp List.mem_cons_self) (by intro z; cases z)
  | p :: h, q :: k, hh, hk, hm => by
    have below : ∀ x ∈ h, p < x := fun x hx => by
      obtain ⟨i, hi⟩ := List.getElem?_of_mem hx
      exact hh 0 (i + 1) p x rfl hi (by omega)
    have below2 : ∀ x ∈ k, q < x := fun x hx => by
      obtain ⟨i, hi⟩ := List.getElem?_of_mem hx
      exact hk 0 (i + 1) q x rfl hi (by omega)
    have epq : p = q := by
      have h1 := (hm p).mp List.mem_cons_self
      have h2 := (hm q).mpr List.mem_cons_self
      rcases List.mem_cons.mp h1 with z | z
      · exact z
      · rcases List.mem_cons.mp h2 with y | y
        · exact y.symm
        · have := below2 p z
          have := below q y
          omega
    subst epq
    have ih := inc_eq h k (fun i j a b ha hb hij => hh (i + 1) (j + 1) a b ha hb (by omega)) (fun i j a b ha hb hij => hk (i + 1) (j + 1) a b ha hb (by omega)) fun x => by
      constructor
      · intro hx
        rcases List.mem_cons.mp ((hm x).mp (List.mem_cons_of_mem _ hx)) with z | z
        · have := below x hx
          omega
        · exact z
      · intro hx
        rcases List.mem_cons.mp ((hm x).mpr (List.mem_cons_of_mem _ hx)) with z | z
        · have := below2 x hx
          omega
        · exact z
    rw [ih]
/-- least rows that span the same are the same -/
theorem Rr.uniq {A B : List (Row F)} {h k : List Nat} (n1 : (1 : F) ≠ 0) (R : Rr A h) (T : Rr B k) (hAB : ∀ r ∈ A, InS B r) (hBA : ∀ r ∈ B, InS A r) : A = B ∧ h = k := by
  have heads : ∀ {A B : List (Row F)} {h k : List Nat}, Rr A h → Rr B k → (∀ r ∈ A, InS B r) → ∀ p ∈ h, p ∈ k := fun {A B h k} R T hAB p hp => by
    obtain ⟨i, hi⟩ := List.getElem?_of_mem hp
    have hlt : i < A.length := by rw [R.len]; exact (List.getElem?_eq_some_iff.mp hi).1
    have ha : A[i]? = some A[i] := List.getElem?_eq_getElem hlt
    exact T.lead (hAB _ (List.getElem_mem hlt)) (fun z => n1 (by rw [← R.one i _ p ha hi]; exact z)) fun j hj => R.ahead i _ p j ha hi hj
  have ehk : h = k := inc_eq h k R.inc T.inc fun p => ⟨heads R T hAB p, heads T R hBA p⟩
  subst ehk
  refine ⟨List.ext_getElem? fun i => ?_, rfl⟩
  have hl : A.length = B.length := R.len.trans T.len.symm
  by_cases hi : i < A.length
  · have ha : A[i]? = some A[i] := List.getElem?_eq_getElem hi
    have hb : B[i]? = some (B[i]'(by omega)) := List.getElem?_eq_getElem (by omega)
    have e := T.coord (hAB _ (List.getElem_mem hi))
    have e2 := lin_unit i B h A[i] (B[i]'(by omega)) T.len hb (fun q p hq hne => R.nul i q _ p ha hq (fun z => hne z.symm)) fun p hp => R.one i _ p ha hp
    rw [ha, hb]
    exact congrArg some (e.trans e2)
  · rw [List.getElem?_eq_none (by omega), List.getElem?_eq_none (by omega)]
/-- a row less what of it a head's row clears at a place -/
def clr (k : Nat) (b a : Row F) : Row F := fun j => a j + -(a k) * b j
theorem clr_at {k : Nat} {b a : Row F} (hb : b k = 1) : clr k b a k = 0 := by
  unfold clr
  rw [hb]
  grind
theorem clr_nul {k j : Nat} {b a : Row F} (hb : b j = 0) : clr k b a j = a j := by
  unfold clr
  rw [hb]
  grind
/-- one head more -/
theorem Rr.step {A : List (Row F)} {h : List Nat} (R : Rr A h) {k : Nat} {b : Row F} (hk : ∀ p ∈ h, p < k) (hb : b k = 1) (h0 : ∀ j, j < k → b j = 0) : Rr (A.map (clr k b) ++ [b]) (h ++ [k]) := by
  have hl : (A.map (clr k b)).length = h.length := by rw [List.length_map, R.len]
  have look : ∀ (i : Nat) (a : Row F), (A.map (clr k b) ++ [b])[i]? = some a → (i < h.length ∧ ∃ a0, A[i]? = some a0 ∧ a = clr k b a0) ∨ (i = h.length ∧ a = b) := fun i a e => by
    by_cases hi : i < h.length
    · rw [List.getElem?_append_left (by omega), List.getElem?_map] at e
      have ha : A[i]? = some (A[i]'(by rw [R.len]; exact hi)) := List.getElem?_eq_getElem _
      rw [ha] at e
      exact .inl ⟨hi, _, ha, (Option.some.inj e).symm⟩
    · rw [List.getElem?_append_right (by omega), hl] at e
      cases hd : i - h.length with
      | zero =>
        rw [hd] at e
        exact .inr ⟨by omega, (Option.some.inj e).symm⟩
      | succ n =>
        rw [hd] at e
        cases e
  have lookh : ∀ (i p : Nat), (h ++ [k])[i]? = some p → (i < h.length ∧ h[i]? = some p) ∨ (i = h.length ∧ p = k) := fun i p e => by
    by_cases hi : i < h.length
    · rw [List.getElem?_append_left hi] at e
      exact .inl ⟨hi, e⟩
    · rw [List.getElem?_append_right (by omega)] at e
      cases hd : i - h.length with
      | zero =>
        rw [hd] at e
        exact .inr ⟨by omega, (Option.some.inj e).symm⟩
      | succ n =>
        rw [hd] at e
        cases e
  refine ⟨by rw [List.length_append, List.length_append, hl]; rfl, fun i q p r hp hr hiq => ?_, fun i a p ha hp => ?_, fun i q a p ha hp hne => ?_, fun i a p j ha hp hj => ?_⟩
  · rcases lookh i p hp with ⟨h1, e1⟩ | ⟨h1, e1⟩
    · rcases lookh q r hr with ⟨h2, e2⟩ | ⟨h2, e2⟩
      · exact R.inc i q p r e1 e2 hiq
      · rw [e2]
        exact hk p (List.mem_of_getElem? e1)
    · rcases lookh q r hr with ⟨h2, e2⟩ | ⟨h2, e2⟩ <;> omega
  · rcases look i a ha with ⟨h1, a0, e0, rfl⟩ | ⟨h1, rfl⟩
    · rcases lookh i p hp with ⟨_, e1⟩ | ⟨h2, e1⟩
      · rw [clr_nul (h0 p (hk p (List.mem_of_getElem? e1)))]
        exact R.one i a0 p e0 e1
      · omega
    · rcases lookh i p hp with ⟨h2, e1⟩ | ⟨_, e1⟩
      · omega
      · rw [e1]
        exact hb
  · rcases look i a ha with ⟨h1, a0, e0, rfl⟩ | ⟨h1, rfl⟩
    · rcases lookh q p hp with ⟨_, e1⟩ | ⟨h2, e1⟩
      · rw [clr_nul (h0 p (hk p (List.mem_of_getElem? e1)))]
        exact R.nul i q a0 p e0 e1 hne
      · rw [e1]
        exact clr_at hb
    · rcases lookh q p hp with ⟨h2, e1⟩ | ⟨h2, e1⟩
      · exact h0 p (hk p (List.mem_of_getElem? e1))
      · omega
  · rcases look i a ha with ⟨h1, a0, e0, rfl⟩ | ⟨h1, rfl⟩
    · rcases lookh i p hp with ⟨_, e1⟩ | ⟨h2, e1⟩
      · have := hk p (List.mem_of_getElem? e1)
        rw [clr_nul (h0 j (by omega))]
        exact R.ahead i a0 p j e0 e1 hj
      · omega
    · rcases lookh i p hp with ⟨h2, e1⟩ | ⟨_, e1⟩
      · omega
      · rw [e1] at hj
        exact h0 j hj
/-- clearing changes nothing in what is spanned -/
theorem clr_span {L M : List (Row F)} {k : Nat} {b a : Row F} (hb : InS M b) (ha : InS M a) : InS M (clr k b a) := by
  have s := InS.spc M
  exact s.add a (fun j => -(a k) * b j) ha (s.mul (-(a k)) b hb)
theorem clr_back {M : List (Row F)} {k : Nat} {b a : Row F} (hb : InS M b) (hc : InS M (clr k b a)) : InS M a := by
  have s := InS.spc M
  have e : a = fun j => clr k b a j + (a k) * b j := by
    funext j
    unfold clr
    grind
  rw [e]
  exact s.add _ _ hc (s.mul (a k) b hb)
/-- rows that are nought everywhere span nothing -/
theorem ins_nought {L M : List (Row F)} {v : Row F} (h : InS (L ++ M) v) (hz : ∀ r ∈ M, r = fun _ => 0) : InS L v :=
  h.trans fun r hr => (List.mem_append.mp hr).elim InS.mem fun hm => by rw [hz r hm]; exact (InS.spc L).zero
end Fr

namespace Fm
open Lean.Grind
/-- numbers of the ground g as elements of a field: e of a number, i of a whole number -/
structure GV (g : Int) (F : Type) [CommRing F] where
  i : Int → F
  e : Int × Int → F
  iadd : ∀ a b, i (a + b) = i a + i b
  imul : ∀ a b, i (a * b) = i a * i b
  i0 : i 0 = 0
  i1 : i 1 = 1
  ker : ∀ z, i z = 0 → (g = 0 → z = 0) ∧ (g ≠ 0 → z.fmod g = 0)
  inv : ∀ x : F, x ≠ 0 → ∃ y, x * y = 1
  ei : ∀ a : Int × Int, a.2 ≠ 0 → (g ≠ 0 → a.2.fmod g ≠ 0) → e a * i a.2 = i a.1
  ne : (1 : F) ≠ 0
  gz : g ≠ 0 → i g = 0
section
variable {g : Int} {F : Type} [CommRing F] (V : GV g F)
include V in
theorem GV.dom {x y : F} (h : x * y = 0) (hx : x ≠ 0) : y = 0 := by
  obtain ⟨z, hz⟩ := V.inv x hx
  have : y = (x * z) * y := by rw [hz]; grind
  grind
include V in
theorem GV.cancel {x y z : F} (h : x * z = y * z) (hz : z ≠ 0) : x = y := by
  obtain ⟨w, hw⟩ := V.inv z hz
  have e1 : x = x * z * w := by grind
  have e2 : y = y * z * w := by grind
  rw [e1, e2, h]
theorem GV.ineg (a : Int) : V.i (-a) = -V.i a := by
  have h := V.iadd a (-a)
  rw [Int.add_right_neg, V.i0] at h
  grind
theorem GV.isub (a b : Int) : V.i (a - b) = V.i a - V.i b := by
  rw [Int.sub_eq_add_neg, V.iadd, V.ineg]
  grind
theorem GV.ine {d : Int} (h : d ≠ 0) (h2 : g ≠ 0 → d.fmod g ≠ 0) : V.i d ≠ 0 := fun z => by
  by_cases hg : g = 0
  · exact h ((V.ker d z).1 hg)
  · exact h2 hg ((V.ker d z).2 hg)
theorem TN.inv {k : Nat} {a : Int × Int} (hg : g = 0 ∨ Gr5 g) (h : TN g k a) : a.2 ≠ 0 ∧ (g ≠ 0 → a.2.fmod g ≠ 0) := by
  refine ⟨by have := h.pos; omega, fun z => ?_⟩
  rw [h.one (h.gpos z)]
  exact one_fmod (hg.resolve_left z)
theorem GV.tn {k : Nat} {a : Int × Int} (hg : g = 0 ∨ Gr5 g) (h : TN g k a) : V.e a * V.i a.2 = V.i a.1 ∧ V.i a.2 ≠ 0 := ⟨V.ei a (h.inv hg).1 (h.inv hg).2, V.ine (h.inv hg).1 (h.inv hg).2⟩
/-- numbers are told by their elements -/
theorem GV.inj {k l : Nat} {a b : Int × Int} (hg : g = 0 ∨ Gr5 g) (ha : TN g k a) (hb : TN g l b) (h : V.e a = V.e b) : a = b := by
  obtain ⟨e1, n1⟩ := V.tn hg ha
  obtain ⟨e2, n2⟩ := V.tn hg hb
  have e3 : V.i (a.1 * b.2 - b.1 * a.2) = 0 := by
    rw [V.isub, V.imul, V.imul, ← e1, ← e2, h]
    grind
  rcases hg with rfl | h5
  · have := (V.ker _ e3).1 rfl
    exact red_uniq ha.red hb.red (by omega)
  · have g0 : 0 < g := by unfold Gr5 at h5; omega
    have h1 := ha.one g0
    have h2 := hb.one g0
    have e4 := (V.ker _ e3).2 (by omega)
    rw [h1, h2, Int.mul_one, Int.mul_one, fmod_pos _ g0] at e4
    rcases ha.1 with ⟨z, _⟩ | ⟨_, a0, a1, _⟩
    · omega
    rcases hb.1 with ⟨z, _⟩ | ⟨_, b0, b1, _⟩
    · omega
    have e5 : a.1 % g = b.1 % g := Int.emod_eq_emod_iff_emod_sub_eq_zero.mpr e4
    rw [Int.emod_eq_of_lt a0 a1, Int.emod_eq_of_lt b0 b1] at e5
    exact Prod.ext e5 (by rw [h1, h2])
/-- what lowest terms come to -/
theorem GV.low {u d : Int} (hg : g = 0 ∨ Gr5 g) (hd : d ≠ 0) (h2 : g ≠ 0 → d.fmod g ≠ 0) : V.e (lowF g u d) * V.i d = V.i u := by
  obtain ⟨K, h4, hu, hdd⟩ : ∃ K, 4 ≤ K ∧ u.natAbs < 2 ^ K ∧ d.natAbs < 2 ^ K := by
    refine ⟨u.natAbs + d.natAbs + 4, by omega, ?_, ?_⟩
    · exact Nat.lt_of_lt_of_le Nat.lt_two_pow_self (Nat.pow_le_pow_right (by decide) (by omega))
    · exact Nat.lt_of_lt_of_le Nat.lt_two_pow_self (Nat.pow_le_pow_right (by decide) (by omega))
  have t := tn_low (u := u) hg hd h2 h4 hu hdd
  obtain ⟨e1, n1⟩ := V.tn hg t
  refine V.cancel ?_ n1
  have e3 : V.i ((lowF g u d).1 * d) = V.i (u * (lowF g u d).2) := by
    rcases hg with rfl | h5
    · rw [(low0_red hd).2]
    · have g0 : 0 < g := by unfold Gr5 at h5; omega
      obtain ⟨f, f1, f2, f3⟩ := inv_of h5 (h2 (by omega))
      rw [low_inv g0 f3]
      show V.i ((u * f).fmod g * d) = V.i (u * 1)
      have e4 : V.i ((u * f).fmod g * d - u * 1) = 0 := by
        have e5 : ((u * f).fmod g * d - u * 1) = g * (u * (f * d).fdiv g - (u * f).fdiv g * d) := by
          have m1 := Int.mul_fdiv_add_fmod (u * f) g
          have m2 := Int.mul_fdiv_add_fmod (f * d) g
          rw [f3] at m2
          have x1 : (u * f).fmod g = u * f - g * (u * f).fdiv g := by omega
          have x2 : (1 : Int) = f * d - g * (f * d).fdiv g := by omega
          rw [x1]
          have x3 : u * 1 = u * (f * d - g * (f * d).fdiv g) := by rw [← x2]
          rw [x3]
          grind
        rw [e5, V.imul]
        have ig : V.i g = 0 := by
          exact V.gz (by omega)
        rw [ig]
        grind
      rw [V.isub] at e4
      grind
  rw [V.imul, V.imul] at e3
  grind
theorem GV.plus {k l : Nat} {a c : Int × Int} (hg : g = 0 ∨ Gr5 g) (ha : TN g k a) (hc : TN g l c) : V.e (plusF g a c) = V.e a + V.e c := by
  obtain ⟨e1, n1⟩ := V.tn hg ha
  obtain ⟨e2, n2⟩ := V.tn hg hc
  have hd : a.2 * c.2 ≠ 0 := Int.mul_ne_zero (ha.inv hg).1 (hc.inv hg).1
  have hd2 : g ≠ 0 → (a.2 * c.2).fmod g ≠ 0 := fun z => by
    have g0 := ha.gpos z
    rw [ha.one g0, hc.one g0]
    exact one_fmod (hg.resolve_left z)
  have e3 := V.low (u := a.1 * c.2 + c.1 * a.2) hg hd hd2
  have n3 := V.ine hd hd2
  refine V.cancel (z := V.i (a.2 * c.2)) ?_ n3
  show V.e (lowF g (a.1 * c.2 + c.1 * a.2) (a.2 * c.2)) * V.i (a.2 * c.2) = _
  rw [e3, V.iadd, V.imul, V.imul, V.imul, ← e1, ← e2]
  grind
theorem GV.times {k l : Nat} {a c : Int × Int} (hg : g = 0 ∨ Gr5 g) (ha : TN g k a) (hc : TN g l c) : V.e (timesF g a c) = V.e a * V.e c := by
  obtain ⟨e1, n1⟩ := V.tn hg ha
  obtain ⟨e2, n2⟩ := V.tn hg hc
  have hd : a.2 * c.2 ≠ 0 := Int.mul_ne_zero (ha.inv hg).1 (hc.inv hg).1
  have hd2 : g ≠ 0 → (a.2 * c.2).fmod g ≠ 0 := fun z => by
    have g0 := ha.gpos z
    rw [ha.one g0, hc.one g0]
    exact one_fmod (hg.resolve_left z)
  have e3 := V.low (u := a.1 * c.1) hg hd hd2
  have n3 := V.ine hd hd2
  refine V.cancel (z := V.i (a.2 * c.2)) ?_ n3
  show V.e (lowF g (a.1 * c.1) (a.2 * c.2)) * V.i (a.2 * c.2) = _
  rw [e3, V.imul, V.imul, ← e1, ← e2]
  grind
theorem GV.minus {k : Nat} {a : Int × Int} (hg : g = 0 ∨ Gr5 g) (ha : TN g k a) : V.e (minusF g a) = -V.e a := by
  obtain ⟨e1, n1⟩ := V.tn hg ha
  have e3 := V.low (u := 0 - a.1) hg (ha.inv hg).1 (ha.inv hg).2
  refine V.cancel (z := V.i a.2) ?_ n1
  show V.e (lowF g (0 - a.1) a.2) * V.i a.2 = _
  rw [e3, V.isub, V.i0, ← e1]
  grind
def overF (g : Int) (x y : Int × Int) : Int × Int := lowF g (x.1 * y.2) (x.2 * y.1)
theorem TN.top {k : Nat} {a : Int × Int} (h : TN g k a) (hz : a.1 ≠ 0) : g ≠ 0 → a.1.fmod g ≠ 0 := fun z => by
  have g0 := h.gpos z
  rcases h.1 with ⟨e, _⟩ | ⟨_, a0, a1, _⟩
  · exact absurd e z
  · rw [fmod_pos _ g0, Int.emod_eq_of_lt a0 a1]
    exact hz
theorem GV.over {k l : Nat} {a c : Int × Int} (hg : g = 0 ∨ Gr5 g) (ha : TN g k a) (hc : TN g l c) (hz : c.1 ≠ 0) : V.e (overF g a c) * V.e c = V.e a := by
  obtain ⟨e1, n1⟩ := V.tn hg ha
  obtain ⟨e2, n2⟩ := V.tn hg hc
  have hd : a.2 * c.1 ≠ 0 := Int.mul_ne_zero (ha.inv hg).1 hz
  have hd2 : g ≠ 0 → (a.2 * c.1).fmod g ≠ 0 := fun z => by
    have g0 := ha.gpos z
    rw [ha.one g0, Int.one_mul]
    exact hc.top hz z
  have e3 := V.low (u := a.1 * c.2) hg hd hd2
  have n3 := V.ine hz (hc.top hz)
  refine V.cancel (z := V.i a.2 * V.i c.2) ?_ (fun z => n2 (V.dom z n1))
  have e4 : V.e (overF g a c) * V.i (a.2 * c.1) = V.i (a.1 * c.2) := e3
  rw [V.imul, V.imul] at e4
  grind
theorem GV.zero : V.e (0, 1) = 0 := by
  have h := V.ei (0, 1) (by decide) (fun z => ?_)
  · rw [V.i0, V.i1] at h
    grind
  · show (1 : Int).fmod g ≠ 0
    intro w
    have := V.ker 1
    rw [V.i1] at this
    have h5 : ∃ x : Int, 1 = g * x := ⟨(1 : Int).fdiv g, by have := Int.mul_fdiv_add_fmod 1 g; omega⟩
    obtain ⟨x, hx⟩ := h5
    have h6 := V.imul g x
    rw [← hx, V.i1, V.gz z] at h6
    exact V.ne (by grind)
theorem GV.one : V.e (1, 1) = 1 := by
  have h := V.ei (1, 1) (by decide) (fun z => ?_)
  · rw [V.i1] at h
    grind
  · show (1 : Int).fmod g ≠ 0
    intro w
    have h5 : ∃ x : Int, 1 = g * x := ⟨(1 : Int).fdiv g, by have := Int.mul_fdiv_add_fmod 1 g; omega⟩
    obtain ⟨x, hx⟩ := h5
    have h6 := V.imul g x
    rw [← hx, V.i1, V.gz z] at h6
    exact V.ne (by grind)
end
/-- the fractions -/
def gvQ : GV 0 Rat where
  i := fun z => (z : Rat)
  e := qv
  iadd := fun a b => by exact_mod_cast rfl
  imul := fun a b => by exact_mod_cast rfl
  i0 := by exact_mod_cast rfl
  i1 := by exact_mod_cast rfl
  ker := fun z h => ⟨fun _ => by exact_mod_cast h, fun w => absurd rfl w⟩
  inv := fun x hx => ⟨x⁻¹, by grind⟩
  ei := fun a h _ => by
    have := rat_ne h
    unfold qv
    grind
  ne := by decide
  gz := fun w => absurd rfl w
/-- a wheel -/
def fi (n : Nat) [NeZero n] (z : Int) : Fin n := @IntCast.intCast (Fin n) Ring.intCast z
theorem fi_zero (n : Nat) [NeZero n] (z : Int) : fi n z = 0 ↔ z % (n : Int) = 0 := IsCharP.intCast_eq_zero_iff (α := Fin n) n z
theorem fi_sub (n : Nat) [NeZero n] (a b : Int) : fi n (a - b) = fi n a - fi n b := Ring.intCast_sub a b
theorem fi_mul (n : Nat) [NeZero n] (a b : Int) : fi n (a * b) = fi n a * fi n b := Ring.intCast_mul a b
def gvW (n : Nat) [NeZero n] (h1 : 1 < n) (hinv : ∀ x : Fin n, x ≠ 0 → ∃ y, x * y = 1) (h5 : Gr5 (n : Int)) : GV (n : Int) (Fin n) where
  i := fi n
  e := fun a => fi n (lowF (n : Int) a.1 a.2).1
  iadd := fun a b => Ring.intCast_add a b
  imul := fi_mul n
  i0 := Ring.intCast_zero
  i1 := Ring.intCast_one
  ker := fun z h => ⟨fun w => absurd w (by omega), fun _ => by
    have := (fi_zero n z).mp h
    rw [fmod_pos _ (by omega)]
    exact this⟩
  inv := hinv
  ei := fun a h h2 => by
    have g0 : (0 : Int) < (n : Int) := by omega
    obtain ⟨f, f1, f2, f3⟩ := inv_of h5 (h2 (by omega))
    rw [low_inv g0 f3]
    show fi n ((a.1 * f).fmod (n : Int)) * fi n a.2 = fi n a.1
    have e4 : fi n ((a.1 * f).fmod (n : Int) * a.2 - a.1) = 0 := by
      refine (fi_zero n _).mpr ?_
      have e5 : ((a.1 * f).fmod (n : Int) * a.2 - a.1) = (n : Int) * (a.1 * (f * a.2).fdiv n - (a.1 * f).fdiv n * a.2) := by
        have m1 := Int.mul_fdiv_add_fmod (a.1 * f) n
        have m2 := Int.mul_fdiv_add_fmod (f * a.2) n
        rw [f3] at m2
        have x1 : (a.1 * f).fmod (n : Int) = a.1 * f - n * (a.1 * f).fdiv n := by omega
        have x2 : (1 : Int) = f * a.2 - n * (f * a.2).fdiv n := by omega
        rw [x1]
        have x3 : a.1 = a.1 * (f * a.2 - n * (f * a.2).fdiv n) := by rw [← x2, Int.mul_one]
        grind
      rw [e5]
      exact Int.mul_emod_right _ _
    rw [fi_sub, fi_mul] at e4
    grind
  ne := fun z => by
    have := (fi_zero n 1).mp (by rw [← z]; exact Ring.intCast_one)
    rw [Int.emod_eq_of_lt (by omega) (by omega)] at this
    omega
  gz := fun _ => (fi_zero n n).mpr (Int.emod_self)
theorem gvW_5 {g : Int} (h : Gr5 g) : ∃ n : Nat, ∃ _ : NeZero n, ∃ V : GV g (Fin n), True := by
  unfold Gr5 at h
  rcases h with rfl | rfl | rfl | rfl | rfl
  · exact ⟨3, inferInstance, gvW 3 (by decide) (by decide) (by unfold Gr5; omega), trivial⟩
  · exact ⟨5, inferInstance, gvW 5 (by decide) (by decide) (by unfold Gr5; omega), trivial⟩
  · exact ⟨7, inferInstance, gvW 7 (by decide) (by decide) (by unfold Gr5; omega), trivial⟩
  · exact ⟨11, inferInstance, gvW 11 (by decide) (by decide) (by unfold Gr5; omega), trivial⟩
  · exact ⟨13, inferInstance, gvW 13 (by decide) (by decide) (by unfold Gr5; omega), trivial⟩
/-- every ground has its field -/
theorem gv_any {g : Int} (h : g = 0 ∨ Gr5 g) : ∃ F : Type, ∃ _ : CommRing F, Nonempty (GV g F) := by
  rcases h with rfl | h
  · exact ⟨Rat, inferInstance, ⟨gvQ⟩⟩
  · obtain ⟨n, hn, V, _⟩ := gvW_5 h
    exact ⟨Fin n, inferInstance, ⟨V⟩⟩
end Fm

namespace PySem
namespace Fm6
open PySem.W
/-- what a built-in exception class tells of its own __init__ when it stands behind super() -/
structure SupB (B ini : String) (tl : List Value) : Prop where
  typ : typeOf (.builtin ini) = pure (.type "wrapper_descriptor")
  nam : (kfb_private% "nameAndClass") (Value.builtin ini) = (pure (("__init__" : Str), Value.type B) : Sem (Str × Value))
  along : ∀ K : W.Frag, W.alongIn K "__init__" tl = some (some (.builtin ini))
  quiet : ini.startsWith "lifetime." = false
theorem supZ : SupB "ZeroDivisionError" "ZeroDivisionError.__init__" [.type "ZeroDivisionError", .type "ArithmeticError", .type "Exception", .type "BaseException", .type "object"] where
  typ := by show builtinType _ = _; rw [builtinType_eq_fast]; kernel_rfl
  nam := by kernel_rfl
  along := fun K => by kernel_rfl
  quiet := by decide +kernel
theorem supA : SupB "ArithmeticError" "ArithmeticError.__init__" [.type "ArithmeticError", .type "Exception", .type "BaseException", .type "object"] where
  typ := by show builtinType _ = _; rw [builtinType_eq_fast]; kernel_rfl
  nam := by kernel_rfl
  along := fun K => by kernel_rfl
  quiet := by decide +kernel
theorem supL : SupB "LookupError" "LookupError.__init__" [.type "LookupError", .type "Exception", .type "BaseException", .type "object"] where
  typ := by show builtinType _ = _; rw [builtinType_eq_fast]; kernel_rfl
  nam := by kernel_rfl
  along := fun K => by kernel_rfl
  quiet := by decide +kernel
theorem supV : SupB "ValueError" "ValueError.__init__" [.type "ValueError", .type "Exception", .type "BaseException", .type "object"] where
  typ := by show builtinType _ = _; rw [builtinType_eq_fast]; kernel_rfl
  nam := by kernel_rfl
  along := fun K => by kernel_rfl
  quiet := by decide +kernel
/-- __init__ of a built-in class, bound to x -/
abbrev bnd (ini : String) (x : Addr) : Obj := { cls := .type "method-wrapper", dict := none, data := .fields #[.builtin ini, .ref x], slots := #[] }
section
variable {prog : Program} {w : World} {M : Model} {A : Around} {E : Value → Shared → Prop} {h : Heap} {g : Array GenState} {d : Drawn} {t : Nat} {os : OsState} {B ini : String} {tl : List Value}
theorem get_bnd (S : SupB B ini tl) {x C : Addr} {P : PySem.Fin → Shared → Prop} (hin : W.Looks M h (isInstance (.ref x) (.type B)) true) (hq : P (.done (.ret (.ref h.objs.size))) ⟨h.push (bnd ini x), g, d, t, os⟩) :
    wpAny M A (Builtin.«wrapper_descriptor.__get__» ⟨[.builtin ini, .ref x, .ref C], []⟩) P E ⟨h, g, d, t, os⟩ := by
  unfold Builtin.«wrapper_descriptor.__get__»
  refine wpAny_bind (wpAny_of_eq (a := (.builtin ini, some (.ref x), some (.ref C))) (by first | rfl | kernel_rfl) ?_)
  show wpAny M A ((kfb_private% "checkInstance") (.builtin ini) (.ref x) >>= fun _ => newFields "method-wrapper" [.builtin ini, .ref x] >>= fun r => ret r) P E _
  refine wpAny_bind ?_
  show wpAny M A ((kfb_private% "nameAndClass") (.builtin ini) >>= _) _ E _
  refine wpAny_bind (wpAny_of_eq S.nam ?_)
  show wpAny M A (isInstance (.ref x) (.type B) >>= _) _ E _
  refine wpAny_bind (hin.at ?_)
  refine KFB.if_not rfl ?_
  exact wpAny_pure (wpAny_bind (wpAny_newObj_type (wpAny_pure hq)))
theorem sup_ga (S : SupB B ini tl) {so D x C : Addr} {l₀ : List Value} {K : Frag} {tk : Tok} {Q : PySem.Fin → Shared → Prop}
    (hso : h.get? so = some { cls := .type "super", dict := none, data := .fields #[.ref D, .ref x, .ref C], slots := #[] }) (hno : W.Looks (model prog w) h (opaqueClassAbove (.ref C)) none)
    (hC : W.Looks (model prog w) h (mroOf (.ref C)) l₀) (hl : (l₀.dropWhile (· != .ref D)).drop 1 = tl) (X : K.In h) (hxC : x ≠ C) (hin : W.Looks (model prog w) h (isInstance (.ref x) (.type B)) true)
    (hq : Q (.done (.ret (.ref h.objs.size))) ⟨h.push (bnd ini x), g, d, t, os⟩) :
    wpAny (model prog w) A (Builtin.«super.__getattribute__» ⟨[.ref so, .str "__init__" tk], []⟩) Q E ⟨h, g, d, t, os⟩ := by
  have b1 := ESX.slot_wd.lookup
  have b2 : (Value.ref x == Value.ref C) = false := by simp [hxC]
  have b3 := S.typ
  have b4 : Shared.TypeIs ⟨h, g, d, t, os⟩ (.builtin ini) "wrapper_descriptor" := S.typ
  have b5 := S.along K
  have b6 : (("__init__" : Str) == ("__class__" : Str)) = false := by decide +kernel
  have b7 : ({ cls := .type "super", dict := none, data := .fields #[.ref D, .ref x, .ref C], slots := #[] } : Obj).data = .fields #[.ref D, .ref x, .ref C] := rfl
  have c0 : (#[.ref D, .ref x, .ref C] : Array Value)[0]? = some (.ref D) := rfl
  have c1 : (#[.ref D, .ref x, .ref C] : Array Value)[1]? = some (.ref x) := rfl
  have c2 : (#[.ref D, .ref x, .ref C] : Array Value)[2]? = some (.ref C) := rfl
  unfold Builtin.«super.__getattribute__»
  repeat (first
    | (with_reducible refine wpAny_field hso b7 c0 ?_)
    | (with_reducible refine wpAny_field hso b7 c1 ?_)
    | (with_reducible refine wpAny_field hso b7 c2 ?_)
    | (with_reducible refine ks_wpAny_notOpaque hno ?_)
    | (with_reducible refine Looks.at hC ?_; rw [hl])
    | (refine ks_forIn_along X (fun _ _ => rfl) rfl ?_ b5)
    | (with_reducible refine wpAny_call_entry ESX.slot_wd b4 ESX.entry_wd ?_ (ESX.args_wd _ _ _))
    | (with_reducible refine get_bnd S hin ?_)
    | (with_reducible refine ⟨_, rfl, ?_⟩)
    | (simp only [b6, b2, Bool.or_false, Bool.false_eq_true, if_false])
    | wp_step
    | dsimp only)
  all_goals exact hq
theorem sup_method (S : SupB B ini tl) {so D x C : Addr} {l₀ : List Value} {K : Frag} {pl : Sem Bool} {Q : Value × List Value → Shared → Prop}
    (hso : h.get? so = some { cls := .type "super", dict := none, data := .fields #[.ref D, .ref x, .ref C], slots := #[] }) (hno : W.Looks (model prog w) h (opaqueClassAbove (.ref C)) none)
    (hC : W.Looks (model prog w) h (mroOf (.ref C)) l₀) (hl : (l₀.dropWhile (· != .ref D)).drop 1 = tl) (X : K.In h) (hxC : x ≠ C) (hin : W.Looks (model prog w) h (isInstance (.ref x) (.type B)) true)
    (hq : Q (.ref h.objs.size, []) ⟨h.push (bnd ini x), g, d, t + 1, os⟩) :
    wpAny (model prog w) A (getMethod (.ref so) "__init__" pl) Q E ⟨h, g, d, t, os⟩ := by
  have b1 := F.ks_slot_super_ga.lookup
  have b2 : ∀ t', (⟨h, g, d, t', os⟩ : Shared).TypeIs (.ref so) "super" := fun _ => ⟨_, hso, rfl⟩
  unfold getMethod
  refine wpAny_bind (wpAny_specialOf (b2 _) b1 ?_)
  show wpAny _ _ (if (Manifest.canonical "super.__getattribute__" != "object.__getattribute__") = true then _ else _) _ _ _
  rw [if_pos F.ks_canon_super_ga]
  unfold getAttr getAttrBy
  refine wpAny_bind (wpAny_bind (wpAny_mkText (wpAny_holding (wpAny_bind (wpAny_typeOf (b2 _) (wpAny_bind (wpAny_of_eq b1 ?_)))))))
  show wpAny _ _ (getAttrByItsOwn (.ref so) (.str "__init__" t) (.type "super") (.builtin "super.__getattribute__") true false) _ _ _
  unfold getAttrByItsOwn hookBefore callGetattribute boundAndCalled
  refine wpAny_bind (wpAny_of_eq (show (if onTheHeap (.type "super") then typeLookup (.type "super") "__getattr__" else pure none) = pure none from rfl) ?_)
  refine wpAny_bind (wpAny_attempt (wpAny_holding ?_))
  show wpAny _ _ (bindSpecial (.builtin "super.__getattribute__") (.ref so) >>= _) _ _ _
  refine wpAny_bind (wpAny_of_eq (F.ks_slot_super_ga.bind _) ?_)
  refine wpAny_mono (Q := fun v s' => v = .ref h.objs.size ∧ s' = ⟨h.push (bnd ini x), g, d, t + 1, os⟩) (E := fun _ _ => False)
    (wpAny_call_entry F.ks_slot_super_ga (b2 _) F.ks_entry_super_ga (sup_ga S hso hno hC hl X hxC hin ⟨_, rfl, rfl, rfl⟩) (F.ks_gaArgs_super _ _)) (fun v s' hv => ?_) fun _ _ z => z.elim
  obtain ⟨rfl, rfl⟩ := hv
  exact wpAny_pure (wpAny_pure hq)
end
section
open PySem.Calls PyProof.Rows
variable {prog : Program} {w : World} {M : Model} {A : Around} {E : Value → Shared → Prop} {s : Shared} {ini : String}
/-- the call of what is bound: its arguments first -/
theorem with_bnd {pos : Pos} {u x : Addr} {first : List Value} {args : List (Bool × Sem Value)} {Q : Value → Shared → Prop} (hp : args.any (·.1) = false)
    (h : wpAny M A (evalArgs (.ref u) true args []) (fun a s₁ => s₁.heap.get? u = some (bnd ini x) ∧ wpAny M A (call (.ref u) (first ++ a.pos) a.kw) Q E s₁) E s) : wpAny M A (callWith pos (.ref u) first args []) Q E s := by
  unfold callWith
  refine wpAny_bind (wpAny_holding (wpAny_mono h (fun a s₁ b1 => wpAny_bind (wpAny_standAt ?_)) fun _ _ z => z))
  obtain ⟨b2, b3⟩ := b1
  simp only [hp, List.any_nil, Bool.or_false]
  refine wpAny_bind (m := keeperOf (.ref u)) ?_
  unfold keeperOf
  refine wpAny_bind (wpAny_load b2 ?_)
  simp only [bnd, show (Value.type "method-wrapper" != Value.type "method") = true by decide, show (Value.type "method-wrapper" == Value.type "builtin_function_or_method" || Value.type "method-wrapper" == Value.type "method-wrapper") = true by decide, if_true]
  exact wpAny_pure (wpAny_bind (wpAny_mono b3 (fun r s₂ hr => wpAny_bind (wpAny_holding (wpAny_point (wpAny_pure hr)))) fun _ _ z => z))
end
section
variable {prog : Program} {w : World} {A : Around} {E : Value → Shared → Prop} {h : Heap} {g : Array GenState} {d : Drawn} {t : Nat} {os : OsState} {B ini newId : String} {bmB : List Value}
variable {nm q : Str} {C N : Addr} {bs bm : List Value} {hdct : Bool} {sn : List Str} {sub : List Value} {ab : Bool} {col : Option Bool} {dd : Option Addr} {k0 k1 k2 k3 k5 : Option Value}
theorem call_bnd (S : SupB B ini bmB) (G : ExcBaseFacts B newId ini bmB) {u e t0 : Addr} {rest : List Value} {Q : Value → Shared → Prop}
    (hC : h.get? C = some (excClassObj nm q C N bs bm hdct sn sub ab col dd k0 k1 k2 k3 k5 newId)) (he : h.get? e = some (HandSPX.excO C t0)) (hu : h.get? u = some (bnd ini e)) (hr : rest.length ≤ sizeLine)
    (hq : ∀ h' t1, (∀ b o, b ≠ e → h.get? b = some o → h'.get? b = some o) → h'.get? e = some (HandSPX.excO C t1) → Q .none ⟨h', g, d, t, os⟩) :
    wpAny (model prog w) A (call (.ref u) rest) Q E ⟨h, g, d, t, os⟩ := by
  refine wpAny_call (codeAny_of_tree ?_)
  show wpAny _ A.in1 (callAny (.ref u) ⟨rest, []⟩) _ _ _
  simp only [callAny]
  refine wpAny_bind (wpAny_load hu ?_)
  simp only [bnd, show (Value.type "method-wrapper" == Value.type "method" || Value.type "method-wrapper" == Value.type "builtin_function_or_method" || Value.type "method-wrapper" == Value.type "method-wrapper") = true by decide, if_true]
  refine W.KFB.if_so (by decide) ?_
  refine wpAny_bind (ESX.check_bound G hC he rfl ?_)
  refine wpAny_bind (wpAny_pure (wpAny_pure ?_))
  refine ⟨Code.quiet_builtin _ S.quiet, codeAny_builtin G.initEntry ?_⟩
  rw [Around.under_plainId G.init.plain _]
  wp_walk
  refine hq _ h.objs.size (fun b o hb ho => ?_) ?_
  · exact (Heap.get?_update_other _ _ (Ne.symm hb)).trans (Heap.get?_push_of_some _ ho)
  · exact (Heap.get?_update_self _ (Heap.get?_push_of_some _ he) rfl).trans rfl
end
end Fm6
end PySem

namespace L2
open PySem PySem.Spec PyProof.Rows
/-- what the written part says of a class of the program right over the built-in class B -/
structure OexB (K : PySem.W.Frag) (C : Addr) (newId : String) (tl : List Value) : Prop where
  cls : ∃ nm q N bs sn sub ab col dd k0 k1 k2 k3 k5, K.lookup C = some (excClassObj nm q C N bs tl true sn sub ab col dd k0 k1 k2 k3 k5 newId)
  sa : PySem.W.findIn K (.ref C) "__setattr__" = some (some (.builtin "object.__setattr__"))
  exC : PySem.W.subIn K (.ref C) (.type "BaseException") = some true
  tyC : PySem.W.typeIn K (.ref C) = some (.type "type")
  kC : PySem.W.keepIn K (.ref C) = true
section
variable {X : Cx} {e : Expr} {es : List Expr} {ta : TA} {p pos : Pos} {B newId ini : String} {tl : List Value}
/-- C(..), C right over B, with an __init__ of its own -/
theorem pmk_oxb {CX : CXT} {x : Str} {C fI : Addr} {k : Nat} {fd : FuncData} {ps : List Str} {sp : Sp} {ds : List Value} {dvs : List V} (G : ExcBaseFacts B newId ini tl) (T : OexB X.K C newId tl) (iC : PySem.W.findIn X.K (.ref C) "__init__" = some (some (.ref fI)))
    (tI : PySem.W.typeIn X.K (.ref fI) = some (.type "function")) (F1 : FnOk X.prog X.w X.K X.mg X.base CX k fI fd ps sp) (hr : Room (k + 1) X.A) (hb : Binds X.K fd ps ds) (hd : Vals dvs ds) (hx : Passes CX X (fun _ _ _ => False)) (hg : Gl X x) (hm : X.mg x = some (.ref C))
    (ha : PA X (e :: es) ta) (hdb : (x == ("__debug__" : Str)) = false := by decide) (he : starEach (e :: es) X.env = (false, eval e X.env) :: starEach es X.env := by rfl) (hpl : (backTo pos (starEach es X.env)).any (·.1) = false := by rfl) :
    PMk X (.Call (.Name x p) (e :: es) [] pos) (tMkO C sp dvs ta) := by
  intro pins s σ H Q I h
  obtain ⟨nm, q, N, bs, sn, sub, ab, col, dd, k0, k1, k2, k3, k5, hC⟩ := T.cls
  refine wpAny_Call_Name_kw (ld_glob I hg hm ?_ hdb)
  refine PySem.W.callWith_K (h₀ := X.base) I.ok.mod.kin T.kC (thn (ha.run pos pins s σ H _ I h) fun us s1 b1 => ?_) he hpl
  obtain ⟨vs, H1, I1, r1, hz, q1⟩ := b1
  refine ⟨I1.kIn, ?_⟩
  show wpAny _ _ (call (.ref C) us) _ _ _
  obtain ⟨hp, g, dr, tk, os⟩ := s1
  have b2 : H1 (hp.objs.size + 1) = none := I1.hok.fresh (Nat.le_succ _)
  have b3 := q1 (hp.objs.size + 1) b2
  have b4 : ∀ b o, hp.get? b = some o → ((hp.push (PySem.W.kdv_tup us)).push (PySem.HandSPX.excO C hp.objs.size)).get? b = some o := fun b o z => Heap.get?_push_of_some _ (Heap.get?_push_of_some _ z)
  have b5 : ((hp.push (PySem.W.kdv_tup us)).push (PySem.HandSPX.excO C hp.objs.size)).get? (hp.objs.size + 1) = some (PySem.HandSPX.excO C hp.objs.size) := by heap_get
  have I2 := I1.laid (t' := tk) (a := hp.objs.size + 1) (o := exo (hp.objs.size + 1) C none) b4 (Nat.le_succ _) (exo_ok b5)
  have b6 : Vals (V.ref (hp.objs.size + 1) :: (vs ++ dvs)) (Value.ref (hp.objs.size + 1) :: (us ++ ds)) := .cons rfl (r1.append hd)
  have b7 : (Value.ref (hp.objs.size + 1) :: us ++ ds).length = ps.length := ((F1.len _ _ _ _ b3).symm.trans b6.length).symm
  have b8 : us.length ≤ sizeLine := by
    have := Paired.length r1
    rw [sizeLine_eq]
    omega
  refine wpAny_call (PySem.HandSPX.call_own G (fun Y => rfl) (I1.kIn _ _ hC) (PySem.W.looks_findIn I1.kIn iC) (fun self => PySem.W.bind_fn I1.kIn self tI) b8 ?_)
  refine codeAny_mono (F1.run _ X.stack _ _ ⟨Value.ref (hp.objs.size + 1) :: us, []⟩ (Value.ref (hp.objs.size + 1) :: (us ++ ds)) _ _ (fun _ _ _ => False) (hr.make C us []) (I2.env0.make C us []) (hb _ (Value.ref (hp.objs.size + 1) :: us) I2.kIn b7) b6 b3) fun r s' b9 => ?_
  cases r with
  | error er => exact hx pins σ _ _ er s' I2 b9
  | ok fl =>
    cases fl with
    | ret u =>
      obtain ⟨v, H2, os2, bare2, un2, hok2, rv, ev, d, fs, ea, ed, hd1, q2⟩ := b9
      subst ev
      obtain ⟨h2, g2, d2, t2, os'⟩ := s'
      exact ⟨rv, mk_end (raises_own T.exC T.tyC) I1 (Nat.le_succ _) b4 un2 hok2 os2 bare2 ea ed hd1 q2⟩
    | next => exact False.elim b9
    | brk => exact False.elim b9
    | cont => exact False.elim b9
end
end L2

namespace PySem
namespace Fm6
open PySem.W Builtin Builtin.ObjectAttr
section
variable {prog : Program} {w : World} {A : Around} {R : Result → Shared → Prop} {hp : Heap} {g : Array GenState} {d : Drawn} {t : Nat} {os : OsState} {tl : List Value}
/-- the first field of an exception right over a built-in class -/
theorem osaB {K : W.Frag} {name : Str} {tk : Tok} {v : Value} {x C : Addr} {fv : Array Value} {cd : ClassData} (X : K.In hp) (hx : hp.get? x = some { cls := .ref C, data := .fields fv }) (hcd : W.clsIn K C = some cd)
    (hm : cd.mro = .ref C :: tl) (hob : tl.contains (.type "object") = true) (hps : ∀ self, refuseLoop self "__setattr__" tl = pure ()) (hh : cd.hasDict = true) (ha : W.findIn K (.ref C) name = some none)
    (hq : ∀ h' tk' dx, (∀ b o, b ≠ x → hp.get? b = some o → h'.get? b = some o) → hp.objs.size ≤ dx → dx ≠ x → h'.get? x = some { cls := .ref C, dict := some dx, data := .fields fv } →
      h'.Ns1 dx (fun y => if y = name then some v else none) → R (.ok (.ret .none)) ⟨h', g, d, tk', os⟩) :
    codeAny (model prog w) A (.call (.builtin "object.__setattr__") ⟨[.ref x, .str name tk, v], []⟩) R ⟨hp, g, d, t, os⟩ := by
  have J : W.InstAt hp x { cls := .ref C, data := .fields fv } C none := ⟨hx, rfl, rfl, trivial⟩
  have b0 : x ≠ hp.objs.size := Nat.ne_of_lt (Heap.lt_size hx)
  have O := F.store_object
  have b1 : W.mroIn K C (.type "object") = some true := by
    unfold W.mroIn
    rw [hcd, Option.bind_some, hm, if_neg (show ¬ (List.isEmpty (Value.ref C :: tl) = true) from Bool.false_ne_true), List.contains_cons, hob, Bool.or_true]
  have b2 : W.Looks (model prog w) hp (isInstance (.ref x) (.type "object")) true := J.type.andThen (W.looks_mroIn X b1)
  refine codeAny_call_builtin O.slot.plain O.entry (@W.check_slot (model prog w) _ _ ⟨hp, g, d, t, os⟩ "object.__setattr__" "object" "__setattr__" (.ref x) [.str name tk, v] [] _ O.kind O.split b2 (O.args (.ref x) (.str name tk) v) ?_)
  have b3 : W.Looks (model prog w) hp (mroOf (.ref C)) cd.mro := (W.looks_clsIn X hcd).andThen .now
  have b4 : W.Looks (model prog w) hp (storeTaker? none) none := .now
  have b5 : refuseLoop (.ref x) "__setattr__" cd.mro = pure () := by
    rw [hm, refuseLoop_ref]
    exact hps _
  have b6 : W.Looks (model prog w) hp (classData C) cd := W.looks_clsIn X hcd
  rw [W.osa_eq, refuse_eq]
  refine wpAny_bind (wpAny_bind (J.type.at (wpAny_bind (b3.at ?_))))
  rw [b5]
  refine wpAny_pure (wpAny_bind (J.type.at (wpAny_bind ((W.looks_findIn X ha).at (wpAny_bind (b4.at ?_))))))
  show wpAny _ _ (storeInOwnDict (.ref x) (.ref C) (.str name tk) name v false) _ _ _
  obtain ⟨nm, bs, mro, ns, qn, hd, sn, sb, ab, col, del⟩ := cd
  dsimp only at hh
  subst hh
  unfold storeInOwnDict ownDictForStores
  repeat (first | with_reducible refine HandSPX.store_in_new ?_ ?_ | with_reducible refine wpAny_loadPart_at hx ?_ | with_reducible refine b6.at ?_ | wp_step)
  · exact ⟨_, #[], _, (Heap.get?_update_ne _ _ _ _ b0.symm).trans (Heap.get?_push_at rfl rfl), rfl, fun z hz => absurd hz (by simp), fun _ => rfl⟩
  · intro h' tk' b7 b8
    have b9 : (hp.push { cls := .type "dict", data := .dict #[] }).get? x = some { cls := .ref C, data := .fields fv } := Heap.get?_push_of_some _ hx
    refine hq h' tk' hp.objs.size (fun b o c1 c2 => ?_) (Nat.le_refl _) b0.symm ?_ b7
    · exact (b8.2 b (Nat.ne_of_lt (Heap.lt_size c2))).trans ((Heap.get?_update_ne _ _ _ _ c1).trans (Heap.get?_push_of_some _ c2))
    · exact (b8.2 x b0).trans (Heap.get?_update_self _ b9 rfl)
theorem passZ (self : Value) : refuseLoop self "__setattr__" [.type "ZeroDivisionError", .type "ArithmeticError", .type "Exception", .type "BaseException", .type "object"] = pure () := by first | kernel_rfl | rfl
theorem passA (self : Value) : refuseLoop self "__setattr__" [.type "ArithmeticError", .type "Exception", .type "BaseException", .type "object"] = pure () := by first | kernel_rfl | rfl
theorem passL (self : Value) : refuseLoop self "__setattr__" [.type "LookupError", .type "Exception", .type "BaseException", .type "object"] = pure () := by first | kernel_rfl | rfl
end
end Fm6
end PySem

namespace PySem
namespace Fm6
open PySem.W PySem.Calls PyProof.Rows Builtin Builtin.ObjectAttr
/-- the two rows of such an __init__ -/
abbrev iBody (txt sf fld par : Str) (p0 p1 p2 p3 p4 p5 q0 q1 q2 q3 : Pos) (j : Nat) : List Stmt :=
  [.Expr (.Call (.Attribute (.Call (.Name "super" p0) [] [] p1) "__init__" p2) [.Constant (.str txt) j p5] [] p3) p4, .Assign [.Attribute (.Name sf q0) fld q1] (.Name par q2) q3]
section
variable {prog : Program} {w : World} {A : Around} {E : Value → Shared → Prop} {h : Heap} {g : Array GenState} {d : Drawn} {t : Nat} {os : OsState} {B ini newId : String} {tl : List Value} {K : Frag}
variable {nm q : Str} {C N : Addr} {bs : List Value} {sn : List Str} {sub : List Value} {ab : Bool} {col : Option Bool} {dd : Option Addr} {k0 k1 k2 k3 k5 : Option Value}
theorem ibody_run {txt sf fld par file : Str} {p0 p1 p2 p3 p4 p5 q0 q1 q2 q3 : Pos} {j tf : Nat} {bd : List Stmt} {a L f cc cda t0 : Addr} {fd : FuncData} {ar : Arg} {vs : Array Value} {oc : Obj} {cl : Value} {cld : Option Addr} {csl : Array (Option Value)} {fo : Obj} {m mg mb : Str → Option Value} {u : Value} {pl : Sem Bool} {Q : Flow → Shared → Prop}
    (G : ExcBaseFacts B newId ini tl) (S : SupB B ini tl) (hob : tl.contains (.type "object") = true) (hps : ∀ self, refuseLoop self "__setattr__" tl = pure ())
    (X : K.In h) (hC : K.lookup C = some (excClassObj nm q C N bs tl true sn sub ab col dd k0 k1 k2 k3 k5 newId)) (ho : nsIn K cStatics "thirdparty.any" = some none) (sa : findIn K (.ref C) "__setattr__" = some (some (.builtin "object.__setattr__"))) (hno : findIn K (.ref C) fld = some none)
    (hn : h.Ns L m) (h1 : m sf = some (.ref a)) (h2 : m par = some u) (hx : h.get? a = some (HandSPX.excO C t0)) (hKa : K.lookup a = none)
    (hf : K.lookup f = some fo) (hfo : fo.data = .func fd) (hp : (fd.params.posonlyargs ++ fd.params.args).head? = some ar) (har : ar.arg = sf) (hco : fd.code = .ref cda) (hcc : K.lookup cda = some oc) (hoc : oc.data = .fields vs) (hvs : vs[2]? = some (.str file tf))
    (hfile : ((prog.main.file : Str) == file) = true) (htop : (prog.main.scope.names.lookup ("super" : Str)).isSome = false) (hcell : K.lookup cc = some ⟨cl, cld, .cell (some (.ref C)), csl⟩) (hclo : fd.closure = [(("__class__" : Str), cc)])
    (hgl : fd.globals = mainGlobals) (hbl : fd.builtins = builtinsNs) (hg1 : h.Ns mainGlobals mg) (hg2 : mg "super" = none) (hb1 : h.Ns builtinsNs mb) (hb2 : mb "super" = some (.type "super"))
    (hks : fd.scope.names.lookup ("super" : Str) = some .globalImplicit) (hkc : fd.scope.names.lookup ("__class__" : Str) = some .free) (hka : fd.scope.names.lookup sf = some .local) (hkp : fd.scope.names.lookup par = some .local) (hk : fd.scope.kind = .function)
    (hd1 : (sf == ("__debug__" : Str)) = false) (hd2 : (par == ("__debug__" : Str)) = false)
    (hi : interactive (callEnv fd L f) = false) (hs1 : swapsWith (.Call (.Attribute (.Call (.Name "super" p0) [] [] p1) "__init__" p2) [.Constant (.str txt) j p5] [] p3) none p4.line (callEnv fd L f) = pure false)
    (hs2 : swapsWith (.Name par q2) (some (.Attribute (.Name sf q0) fld q1)) q3.line (callEnv fd L f) = pure false)
    (he : eval (.Call (.Attribute (.Call (.Name "super" p0) [] [] p1) "__init__" p2) [.Constant (.str txt) j p5] [] p3) (callEnv fd L f) = (do
      let ov ← attributeBase (.Call (.Name "super" p0) [] [] p1) "__init__" (callEnv fd L f) (eval (.Call (.Name "super" p0) [] [] p1) (callEnv fd L f))
      standAt p2.atName
      let (z, first) ← holding [ov] (getMethod ov "__init__" pl)
      callWith p3 z first (backTo p3 (starEach [.Constant (.str txt) j p5] (callEnv fd L f))) []))
    (hq : ∀ h' tk' dx, (∀ b o, b ≠ a → h.get? b = some o → h'.get? b = some o) → h.get? dx = none → dx ≠ a → (∃ t1 : Addr, h'.get? a = some ({ cls := .ref C, dict := some dx, data := .fields #[.ref t1, .none, .none, .none, .bool false, .none] } : Obj)) →
      h'.Ns1 dx (fun y => if y = fld then some u else none) → Q .next ⟨h', g, d, tk', os⟩) :
    wpAt (model prog w) A (.func bd (callEnv fd L f)) (execs (iBody txt sf fld par p0 p1 p2 p3 p4 p5 q0 q1 q2 q3 j) (callEnv fd L f)) Q E ⟨h, g, d, t, os⟩ := by
  have hcd : clsIn K C = some { name := nm, bases := bs, mro := .ref C :: tl, ns := N, qualname := q, hasDict := true, slotNames := sn, subclasses := sub, abstract := ab, collection := col, hasDel := false } := by
    unfold clsIn
    rw [hC] <;> rfl
  have J0 : InstAt h a (HandSPX.excO C t0) C none := ⟨hx, rfl, rfl, trivial⟩
  have hm1 : ∀ b, (Value.ref C :: tl).contains b = true → mroIn K C b = some true := fun b z => by
    unfold mroIn
    rw [hcd, Option.bind_some, if_neg (show ¬ (List.isEmpty (Value.ref C :: tl) = true) from Bool.false_ne_true), z]
  have hmB : mroIn K C (.type B) = some true := hm1 _ (by rw [List.contains_cons, G.hasB, Bool.or_true])
  have hmC : mroIn K C (.ref C) = some true := hm1 _ (by rw [List.contains_cons, beq_self_eq_true, Bool.true_or])
  have hne : a ≠ C := ks_ne X J0 hcd
  refine ks_wpAt_execs_cons (ks_wpAt_Expr_any ?_ hi hs1)
  refine ks_wpAt_MethodCall (pl := pl) ?_ he
  refine ks_wpAt_super_base (env := callEnv fd L f) hks hkc (by decide +kernel) rfl (X _ _ hf) hfo hp hco (X _ _ hcc) hoc hvs hfile htop ?_
  refine ks_loadName_global hk hks (loadGlobal_builtin (env := callEnv fd L f) (by show h.Ns fd.globals mg; rw [hgl]; exact hg1) hg2 (by show h.Ns fd.builtins mb; rw [hbl]; exact hb1) hb2 ⟨rfl, ?_⟩)
  refine wpAny_loadName_free (c := cc) hk hkc (by show List.lookup _ fd.closure = _; rw [hclo]; rfl) ⟨_, X _ _ hcell, rfl⟩ ?_
  rw [har]
  refine wpAny_loadName_local hk hka hn h1 ?_
  refine ks_wpAny_isType_cls (X _ _ hC) rfl ⟨rfl, ?_⟩
  refine ks_wpAny_call_super (X _ _ hC) rfl hx rfl (fun c z => by cases z) (looks_mroIn X hmC) (fun e1 g1 g2 => ?_)
  have X1 : K.In e1 := fun b o z => g2 _ _ (X b o z)
  have J1 : InstAt e1 a (HandSPX.excO C t0) C none := ⟨g2 _ _ hx, rfl, rfl, trivial⟩
  refine sup_method S g1 (looks_opaque X1 ho) (l₀ := .ref C :: tl) (fun A Q E s k q => wpAny_bind ((looks_clsIn X1 hcd) A _ E s k (wpAny_pure q))) (ESX.drop_own C tl) X1 hne (J1.type.andThen (looks_mroIn X1 hmB)) ?_
  have g3 : (e1.push (bnd ini a)).get? e1.objs.size = some (bnd ini a) := Heap.get?_push_at rfl rfl
  have g4 : ∀ b o, h.get? b = some o → (e1.push (bnd ini a)).get? b = some o := fun b o z => Heap.get?_push_of_some _ (g2 b o z)
  refine with_bnd (ini := ini) (x := a) rfl (evalArgs_plain (spliced_more (Constant_str (spliced_none ⟨g3, ?_⟩))))
  refine call_bnd S G (g4 _ _ (X _ _ hC)) (g4 _ _ hx) g3 (by rw [sizeLine_eq]; simp) (fun e2 t1 g5 g6 => ?_)
  have aL : L ≠ a := fun z => by
    obtain ⟨o, es, ep, y1, y2, _⟩ := hn
    rw [z, hx] at y1
    cases y1
    cases y2
  have g7 : ∀ b o, b ≠ a → h.get? b = some o → e2.get? b = some o := fun b o z y => g5 b o z (g4 b o y)
  have X2 : K.In e2 := fun b o z => g7 b o (fun y => by rw [y, hKa] at z; cases z) (X b o z)
  have n2 : e2.Ns L m := hn.at fun o z => g7 L o aL z
  refine ks_wpAt_execs_cons (ks_wpAt_Assign_Attr ?_ hs2)
  refine wpAt_of_wpAny (wpAny_Name (wpAny_loadName_local hk hkp n2 h2 ?_) hd2)
  refine wpAny_Name (wpAny_loadName_local hk hka n2 h1 ?_) hd1
  refine set_plain (ox := HandSPX.excO C t1) (od := none) X2 ⟨g6, rfl, rfl, trivial⟩ sa ?_
  refine osaB (tl := tl) X2 g6 hcd rfl hob hps rfl hno (fun e3 tk' dx g8 g9 g10 g11 g12 => ?_)
  refine wpAt_of_wpAny (wpAny_execs_nil ?_)
  refine hq e3 tk' dx (fun b o z y => g8 b o z (g7 b o z y)) ?_ g10 ⟨t1, g11⟩ g12
  cases z : h.get? dx with
  | none => rfl
  | some o => exact absurd (Heap.lt_size (g7 dx o g10 z)) (Nat.not_lt.mpr g9)
end
end Fm6
end PySem

namespace L2
open PySem PySem.Spec PyProof.Rows PySem.W PySem.Fm6
/-- what such an __init__ promises -/
def spInit (C : Addr) (fld : Str) : Sp := fun vs H Q _ => ∃ (a : Addr) (y : V), vs = [.ref a, y] ∧ H a = some (exo a C none) ∧ ∀ dx, H dx = none → dx ≠ a → Q .non (upd (upd H dx (exd dx [(fld, y)])) a (exo a C (some dx)))
section
variable {P : Program} {w : World} {K : Frag} {mg : Str → Option Value} {base : Heap} {CX : CXT} {k : Nat} {B ini newId : String} {tl : List Value} {C : Addr}
theorem fn_sup {txt sf fld par file : Str} {p0 p1 p2 p3 p4 p5 q0 q1 q2 q3 : Pos} {j tf : Nat} {f cc cda : Addr} {fd : FuncData} {ar : Arg} {vs : Array Value} {oc : Obj} {cl oF : Value} {cld oD : Option Addr} {csl oS : Array (Option Value)} {pl : Addr → Sem Bool}
    (G : ExcBaseFacts B newId ini tl) (S : SupB B ini tl) (hob : tl.contains (.type "object") = true) (hps : ∀ self, refuseLoop self "__setattr__" tl = pure ()) (T : OexB K C newId tl) (ho : nsIn K cStatics "thirdparty.any" = some none) (hno : findIn K (.ref C) fld = some none)
    (hf : K.lookup f = some ⟨oF, oD, .func fd, oS⟩) (hbd : fd.body = .stmts (iBody txt sf fld par p0 p1 p2 p3 p4 p5 q0 q1 q2 q3 j)) (hp : (fd.params.posonlyargs ++ fd.params.args).head? = some ar) (har : ar.arg = sf) (hco : fd.code = .ref cda) (hcd : codeIn K fd.code fd.qualname = true)
    (hcc : K.lookup cda = some oc) (hoc : oc.data = .fields vs) (hvs : vs[2]? = some (.str file tf)) (hfile : ((P.main.file : Str) == file) = true) (htop : (P.main.scope.names.lookup ("super" : Str)).isSome = false)
    (hcell : K.lookup cc = some ⟨cl, cld, .cell (some (.ref C)), csl⟩) (hclo : fd.closure = [(("__class__" : Str), cc)]) (hgl : fd.globals = mainGlobals) (hbl : fd.builtins = builtinsNs) (hg2 : mg "super" = none)
    (hks : fd.scope.names.lookup ("super" : Str) = some .globalImplicit) (hkc : fd.scope.names.lookup ("__class__" : Str) = some .free) (hka : fd.scope.names.lookup sf = some .local) (hkp : fd.scope.names.lookup par = some .local) (hk : fd.scope.kind = .function)
    (hnc : ∀ x ∈ fd.scope.names, x.2 ≠ .cell) (hgen : fd.scope.isGenerator = false) (hcor : fd.scope.isCoroutine = false) (hne : (sf == par) = false) (hd1 : (sf == ("__debug__" : Str)) = false) (hd2 : (par == ("__debug__" : Str)) = false)
    (hi : ∀ L, interactive (callEnv fd L f) = false) (hs1 : ∀ L, swapsWith (.Call (.Attribute (.Call (.Name "super" p0) [] [] p1) "__init__" p2) [.Constant (.str txt) j p5] [] p3) none p4.line (callEnv fd L f) = pure false)
    (hs2 : ∀ L, swapsWith (.Name par q2) (some (.Attribute (.Name sf q0) fld q1)) q3.line (callEnv fd L f) = pure false)
    (he : ∀ L, eval (.Call (.Attribute (.Call (.Name "super" p0) [] [] p1) "__init__" p2) [.Constant (.str txt) j p5] [] p3) (callEnv fd L f) = (do
      let ov ← attributeBase (.Call (.Name "super" p0) [] [] p1) "__init__" (callEnv fd L f) (eval (.Call (.Name "super" p0) [] [] p1) (callEnv fd L f))
      standAt p2.atName
      let (z, first) ← holding [ov] (getMethod ov "__init__" (pl L))
      callWith p3 z first (backTo p3 (starEach [.Constant (.str txt) j p5] (callEnv fd L f))) [])) :
    FnOk P w K mg base CX (k + 1) f fd [sf, par] (spInit C fld) := by
  refine ⟨fun vs H Q E z => ?_, fun A outer s H args us vs Q E hr e0 hb r hsp => ?_⟩
  · obtain ⟨a, y, rfl, _⟩ := z
    rfl
  obtain ⟨a, y, rfl, ha, hq⟩ := hsp
  obtain ⟨nm, q, N, bs, sn, sub, ab, col, dd, k0, k1, k2, k3, k5, hC⟩ := T.cls
  obtain ⟨u, rfl, ru⟩ : ∃ u, us = [.ref a, u] ∧ RelV y u := by
    cases r with
    | cons r1 r2 =>
      cases r2 with
      | cons r3 r4 =>
        cases r4
        refine ⟨_, ?_, r3⟩
        have z : _ = Value.ref a := r1
        rw [z]
  have X : K.In s.heap := e0.mod.kin.keeps fun b o z => (e0.bs b o z).1
  obtain ⟨t1, c1⟩ := exo_at e0.hok ha
  have c2 : K.lookup a = none := by
    cases z : K.lookup a with
    | none => rfl
    | some o =>
      have := (e0.bs a o (e0.mod.kin _ _ z)).2
      rw [ha] at this
      cases this
  obtain ⟨mb, c3, c4⟩ := e0.mod.blt
  refine ks_codeAny_call_defAt (fd := fd) (binds := [(sf, .ref a), (par, u)]) hr.depth (X _ _ hf) rfl (e0.mod.nolimit.keeps fun b o z => (e0.bs b o z).1) (codeRec_of X hcd) hbd hb hnc ?_ (fun h₀ n kp => ?_) hcor hgen hk
  · intro x hx
    simp only [List.mem_cons, List.not_mem_nil, or_false] at hx
    rcases hx with rfl | rfl
    · exact hka
    · exact hkp
  have c5 : ∀ b o, base.get? b = some o → h₀.get? b = some o := fun b o z => kp b o (e0.bs b o z).1
  refine ibody_run (mg := mg) (mb := mb) (m := fun x => [(sf, Value.ref a), (par, u)].reverse.lookup x) (u := u) (a := a) G S hob hps (fun b o z => c5 b o (e0.mod.kin _ _ z)) hC ho T.sa hno n ?_ ?_ (kp _ _ c1) c2 hf rfl hp har hco hcc hoc hvs hfile htop hcell hclo hgl hbl
    (e0.mod.glob.keeps c5) hg2 (c3.keeps c5) ((c4 _ (by decide)).trans ?_) hks hkc hka hkp hk hd1 hd2 (hi _) (hs1 _) (hs2 _) (he _) (fun h' tk' dx d1 d2 d3 d4 d5 => ?_)
  · show List.lookup sf [(par, u), (sf, .ref a)] = _
    simp [List.lookup_cons, hne]
  · show List.lookup par [(par, u), (sf, .ref a)] = _
    simp [List.lookup_cons]
  · kernel_rfl
  · obtain ⟨t2, d4⟩ := d4
    have d6 : ∀ b o, b ≠ a → s.heap.get? b = some o → h'.get? b = some o := fun b o z v => d1 b o z (kp b o v)
    have d7 : s.heap.get? dx = none := by
      cases z : s.heap.get? dx with
      | none => rfl
      | some o => rw [kp dx o z] at d2; cases d2
    have d8 : H dx = none := e0.hok.gone d7
    have d9 : ∀ {b : Addr}, H b = none → b ≠ a := fun {b} z v => by
      rw [v, ha] at z
      cases z
    have dy : ∀ {b : Addr} {o : Obj}, s.heap.get? b = some o → b ≠ dx := fun {b o} z v => by
      rw [v, d7] at z
      cases z
    refine ⟨.non, _, rfl, e0.bare, ⟨?_, ?_, ?_, ?_, ?_, ?_, ?_⟩, ?_, rfl, hq dx d8 d3⟩
    · exact fun b o z v _ _ => d6 b o (d9 v) z
    · exact fun b o z v _ _ => ⟨o.slots, d6 b o (d9 v) z⟩
    · intro b o z v _
      rw [upd_ne (d9 v), upd_ne (dy z)]
      exact v
    · intro b o z _
      by_cases v : b = a
      · exact ⟨_, v ▸ d4⟩
      · exact ⟨o, d6 b o v z⟩
    · intro b xs z
      rw [upd_ne (at_ne ha z exo_tup), upd_ne (ne_of_none z d8)]
      exact z
    · intro b o v z
      rw [upd_ne (at_ne ha z exo_frz), upd_ne (ne_of_none z d8)]
      exact z
    · intro b ps z
      refine ⟨#[], ?_⟩
      rw [upd_ne (at_ne ha z exo_tbl), upd_ne (ne_of_none z d8), z]
      simp
    · intro b o z
      by_cases v1 : b = a
      · subst v1
        rw [upd_same] at z
        cases z
        exact exo_ok d4
      rw [upd_ne v1] at z
      by_cases v2 : b = dx
      · subst v2
        rw [upd_same] at z
        cases z
        exact exd_ok d5 (relO_put (fs := []) ru fun g => True.intro)
      rw [upd_ne v2] at z
      refine (e0.hok b o z).stay (fun c v x1 x2 => d6 c v ?_ x2) (fun c x1 => ?_) (fun c xs x1 => ?_)
      · rcases x1 with x1 | x1
        · exact x1 ▸ v1
        · exact at_ne ha x1 exo_own
      · rw [upd_ne (at_ne ha x1 exo_own), upd_ne (ne_of_none x1 d8)]
        exact x1
      · rw [upd_ne (at_ne ha x1 exo_tup), upd_ne (ne_of_none x1 d8)]
        exact x1
end
end L2

namespace L2N
open PySem PySem.Spec PyProof.Rows L2
section
variable {X : Cx} {e : Expr} {es : List Expr} {ta : TA} {p pos : Pos} {B newId ini : String} {tl : List Value}
/-- C(..), C right over B, with an __init__ of its own -/
theorem pmk_oxb {CX : CXT} {x : Str} {C fI : Addr} {k : Nat} {fd : FuncData} {ps : List Str} {sp : Sp} {ds : List Value} {dvs : List V} (G : ExcBaseFacts B newId ini tl) (T : OexB X.K C newId tl) (iC : PySem.W.findIn X.K (.ref C) "__init__" = some (some (.ref fI)))
    (tI : PySem.W.typeIn X.K (.ref fI) = some (.type "function")) (F1 : FnOk X.prog X.w X.K X.mg X.base CX k fI fd ps sp) (hr : Room (k + 1) X.A) (hb : Binds X.K fd ps ds) (hd : Vals dvs ds) (hx : Passes CX X (fun _ _ _ => False)) (hg : Gl X x) (hm : X.mg x = some (.ref C))
    (ha : PA X (e :: es) ta) (hdb : (x == ("__debug__" : Str)) = false := by decide) (he : starEach (e :: es) X.env = (false, eval e X.env) :: starEach es X.env := by rfl) (hpl : (backTo pos (starEach es X.env)).any (·.1) = false := by rfl) :
    L2N.PMk X (.Call (.Name x p) (e :: es) [] pos) (tMkO C sp dvs ta) := by
  intro pins s σ H Q I h
  obtain ⟨nm, q, N, bs, sn, sub, ab, col, dd, k0, k1, k2, k3, k5, hC⟩ := T.cls
  refine wpAny_Call_Name_kw (ld_glob I hg hm ?_ hdb)
  refine PySem.W.callWith_K (h₀ := X.base) I.ok.mod.kin T.kC (thn (ha.run pos pins s σ H _ I h) fun us s1 b1 => ?_) he hpl
  obtain ⟨vs, H1, I1, r1, hz, q1⟩ := b1
  refine ⟨I1.kIn, ?_⟩
  show wpAny _ _ (call (.ref C) us) _ _ _
  obtain ⟨hp, g, dr, tk, os⟩ := s1
  have b2 : H1 (hp.objs.size + 1) = none := I1.hok.fresh (Nat.le_succ _)
  have b3 := q1 (hp.objs.size + 1) b2
  have b4 : ∀ b o, hp.get? b = some o → ((hp.push (PySem.W.kdv_tup us)).push (PySem.HandSPX.excO C hp.objs.size)).get? b = some o := fun b o z => Heap.get?_push_of_some _ (Heap.get?_push_of_some _ z)
  have b5 : ((hp.push (PySem.W.kdv_tup us)).push (PySem.HandSPX.excO C hp.objs.size)).get? (hp.objs.size + 1) = some (PySem.HandSPX.excO C hp.objs.size) := by heap_get
  have I2 := I1.laid (t' := tk) (a := hp.objs.size + 1) (o := exo (hp.objs.size + 1) C none) b4 (Nat.le_succ _) (exo_ok b5)
  have b6 : Vals (V.ref (hp.objs.size + 1) :: (vs ++ dvs)) (Value.ref (hp.objs.size + 1) :: (us ++ ds)) := .cons rfl (r1.append hd)
  have b7 : (Value.ref (hp.objs.size + 1) :: us ++ ds).length = ps.length := ((F1.len _ _ _ _ b3).symm.trans b6.length).symm
  have b8 : us.length ≤ sizeLine := by
    have := Paired.length r1
    rw [sizeLine_eq]
    omega
  refine wpAny_call (PySem.HandSPX.call_own G (fun Y => rfl) (I1.kIn _ _ hC) (PySem.W.looks_findIn I1.kIn iC) (fun self => PySem.W.bind_fn I1.kIn self tI) b8 ?_)
  refine codeAny_mono (F1.run _ X.stack _ _ ⟨Value.ref (hp.objs.size + 1) :: us, []⟩ (Value.ref (hp.objs.size + 1) :: (us ++ ds)) _ _ (fun _ _ _ => False) (hr.make C us []) (I2.env0.make C us []) (hb _ (Value.ref (hp.objs.size + 1) :: us) I2.kIn b7) b6 b3) fun r s' b9 => ?_
  cases r with
  | error er => exact hx pins σ _ _ er s' I2 b9
  | ok fl =>
    cases fl with
    | ret u =>
      obtain ⟨v, H2, os2, bare2, un2, hok2, rv, ev, d, fs, ea, ed, hd1, q2⟩ := b9
      subst ev
      obtain ⟨h2, g2, d2, t2, os'⟩ := s'
      obtain ⟨t0, G2, J, kG, ge, hoe, na⟩ := mk_end0 (d2 := d2) (t2 := t2) I1 (Nat.le_succ _) b4 un2 hok2 os2 bare2 ea ed hd1
      refine ⟨rv, hp.objs.size + 1, _, _, ⟨G2, g2, d2, t2, os'⟩, _, .ref C, some d, rfl, J, kG, ge, hoe, ⟨rfl, rfl, ?_⟩, rfl, rfl, na, rfl, bare2, raises_own T.exC T.tyC, q2⟩
      intro vs z
      cases z
      rfl
    | next => exact False.elim b9
    | brk => exact False.elim b9
    | cont => exact False.elim b9
end
end L2N

namespace Fm
open PySem PySem.Spec PyProof.Rows L2 PySem.Fm6
/-- what is known of OverNought where it is raised -/
structure OverC (P : Program) (w : World) (K : PySem.W.Frag) (mg : Str → Option Value) (base : Heap) (fI : Addr) (fd : FuncData) : Prop where
  T : OexB K (He.ga K "OverNought") "ZeroDivisionError.__new__" [.type "ZeroDivisionError", .type "ArithmeticError", .type "Exception", .type "BaseException", .type "object"]
  i : PySem.W.findIn K (.ref (He.ga K "OverNought")) "__init__" = some (some (.ref fI))
  ty : PySem.W.typeIn K (.ref fI) = some (.type "function")
  fn : FnOk P w K mg base C8.CX0 1 fI fd ["self", "top"] (spInit (He.ga K "OverNought") "top")
  b : Binds K fd ["self", "top"] []
  g : mg "OverNought" = some (.ref (He.ga K "OverNought"))
/-- OverNought(y) is raised -/
theorem w_over {C : Addr} {y : V} {H : Hp} {Q : XK} (q : ∀ d H', H d = none → Same H H' → H' d = some (.xd [("top", y)]) → Q (.ref C) (some d) H') :
    ([y] : List V).length ≤ 1000 ∧ ∀ a, H a = none → spInit C "top" (.ref a :: ([y] ++ [])) (upd H a (exo a C none))
      (fun v H2 => v = .non ∧ ∃ (d : Addr) (fs : List (Str × V)), H2 a = some (exo a C (some d)) ∧ H2 d = some (exd d fs) ∧ H d = none ∧ Q (.ref C) (some d) (upd (del H2 a) d (.xd fs))) (fun _ _ _ => False) := by
  refine ⟨by simp, fun a ha => ⟨a, y, rfl, upd_same, fun dx h1 h2 => ?_⟩⟩
  rw [upd_ne h2] at h1
  refine ⟨rfl, dx, [("top", y)], upd_same, ?_, h1, q dx _ h1 (fun b o z => ?_) upd_same⟩
  · rw [upd_ne h2, upd_same]
  · have z1 : b ≠ a := ne_of_none z ha
    have z2 : b ≠ dx := ne_of_none z h1
    rw [upd_ne z2, del_ne z1, upd_ne z1, upd_ne z2, upd_ne z1]
    exact z
theorem w_mk {C : Addr} {sp : Sp} {dvs : List V} {ta : TA} {σ : L2.St} {H : Hp} {Q : XK} (h : ta σ H fun vs H1 => vs.length ≤ 1000 ∧ ∀ a, H1 a = none → sp (.ref a :: (vs ++ dvs)) (upd H1 a (exo a C none))
    (fun v H2 => v = .non ∧ ∃ (d : Addr) (fs : List (Str × V)), H2 a = some (exo a C (some d)) ∧ H2 d = some (exd d fs) ∧ H1 d = none ∧ Q (.ref C) (some d) (upd (del H2 a) d (.xd fs))) (fun _ _ _ => False)) : tMkO C sp dvs ta σ H Q := h
/-- one number over another -/
def ovrF (g : Int) (x y : Int × Int) : Int × Int := lowF g (x.1 * y.2) (x.2 * y.1)
theorem TN.topN {g : Int} {k : Nat} {a : Int × Int} (h : TN g k a) (hz : a.1 ≠ 0) : g ≠ 0 → a.1.fmod g ≠ 0 := fun z => by
  have g0 := h.gpos z
  rcases h.1 with ⟨w, _⟩ | ⟨_, a0, a1, _⟩
  · exact absurd w z
  · rw [fmod_pos _ g0, Int.emod_eq_of_lt a0 a1]
    exact hz
end Fm

namespace Fm
open Lean.Grind PySem L2
/-- one number less another -/
def lessF (g : Int) (x y : Int × Int) : Int × Int := lowF g (x.1 * y.2 - y.1 * x.2) (x.2 * y.2)
section
variable {g : Int} {k l : Nat} {a c : Int × Int}
theorem dn2 (hg : g = 0 ∨ Gr5 g) (ha : TN g k a) (hc : TN g l c) : a.2 * c.2 ≠ 0 ∧ (g ≠ 0 → (a.2 * c.2).fmod g ≠ 0) := by
  refine ⟨Int.mul_ne_zero (ha.inv hg).1 (hc.inv hg).1, fun z => ?_⟩
  have g0 := ha.gpos z
  rw [ha.one g0, hc.one g0]
  exact one_fmod (hg.resolve_left z)
theorem dif_lt {u v : Int} {k : Nat} (h1 : u.natAbs < 2 ^ k) (h2 : v.natAbs < 2 ^ k) : (u - v).natAbs < 2 ^ (k + 1) := by
  rw [Nat.pow_succ]
  omega
theorem sum_lt {u v : Int} {k : Nat} (h1 : u.natAbs < 2 ^ k) (h2 : v.natAbs < 2 ^ k) : (u + v).natAbs < 2 ^ (k + 1) := by
  rw [Nat.pow_succ]
  omega
theorem tn_less (hg : g = 0 ∨ Gr5 g) (ha : TN g k a) (hc : TN g l c) (hk : 4 ≤ k) : TN g (k + l + 1) (lessF g a c) :=
  tn_low hg (dn2 hg ha hc).1 (dn2 hg ha hc).2 (by omega) (dif_lt (wide_lt ha.2.1 hc.2.2) (by have := wide_lt hc.2.1 ha.2.2; rwa [Nat.add_comm] at this))
    (Nat.lt_of_lt_of_le (wide_lt ha.2.2 hc.2.2) (Nat.pow_le_pow_right (by decide) (Nat.le_succ _)))
theorem GV.less {F : Type} [CommRing F] (V : GV g F) (hg : g = 0 ∨ Gr5 g) (ha : TN g k a) (hc : TN g l c) : V.e (lessF g a c) = V.e a - V.e c := by
  obtain ⟨e1, n1⟩ := V.tn hg ha
  obtain ⟨e2, n2⟩ := V.tn hg hc
  have e3 := V.low (u := a.1 * c.2 - c.1 * a.2) hg (dn2 hg ha hc).1 (dn2 hg ha hc).2
  have e4 : V.e (lessF g a c) * V.i (a.2 * c.2) = V.i (a.1 * c.2 - c.1 * a.2) := e3
  refine V.cancel (z := V.i a.2 * V.i c.2) ?_ (fun z => n2 (V.dom z n1))
  rw [V.isub, V.imul, V.imul, V.imul] at e4
  grind
/-- less: plus the contrary -/
theorem less_eq (hg : g = 0 ∨ Gr5 g) (ha : TN g k a) (hc : TN g l c) (hk : 4 ≤ k) (hl : 4 ≤ l) : plusF g a (minusF g c) = lessF g a c := by
  obtain ⟨F, R, ⟨V⟩⟩ := gv_any hg
  have m := tn_minus hg hc hl
  refine V.inj hg (tn_plus hg ha m hk) (tn_less hg ha hc hk) ?_
  rw [V.plus hg ha m, V.minus hg hc, V.less hg ha hc]
  grind
/-- what is divided is a number again -/
theorem tn_ovr (hg : g = 0 ∨ Gr5 g) (ha : TN g k a) (hc : TN g l c) (hk : 4 ≤ k) (hz : c.1 ≠ 0) : TN g (k + l) (ovrF g a c) :=
  tn_low hg (Int.mul_ne_zero (ha.inv hg).1 hz) (fun z => by
    rw [ha.one (ha.gpos z), Int.one_mul]
    exact hc.topN hz z) (by omega) (wide_lt ha.2.1 hc.2.2) (wide_lt ha.2.2 hc.2.1)
end
end Fm

namespace Fm
open Lean.Grind PySem L2
/-! ### sums of products, and numbers of four parts -/
section
variable {g : Int} {F : Type} [CommRing F]
theorem tn_zero (hg : g = 0 ∨ Gr5 g) : TN g 4 (0, 1) := by
  refine ⟨?_, by decide, by decide⟩
  rcases hg with h | h
  · exact .inl ⟨h, by decide, by decide⟩
  · refine .inr ⟨?_, by decide, ?_, rfl⟩
    · unfold Gr5 at h; omega
    · show (0 : Int) < g
      unfold Gr5 at h; omega
theorem tn_one (hg : g = 0 ∨ Gr5 g) : TN g 4 (1, 1) := by
  refine ⟨?_, by decide, by decide⟩
  rcases hg with h | h
  · exact .inl ⟨h, by decide, by decide⟩
  · refine .inr ⟨?_, by decide, ?_, rfl⟩
    · unfold Gr5 at h; omega
    · show (1 : Int) < g
      unfold Gr5 at h; omega
theorem tn_fold (hg : g = 0 ∨ Gr5 g) {m : Nat} : ∀ (as : List (Int × Int)) (p : Int × Int) (l : Nat), TN g l p → 4 ≤ l → (∀ a ∈ as, TN g m a) → TN g (l + as.length * (m + 1)) (as.foldl (plusF g) p)
  | [], p, l, hp, _, _ => by
    show TN g (l + 0 * (m + 1)) p
    rw [Nat.zero_mul]
    exact hp
  | a :: as, p, l, hp, hl, h => by
    have h1 := tn_plus hg hp (h a (List.mem_cons_self ..)) hl
    have h2 := tn_fold hg as _ _ h1 (by omega) fun b hb => h b (List.mem_cons_of_mem _ hb)
    refine h2.mono ?_
    rw [List.length_cons, Nat.succ_mul]
    omega
theorem GV.fold (V : GV g F) (hg : g = 0 ∨ Gr5 g) {m : Nat} : ∀ (as : List (Int × Int)) (p : Int × Int) (l : Nat), TN g l p → 4 ≤ l → (∀ a ∈ as, TN g m a) → V.e (as.foldl (plusF g) p) = (as.map V.e).foldl (· + ·) (V.e p)
  | [], p, l, hp, _, _ => rfl
  | a :: as, p, l, hp, hl, h => by
    have ha := h a (List.mem_cons_self ..)
    have h1 := tn_plus hg hp ha hl
    rw [List.foldl_cons, V.fold hg as _ _ h1 (by omega) fun b hb => h b (List.mem_cons_of_mem _ hb), List.map_cons, List.foldl_cons, V.plus hg hp ha]
theorem tn_cell (hg : g = 0 ∨ Gr5 g) {k l : Nat} {r s : List (Int × Int)} (hr : ∀ a ∈ r, TN g k a) (hs : ∀ a ∈ s, TN g l a) (hk : 4 ≤ k) : TN g (4 + r.length * (k + l + 1)) (cellF g r s) := by
  have h := tn_fold hg (List.zipWith (timesF g) r s) (0, 1) 4 (tn_zero hg) (Nat.le_refl _) (m := k + l) (fun a ha => by
    obtain ⟨i, hi, rfl⟩ := List.mem_iff_getElem.mp ha
    rw [List.getElem_zipWith]
    rw [List.length_zipWith] at hi
    exact tn_times hg (hr _ (List.getElem_mem (by omega))) (hs _ (List.getElem_mem (by omega))) hk)
  refine h.mono ?_
  refine Nat.add_le_add_left (Nat.mul_le_mul_right _ ?_) _
  rw [List.length_zipWith]
  omega
theorem GV.cell (V : GV g F) (hg : g = 0 ∨ Gr5 g) {k l : Nat} {r s : List (Int × Int)} (hr : ∀ a ∈ r, TN g k a) (hs : ∀ a ∈ s, TN g l a) (hk : 4 ≤ k) : V.e (cellF g r s) = (List.zipWith (fun a b => V.e a * V.e b) r s).foldl (· + ·) 0 := by
  unfold cellF
  rw [V.fold hg (List.zipWith (timesF g) r s) (0, 1) 4 (tn_zero hg) (Nat.le_refl _) (m := k + l) (fun a ha => by
    obtain ⟨i, hi, rfl⟩ := List.mem_iff_getElem.mp ha
    rw [List.getElem_zipWith]
    rw [List.length_zipWith] at hi
    exact tn_times hg (hr _ (List.getElem_mem (by omega))) (hs _ (List.getElem_mem (by omega))) hk), V.zero, List.map_zipWith]
  congr 1
  refine List.ext_getElem (by rw [List.length_zipWith, List.length_zipWith]) fun i h1 h2 => ?_
  rw [List.length_zipWith] at h1
  rw [List.getElem_zipWith, List.getElem_zipWith, V.times hg (hr _ (List.getElem_mem (by omega))) (hs _ (List.getElem_mem (by omega)))]
theorem GV.injL (V : GV g F) (hg : g = 0 ∨ Gr5 g) {k l : Nat} : ∀ {r s : List (Int × Int)}, (∀ a ∈ r, TN g k a) → (∀ a ∈ s, TN g l a) → r.map V.e = s.map V.e → r = s
  | [], [], _, _, _ => rfl
  | [], _ :: _, _, _, h => by cases h
  | _ :: _, [], _, _, h => by cases h
  | a :: r, c :: s, hr, hs, h => by
    rw [List.map_cons, List.map_cons] at h
    injection h with h1 h2
    rw [V.inj hg (hr a (List.mem_cons_self ..)) (hs c (List.mem_cons_self ..)) h1, V.injL hg (fun x hx => hr x (List.mem_cons_of_mem _ hx)) (fun x hx => hs x (List.mem_cons_of_mem _ hx)) h2]
theorem TN.okn (hg : g = 0 ∨ Gr5 g) {k : Nat} {a : Int × Int} (h : TN g k a) : OkN g k a := by
  refine ⟨h.2.1, h.2.2, ?_⟩
  rcases hg with e | h5
  · exact .inl ⟨e, h.pos⟩
  · have : 3 ≤ g ∧ g ≤ 13 := by unfold Gr5 at h5; omega
    exact .inr ⟨this.1, this.2, h.one (by omega)⟩
/-- the number -1 -/
def m1F (g : Int) : Int × Int := lowF g (-1) 1
theorem tn_m1 (hg : g = 0 ∨ Gr5 g) : TN g 4 (m1F g) := tn_low hg (by decide) (fun z => one_fmod (hg.resolve_left z)) (Nat.le_refl _) (by decide) (by decide)
theorem GV.m1 (V : GV g F) (hg : g = 0 ∨ Gr5 g) : V.e (m1F g) = -1 := by
  have h := V.low (u := -1) (d := 1) hg (by decide) (fun z => one_fmod (hg.resolve_left z))
  rw [V.i1, V.ineg, V.i1] at h
  unfold m1F
  grind
def negF (g : Int) (x : Int × Int) : Int × Int := timesF g x (m1F g)
theorem tn_neg (hg : g = 0 ∨ Gr5 g) {k : Nat} {a : Int × Int} (h : TN g k a) (hk : 4 ≤ k) : TN g (k + 4) (negF g a) := tn_times hg h (tn_m1 hg) hk
theorem GV.neg (V : GV g F) (hg : g = 0 ∨ Gr5 g) {k : Nat} {a : Int × Int} (h : TN g k a) : V.e (negF g a) = - V.e a := by
  unfold negF
  rw [V.times hg h (tn_m1 hg), V.m1 hg]
  grind
/-- the four times 1, i, j, k -/
def unitsF (g : Int) (a b c d : Int × Int) : List (List (Int × Int)) := [[a, b, c, d], [negF g b, a, d, negF g c], [negF g c, negF g d, a, b], [negF g d, c, negF g b, a]]
def fourF (g : Int) : List (Int × Int) → List (Int × Int) → List (Int × Int)
  | [a, b, c, d], s => (turnF 4 (unitsF g a b c d)).map (cellF g s)
  | _, _ => []
theorem units_tn (hg : g = 0 ∨ Gr5 g) {k : Nat} {a b c d : Int × Int} (hk : 4 ≤ k) (h : ∀ x ∈ [a, b, c, d], TN g k x) : ∀ r ∈ unitsF g a b c d, r.length = 4 ∧ ∀ x ∈ r, TN g (k + 4) x := by
  have ha := h a (by simp)
  have hb := h b (by simp)
  have hc := h c (by simp)
  have hd := h d (by simp)
  have u : ∀ {x}, TN g k x → TN g (k + 4) x := fun h => h.mono (by omega)
  have v : ∀ {x}, TN g k x → TN g (k + 4) (negF g x) := fun h => tn_neg hg h hk
  intro r hr
  unfold unitsF at hr
  simp only [List.mem_cons, List.not_mem_nil, or_false] at hr
  rcases hr with rfl | rfl | rfl | rfl
  all_goals
    refine ⟨rfl, fun x hx => ?_⟩
    simp only [List.mem_cons, List.not_mem_nil, or_false] at hx
    rcases hx with rfl | rfl | rfl | rfl <;> first | exact u ha | exact u hb | exact u hc | exact u hd | exact v hb | exact v hc | exact v hd
theorem four_is (a b c d : Int × Int) (s : List (Int × Int)) : fourF g [a, b, c, d] s = [cellF g s [a, negF g b, negF g c, negF g d], cellF g s [b, a, negF g d, c], cellF g s [c, d, a, negF g b], cellF g s [d, negF g c, b, a]] := rfl
theorem four_len {r s : List (Int × Int)} (h : r.length = 4) : (fourF g r s).length = 4 := by
  match r, h with
  | [a, b, c, d], _ => rfl
theorem four_tn (hg : g = 0 ∨ Gr5 g) {k l : Nat} (hk : 4 ≤ k) (hl : 4 ≤ l) {r s : List (Int × Int)} (hr : ∀ x ∈ r, TN g k x) (hs : ∀ x ∈ s, TN g l x) (h4 : r.length = 4) (h5 : s.length = 4) : ∀ x ∈ fourF g r s, TN g (4 * k + 4 * l + 24) x := by
  match r, h4 with
  | [a, b, c, d], _ =>
    have ha := hr a (by simp)
    have hb := hr b (by simp)
    have hc := hr c (by simp)
    have hd := hr d (by simp)
    have u : ∀ {x}, TN g k x → TN g (k + 4) x := fun h => h.mono (by omega)
    have v : ∀ {x}, TN g k x → TN g (k + 4) (negF g x) := fun h => tn_neg hg h hk
    rw [four_is]
    intro x hx
    simp only [List.mem_cons, List.not_mem_nil, or_false] at hx
    rcases hx with rfl | rfl | rfl | rfl
    all_goals
      refine (tn_cell hg hs (l := k + 4) (fun x hx => ?_) hl).mono (by rw [h5]; omega)
      simp only [List.mem_cons, List.not_mem_nil, or_false] at hx
      rcases hx with rfl | rfl | rfl | rfl <;> first | exact u ha | exact u hb | exact u hc | exact u hd | exact v hb | exact v hc | exact v hd
/-- fours in the field -/
def qmul {F : Type} [CommRing F] : List F → List F → List F
  | [a, b, c, d], [e, f, h, k] => [a * e - b * f - c * h - d * k, a * f + b * e + c * k - d * h, a * h - b * k + c * e + d * f, a * k + b * h - c * f + d * e]
  | _, _ => []
theorem GV.four (V : GV g F) (hg : g = 0 ∨ Gr5 g) {k l : Nat} (hk : 4 ≤ k) (hl : 4 ≤ l) {r s : List (Int × Int)} (hr : ∀ x ∈ r, TN g k x) (hs : ∀ x ∈ s, TN g l x) (h4 : r.length = 4) (h5 : s.length = 4) : (fourF g r s).map V.e = qmul (r.map V.e) (s.map V.e) := by
  match r, h4, s, h5 with
  | [a, b, c, d], _, [e, f, h, j], _ =>
    have ha := hr a (by simp)
    have hb := hr b (by simp)
    have hc := hr c (by simp)
    have hd := hr d (by simp)
    have u : ∀ {x}, TN g k x → TN g (k + 4) x := fun h => h.mono (by omega)
    have v : ∀ {x}, TN g k x → TN g (k + 4) (negF g x) := fun h => tn_neg hg h hk
    have key : ∀ x1 x2 x3 x4 : Int × Int, TN g (k + 4) x1 → TN g (k + 4) x2 → TN g (k + 4) x3 → TN g (k + 4) x4 → V.e (cellF g [e, f, h, j] [x1, x2, x3, x4]) = 0 + V.e e * V.e x1 + V.e f * V.e x2 + V.e h * V.e x3 + V.e j * V.e x4 := fun x1 x2 x3 x4 t1 t2 t3 t4 => by
      rw [V.cell hg hs (l := k + 4) (fun x hx => ?_) hl]
      · rfl
      · simp only [List.mem_cons, List.not_mem_nil, or_false] at hx
        rcases hx with rfl | rfl | rfl | rfl <;> assumption
    rw [four_is]
    simp only [List.map_cons, List.map_nil]
    rw [key _ _ _ _ (u ha) (v hb) (v hc) (v hd), key _ _ _ _ (u hb) (u ha) (v hd) (u hc), key _ _ _ _ (u hc) (u hd) (u ha) (v hb), key _ _ _ _ (u hd) (v hc) (u hb) (u ha), V.neg hg hb, V.neg hg hc, V.neg hg hd]
    unfold qmul
    congr 1
    · grind
    congr 1
    · grind
    congr 1
    · grind
    congr 1
    · grind
theorem qmul_assoc {x y z : List F} (hx : x.length = 4) (hy : y.length = 4) (hz : z.length = 4) : qmul (qmul x y) z = qmul x (qmul y z) := by
  match x, hx, y, hy, z, hz with
  | [a, b, c, d], _, [e, f, h, j], _, [p, q, r, s], _ =>
    show [_, _, _, _] = [_, _, _, _]
    congr 1
    · grind
    congr 1
    · grind
    congr 1
    · grind
    congr 1
    · grind
theorem four_assoc (hg : g = 0 ∨ Gr5 g) {k : Nat} (hk : 4 ≤ k) {r s t : List (Int × Int)} (hr : ∀ x ∈ r, TN g k x) (hs : ∀ x ∈ s, TN g k x) (ht : ∀ x ∈ t, TN g k x) (h4 : r.length = 4) (h5 : s.length = 4) (h6 : t.length = 4) : fourF g (fourF g r s) t = fourF g r (fourF g s t) := by
  obtain ⟨F, R, ⟨V⟩⟩ := gv_any hg
  have t1 := four_tn hg hk hk hr hs h4 h5
  have t2 := four_tn hg hk hk hs ht h5 h6
  have l1 := four_len (g := g) (s := s) h4
  have l2 := four_len (g := g) (s := t) h5
  refine V.injL hg (four_tn hg (by omega) hk t1 ht l1 h6) (four_tn hg hk (by omega) hr t2 h4 l2) ?_
  rw [V.four hg (by omega) hk t1 ht l1 h6, V.four hg hk hk hr hs h4 h5, V.four hg hk (by omega) hr t2 h4 l2, V.four hg hk hk hs ht h5 h6]
  exact qmul_assoc (by rw [List.length_map, h4]) (by rw [List.length_map, h5]) (by rw [List.length_map, h6])
theorem GV.norm (V : GV g F) (hg : g = 0 ∨ Gr5 g) {k : Nat} (hk : 4 ≤ k) {r : List (Int × Int)} (hr : ∀ x ∈ r, TN g k x) : V.e (cellF g r r) = ((r.map V.e).map fun x => x * x).foldl (· + ·) 0 := by
  rw [V.cell hg hr hr hk, List.zipWith_self, List.map_map]
  rfl
theorem norm_mul (hg : g = 0 ∨ Gr5 g) {k : Nat} (hk : 4 ≤ k) {r s : List (Int × Int)} (hr : ∀ x ∈ r, TN g k x) (hs : ∀ x ∈ s, TN g k x) (h4 : r.length = 4) (h5 : s.length = 4) : cellF g (fourF g r s) (fourF g r s) = timesF g (cellF g r r) (cellF g s s) := by
  obtain ⟨F, R, ⟨V⟩⟩ := gv_any hg
  have t1 := four_tn hg hk hk hr hs h4 h5
  have n1 := tn_cell hg hr hr hk
  have n2 := tn_cell hg hs hs hk
  refine V.inj hg (tn_cell hg t1 t1 (by omega)) (tn_times hg n1 n2 (by omega)) ?_
  rw [V.norm hg (by omega) t1, V.four hg hk hk hr hs h4 h5, V.times hg n1 n2, V.norm hg hk hr, V.norm hg hk hs]
  match r, h4, s, h5 with
  | [a, b, c, d], _, [e, f, h, j], _ =>
    simp only [List.map_cons, List.map_nil, qmul, List.foldl_cons, List.foldl_nil]
    grind
/-- the contrary -/
def turn4F (g : Int) : List (Int × Int) → List (Int × Int)
  | a :: r => a :: r.map (minusF g)
  | [] => []
theorem turn4_tn (hg : g = 0 ∨ Gr5 g) {k : Nat} (hk : 4 ≤ k) {r : List (Int × Int)} (hr : ∀ x ∈ r, TN g k x) : ∀ x ∈ turn4F g r, TN g k x := by
  match r with
  | [] => intro x hx; cases hx
  | a :: r =>
    intro x hx
    rcases List.mem_cons.mp (show x ∈ a :: r.map (minusF g) from hx) with rfl | hx
    · exact hr _ (List.mem_cons_self ..)
    · obtain ⟨y, hy, rfl⟩ := List.mem_map.mp hx
      exact tn_minus hg (hr y (List.mem_cons_of_mem _ hy)) hk
theorem four_contrary (hg : g = 0 ∨ Gr5 g) {k : Nat} (hk : 4 ≤ k) {r : List (Int × Int)} (hr : ∀ x ∈ r, TN g k x) (h4 : r.length = 4) : fourF g r (turn4F g r) = [cellF g r r, (0, 1), (0, 1), (0, 1)] := by
  obtain ⟨F, R, ⟨V⟩⟩ := gv_any hg
  have t1 := turn4_tn hg hk hr
  have n1 := tn_cell hg hr hr hk
  have z := tn_zero hg
  have l1 : (turn4F g r).length = 4 := by
    match r, h4 with
    | [a, b, c, d], _ => rfl
  refine V.injL (l := 4 + r.length * (k + k + 1) + 4) hg (four_tn hg hk hk hr t1 h4 l1) (fun x hx => ?_) ?_
  · simp only [List.mem_cons, List.not_mem_nil, or_false] at hx
    rcases hx with rfl | rfl | rfl | rfl
    · exact n1.mono (by omega)
    · exact z.mono (by omega)
    · exact z.mono (by omega)
    · exact z.mono (by omega)
  · rw [V.four hg hk hk hr t1 h4 l1]
    simp only [List.map_cons, List.map_nil]
    rw [V.norm hg hk hr, V.zero]
    match r, h4 with
    | [a, b, c, d], _ =>
      have hb := hr b (by simp)
      have hc := hr c (by simp)
      have hd := hr d (by simp)
      simp only [turn4F, List.map_cons, List.map_nil, V.minus hg hb, V.minus hg hc, V.minus hg hd, qmul, List.foldl_cons, List.foldl_nil]
      congr 1
      · grind
      congr 1
      · grind
      congr 1
      · grind
      congr 1
      · grind
/-- the law's own products -/
def lsF (g : Int) (l : List ((Int × Int) × (Int × Int) × Int)) : List (Int × Int) := l.map fun t => timesF g (lowF g t.2.2 1) (timesF g t.1 t.2.1)
def lrows (a b c d e f h k : Int × Int) : List (List ((Int × Int) × (Int × Int) × Int)) := [[(a, e, 1), (b, f, -1), (c, h, -1), (d, k, -1)], [(a, f, 1), (b, e, 1), (c, k, 1), (d, h, -1)], [(a, h, 1), (b, k, -1), (c, e, 1), (d, f, 1)], [(a, k, 1), (b, h, 1), (c, f, -1), (d, e, 1)]]
def lfourF (g : Int) : List (Int × Int) → List (Int × Int) → List (Int × Int)
  | [a, b, c, d], [e, f, h, k] => (lrows a b c d e f h k).map fun l => (lsF g l).foldl (plusF g) (0, 1)
  | _, _ => []
def SgOk (g : Int) (k : Nat) (t : (Int × Int) × (Int × Int) × Int) : Prop := TN g k t.1 ∧ TN g k t.2.1 ∧ (t.2.2 = 1 ∨ t.2.2 = -1)
theorem sg_tn (hg : g = 0 ∨ Gr5 g) {s : Int} (h : s = 1 ∨ s = -1) : TN g 4 (lowF g s 1) := tn_low hg (by decide) (fun z => one_fmod (hg.resolve_left z)) (Nat.le_refl _) (by rcases h with rfl | rfl <;> decide) (by decide)
theorem GV.sg (V : GV g F) (hg : g = 0 ∨ Gr5 g) {s : Int} : V.e (lowF g s 1) = V.i s := by
  have h := V.low (u := s) (d := 1) hg (by decide) (fun z => one_fmod (hg.resolve_left z))
  rw [V.i1] at h
  grind
theorem lrows_ok {k : Nat} {a b c d e f h j : Int × Int} (hr : ∀ x ∈ [a, b, c, d], TN g k x) (hs : ∀ x ∈ [e, f, h, j], TN g k x) : ∀ l ∈ lrows a b c d e f h j, l.length = 4 ∧ ∀ t ∈ l, SgOk g k t := by
  have ha := hr a (by simp)
  have hb := hr b (by simp)
  have hc := hr c (by simp)
  have hd := hr d (by simp)
  have he := hs e (by simp)
  have hf := hs f (by simp)
  have hh := hs h (by simp)
  have hj := hs j (by simp)
  intro l hl
  unfold lrows at hl
  simp only [List.mem_cons, List.not_mem_nil, or_false] at hl
  rcases hl with rfl | rfl | rfl | rfl
  all_goals
    refine ⟨rfl, fun t ht => ?_⟩
    simp only [List.mem_cons, List.not_mem_nil, or_false] at ht
    rcases ht with rfl | rfl | rfl | rfl <;> first | exact ⟨by assumption, by assumption, .inl rfl⟩ | exact ⟨by assumption, by assumption, .inr rfl⟩
theorem ls_tn (hg : g = 0 ∨ Gr5 g) {k : Nat} (hk : 4 ≤ k) {l : List ((Int × Int) × (Int × Int) × Int)} (h : ∀ t ∈ l, SgOk g k t) : ∀ x ∈ lsF g l, TN g (4 + (k + k)) x := fun x hx => by
  obtain ⟨t, ht, rfl⟩ := List.mem_map.mp hx
  obtain ⟨h1, h2, h3⟩ := h t ht
  exact tn_times hg (sg_tn hg h3) (tn_times hg h1 h2 hk) (Nat.le_refl _)
theorem ls_fold (hg : g = 0 ∨ Gr5 g) {k : Nat} (hk : 4 ≤ k) {l : List ((Int × Int) × (Int × Int) × Int)} (h4 : l.length = 4) (h : ∀ t ∈ l, SgOk g k t) (i : Nat) : TN g (8 * k + 24) (((lsF g l).take i).foldl (plusF g) (0, 1)) := by
  refine (tn_fold hg ((lsF g l).take i) (0, 1) 4 (tn_zero hg) (Nat.le_refl _) (m := 4 + (k + k)) fun x hx => ls_tn hg hk h x (List.mem_of_mem_take hx)).mono ?_
  have : ((lsF g l).take i).length ≤ 4 := by
    rw [List.length_take]
    unfold lsF
    rw [List.length_map, h4]
    omega
  have := Nat.mul_le_mul_right (4 + (k + k) + 1) this
  omega
theorem GV.ls (V : GV g F) (hg : g = 0 ∨ Gr5 g) {k : Nat} (hk : 4 ≤ k) {l : List ((Int × Int) × (Int × Int) × Int)} (h : ∀ t ∈ l, SgOk g k t) : V.e ((lsF g l).foldl (plusF g) (0, 1)) = (l.map fun t => V.i t.2.2 * (V.e t.1 * V.e t.2.1)).foldl (· + ·) 0 := by
  rw [V.fold hg (lsF g l) (0, 1) 4 (tn_zero hg) (Nat.le_refl _) (m := 4 + (k + k)) (ls_tn hg hk h), V.zero]
  congr 1
  unfold lsF
  rw [List.map_map]
  refine List.map_congr_left fun t ht => ?_
  obtain ⟨h1, h2, h3⟩ := h t ht
  show V.e (timesF g (lowF g t.2.2 1) (timesF g t.1 t.2.1)) = _
  rw [V.times hg (sg_tn hg h3) (tn_times hg h1 h2 hk), V.times hg h1 h2, V.sg hg]
theorem lfour_eq (hg : g = 0 ∨ Gr5 g) {k : Nat} (hk : 4 ≤ k) {r s : List (Int × Int)} (hr : ∀ x ∈ r, TN g k x) (hs : ∀ x ∈ s, TN g k x) (h4 : r.length = 4) (h5 : s.length = 4) : lfourF g r s = fourF g r s := by
  obtain ⟨F, R, ⟨V⟩⟩ := gv_any hg
  have t1 := four_tn hg hk hk hr hs h4 h5
  have e1 := V.four hg hk hk hr hs h4 h5
  match r, h4, s, h5 with
  | [a, b, c, d], _, [e, f, h, j], _ =>
    have ok := lrows_ok hr hs
    refine V.injL (k := 8 * k + 24) hg (fun x hx => ?_) t1 ?_
    · obtain ⟨l, hl, rfl⟩ := List.mem_map.mp hx
      have := ls_fold hg hk (ok l hl).1 (ok l hl).2 (lsF g l).length
      rw [List.take_length] at this
      exact this
    · rw [e1]
      have e2 : (lfourF g [a, b, c, d] [e, f, h, j]).map V.e = (lrows a b c d e f h j).map fun l => (l.map fun t => V.i t.2.2 * (V.e t.1 * V.e t.2.1)).foldl (· + ·) 0 := by
        show ((lrows a b c d e f h j).map fun l => (lsF g l).foldl (plusF g) (0, 1)).map V.e = _
        rw [List.map_map]
        exact List.map_congr_left fun l hl => V.ls hg hk (ok l hl).2
      rw [e2]
      have im : V.i (-1) = -1 := by rw [V.ineg, V.i1]
      simp only [lrows, List.map_cons, List.map_nil, List.foldl_cons, List.foldl_nil, V.i1, im, qmul]
      congr 1
      · grind
      congr 1
      · grind
      congr 1
      · grind
      congr 1
      · grind
theorem lnorm_eq (r : List (Int × Int)) : (r.map fun x => timesF g x x).foldl (plusF g) (0, 1) = cellF g r r := by
  unfold cellF
  rw [List.zipWith_self]
end
theorem four_ijk : fourF 0 (fourF 0 [(0, 1), (1, 1), (0, 1), (0, 1)] [(0, 1), (0, 1), (1, 1), (0, 1)]) [(0, 1), (0, 1), (0, 1), (1, 1)] = [(-1, 1), (0, 1), (0, 1), (0, 1)] := by decide +kernel
theorem norm_i3 : cellF 3 [(0, 1), (1, 1), (0, 1), (0, 1)] [(0, 1), (1, 1), (0, 1), (0, 1)] = (1, 1) := by decide +kernel
end Fm

namespace Fm
open PySem PySem.Spec PyProof.Rows L2
theorem ps_never {X : Cx} {st : Stmt} : PS X st (fun _ _ _ => False) := ⟨fun _ _ _ _ _ _ h => h.elim⟩
theorem w_glst {K : PySem.W.Frag} {n : Nat} {t : TGs} {a : Addr} {xs : List V} {σ : L2.St} {H : Hp} {R : L2.St → Hp → Prop} (h : H a = some (.lst xs)) (hn : xs.length = n) (q : t xs σ H R) : gLst K n t (.ref a) σ H R := ⟨a, xs, rfl, SqL.of h, hn, q⟩
theorem sqv4 {α : Type} {P : Hp → V → α → Prop} {H : Hp} {p : Addr} {x y z w : V} {a b c d : α} (hp : H p = some (.tup [x, y, z, w])) (h1 : P H x a) (h2 : P H y b) (h3 : P H z c) (h4 : P H w d) : SqV P H (.ref p) [a, b, c, d] := ⟨p, [x, y, z, w], rfl, hp, rfl, fun i v e e1 e2 => by
  match i with
  | 0 => cases e1; cases e2; exact h1
  | 1 => cases e1; cases e2; exact h2
  | 2 => cases e1; cases e2; exact h3
  | 3 => cases e1; cases e2; exact h4
  | i + 4 => simp at e1⟩
theorem sqv3 {α : Type} {P : Hp → V → α → Prop} {H : Hp} {p : Addr} {x y z : V} {a b c : α} (hp : H p = some (.tup [x, y, z])) (h1 : P H x a) (h2 : P H y b) (h3 : P H z c) : SqV P H (.ref p) [a, b, c] := ⟨p, [x, y, z], rfl, hp, rfl, fun i v e e1 e2 => by
  match i with
  | 0 => cases e1; cases e2; exact h1
  | 1 => cases e1; cases e2; exact h2
  | 2 => cases e1; cases e2; exact h3
  | i + 3 => simp at e1⟩
theorem sqv4_of {α : Type} {P : Hp → V → α → Prop} {H : Hp} {v : V} {a b c d : α} (h : SqV P H v [a, b, c, d]) : ∃ p x y z w, v = .ref p ∧ H p = some (.tup [x, y, z, w]) ∧ P H x a ∧ P H y b ∧ P H z c ∧ P H w d := by
  obtain ⟨p, xs, rfl, hp, hl, hx⟩ := h
  match xs, hl with
  | [x, y, z, w], _ => exact ⟨p, x, y, z, w, rfl, hp, hx 0 x a rfl rfl, hx 1 y b rfl rfl, hx 2 z c rfl rfl, hx 3 w d rfl rfl⟩
theorem sqv3_of {α : Type} {P : Hp → V → α → Prop} {H : Hp} {v : V} {a b c : α} (h : SqV P H v [a, b, c]) : ∃ p x y z, v = .ref p ∧ H p = some (.tup [x, y, z]) ∧ P H x a ∧ P H y b ∧ P H z c := by
  obtain ⟨p, xs, rfl, hp, hl, hx⟩ := h
  match xs, hl with
  | [x, y, z], _ => exact ⟨p, x, y, z, rfl, hp, hx 0 x a rfl rfl, hx 1 y b rfl rfl, hx 2 z c rfl rfl⟩
theorem len4 {α : Type} {r : List α} (h : r.length = 4) : ∃ a b c d, r = [a, b, c, d] := by
  match r, h with
  | [a, b, c, d], _ => exact ⟨a, b, c, d, rfl⟩
theorem grn {g : Int} (h : g = 0 ∨ Gr5 g) : g = 0 ∨ (3 ≤ g ∧ g ≤ 13) := by
  unfold Gr5 at h
  omega
theorem grb {g : Int} (h : g = 0 ∨ Gr5 g) : 0 ≤ g ∧ g ≤ 13 := by
  unfold Gr5 at h
  omega
/-- the rows of letters alone -/
def onesF (m : Nat) : List (List (Int × Int)) := (List.range m).map fun i => (List.range m).map fun j => (if i = j then 1 else 0, 1)
theorem w_catE {K : PySem.W.Frag} {H : Hp} {Q : VK} {a b : Addr} {x y : V} {xs ys : List V} (h1 : H a = some (.tup (x :: xs))) (h2 : H b = some (.tup (y :: ys))) (hl : xs.length + ys.length ≤ 100) (q : ∀ p H', H p = none → Same H H' → H' p = some (.tup (x :: xs ++ y :: ys)) → Q (.ref p) H') : rCatA K (.ref a) (.ref b) H Q := by
  refine ⟨a, b, _, _, rfl, rfl, SqT.of h1, SqT.of h2, Nat.le_of_lt (small1000 (by simp only [List.length_cons]; omega)), fun z => ?_, fun _ z => ?_, fun _ _ p hp => q p _ hp (same_upd hp) upd_same⟩
  · cases z
  · cases z
/-- one row told twice is the same data -/
theorem w_neRow {K : PySem.W.Frag} {H : Hp} {Q : VK} {v v' : V} {r s : List (Int × Int)} (h1 : RowV H v r) (h2 : RowV H v' s) (e : r = s) (q : Q (.bl false) H) : rNeD K v v' H Q := by
  subst e
  have l := lay_num r
  have c : PyData.canLay0 (rowD r) = true := by rw [rowD, PyData.canLay0]; exact l.1
  have d : PyData.depth (rowD r) ≤ 64 := by rw [rowD, PyData.depth]; have := l.2; omega
  refine ⟨_, _, RowV.dp h1, RowV.dp h2, shaped_of c d, shaped_of c d, ?_⟩
  rw [SeqAt.eqv_refl _ c]
  exact q
end Fm
namespace Fm
open PySem PySem.Spec PyProof.Rows L2
theorem acc_app {α : Type} {P : Hp → V → α → Prop} {H : Hp} {ys : List V} {as : List α} {i : Nat} {v : V} {a : α} (h : Acc P H ys as i) (hl : as.length = i) (hv : P H v a) : Acc P H (ys ++ [v]) (as ++ [a]) (i + 1) := by
  refine ⟨by rw [List.length_append, h.1]; rfl, fun j x b h1 h2 => ?_⟩
  by_cases e : j < i
  · rw [List.getElem?_append_left (by rw [h.1]; exact e)] at h1
    rw [List.getElem?_append_left (by omega)] at h2
    exact h.2 j x b h1 h2
  · have hj : j = i := by
      have := (List.getElem?_eq_some_iff.mp h1).1
      rw [List.length_append, h.1] at this
      simp at this
      omega
    subst hj
    rw [List.getElem?_append_right (by rw [h.1]; exact Nat.le_refl _), h.1, Nat.sub_self] at h1
    rw [List.getElem?_append_right (by omega), hl, Nat.sub_self] at h2
    cases h1
    cases h2
    exact hv
theorem acc4 {α : Type} {P : Hp → V → α → Prop} {H : Hp} {x y z w : V} {a b c d : α} (h1 : P H x a) (h2 : P H y b) (h3 : P H z c) (h4 : P H w d) : Acc P H [x, y, z, w] [a, b, c, d] 4 := ⟨rfl, fun i v e e1 e2 => by
  match i with
  | 0 => cases e1; cases e2; exact h1
  | 1 => cases e1; cases e2; exact h2
  | 2 => cases e1; cases e2; exact h3
  | 3 => cases e1; cases e2; exact h4
  | i + 4 => simp at e1⟩
/-- a tuple of two numbers and a sign -/
def Tri3 (H : Hp) (v : V) (t : (Int × Int) × (Int × Int) × Int) : Prop := ∃ p vx vy, v = .ref p ∧ H p = some (.tup [vx, vy, .int t.2.2]) ∧ NumV H vx t.1 ∧ NumV H vy t.2.1
theorem Tri3.kt {H H' : Hp} {v : V} {t : (Int × Int) × (Int × Int) × Int} (h : Tri3 H v t) (s : Kt H H') : Tri3 H' v t := by
  obtain ⟨p, vx, vy, rfl, h1, h2, h3⟩ := h
  exact ⟨p, vx, vy, rfl, s _ _ h1, h2.kt s, h3.kt s⟩
def TriL (H : Hp) (v : V) (l : List ((Int × Int) × (Int × Int) × Int)) : Prop := ∃ p xs, v = .ref p ∧ H p = some (.lst xs) ∧ Acc Tri3 H xs l l.length
theorem TriL.sm {H H' : Hp} {v : V} {l : List ((Int × Int) × (Int × Int) × Int)} (h : TriL H v l) (s : Same H H') : TriL H' v l := by
  obtain ⟨p, xs, rfl, h1, h2⟩ := h
  exact ⟨p, xs, rfl, s _ _ h1, h2.mono fun x a h => h.kt (Kt.of s)⟩
/-- a row of numbers of g, of so many signs -/
def TRow (g : Int) (k : Nat) (H : Hp) (v : V) (r : List (Int × Int)) : Prop := RowV H v r ∧ ∀ a ∈ r, TN g k a
end Fm

namespace Fm
open PySem PySem.Spec PyProof.Rows L2
/-! ### calls with keywords: all parameters are told -/
section
variable {K : PySem.W.Frag} {x qual : Str} {params : Arguments} {body : List Stmt} {scope : Scope} {dvs : List V} {kws : List (Str × V)} {f : Addr} {fd : FuncData} {ps : List Str}
theorem bnd_of (F : FunD K x qual params body scope dvs kws f fd) (n : Nat) (hd : dvs ≠ []) (hn : n = ps.length)
    (h : ∀ (T : Addr) (kV doc pm : Value) (an : Option Addr) (cdv ct : Value) (us its : List Value), us.length = n → its.length = dvs.length → ∃ k, bindArgs (PySem.W.fnOf x qual params body scope (.ref T) kV doc pm an cdv ct) ⟨us, []⟩ = seqItems? (.ref T) >>= k ∧ k (some its.toArray) = pure (ps.zip (us ++ its.drop dvs.length))) : L2.Binds K fd ps [] := by
  obtain ⟨ds, hv, hb⟩ := FunD.binds1 (ps := ps) F n dvs.length hd (by omega) h
  rw [List.drop_length] at hv
  cases hv
  exact hb
theorem kbn_of (F : FunD K x qual params body scope dvs kws f fd) {n : Nat} {ks : List Str} {g : List Value → List Value → List Value} {gV : List V → List V → List V} (hd : dvs ≠ [])
    (h : ∀ (T : Addr) (kV doc pm : Value) (an : Option Addr) (cdv ct : Value) (us ws its : List Value), us.length = n → ws.length = ks.length → its.length = dvs.length → ∃ k, bindArgs (PySem.W.fnOf x qual params body scope (.ref T) kV doc pm an cdv ct) ⟨us, ks.zip ws⟩ = seqItems? (.ref T) >>= k ∧ k (some its.toArray) = pure (ps.zip (g us ws)))
    (hrel : ∀ {vs : List V} {us : List Value} {zs : List V} {ws : List Value}, Vals vs us → Vals zs ws → Vals (gV vs zs) (g us ws)) : L2.KBn K fd ps n ks g gV := by
  obtain ⟨_, _, dV, kV, doc, pm, an, cdv, ct, _, rfl, _, _, hD, _⟩ := F.ex
  refine ⟨fun s us ws X l1 l2 => ?_, hrel⟩
  rcases hD with ⟨e, _⟩ | ⟨_, T, o, its, m, rfl, lT, oT, rT⟩
  · exact absurd e hd
  · obtain ⟨k, e1, e2⟩ := h T kV doc pm an cdv ct us ws its l1 l2 rT.length.symm
    refine L2.BindsTo.of_looks fun M => ?_
    rw [e1]
    exact L2.looks_items X lT oT (.of_pure e2)
end
def tCallNS (n m : Nat) (sp : Sp) (gV : List V → List V → List V) (E : L2.St → XK) (t tk : TA) : TE := fun σ H Q => t σ H fun vs H1 => tk σ H1 fun zs H2 => vs.length = n ∧ zs.length = m ∧ sp (gV vs zs) H2 Q (E σ)
def tCallN0 (m : Nat) (sp : Sp) (gV : List V → List V → List V) (E : XK) (tk : TA) : TE := fun σ H Q => tk σ H fun zs H2 => zs.length = m ∧ sp (gV [] zs) H2 Q E
section
variable {X : Cx} {CX : CXT} {k n : Nat} {f : Addr} {fd : FuncData} {ps ks : List Str} {sp : Sp} {x : Str} {p pos : Pos} {e : Expr} {es : List Expr} {kws : List Keyword} {t tk : TA} {g : List Value → List Value → List Value} {gV : List V → List V → List V}
theorem go_kS {pins : List (Addr × Obj)} {σ : L2.St} {H : Hp} {s : Shared} {Q : VK} {us ws : List Value} {vs zs : List V} {E1 : XK} (F : FnOk X.prog X.w X.K X.mg X.base CX k f fd ps sp) (hr : Room k X.A) (hb : L2.KBn X.K fd ps n ks g gV) (hx : L2.PassesAt CX X σ E1)
    (I : Inv X pins σ H s) (rv : Vals vs us) (rz : Vals zs ws) (l1 : vs.length = n) (l2 : zs.length = ks.length) (h : sp (gV vs zs) H Q E1) : wpAny (model X.prog X.w) X.A (call (.ref f) us (ks.zip ws)) (EP X pins σ Q) X.xe s := by
  have bt := hb.to s us ws I.kIn (rv.length.symm.trans l1) (rz.length.symm.trans l2)
  have run := F.run X.A X.stack s H ⟨us, ks.zip ws⟩ (g us ws) (gV vs zs) Q E1 hr I.env0 bt (hb.rel rv rz) h
  refine wpAny_call (codeAny_mono run fun r s' hq => ?_)
  match r, hq with
  | .error e, hq => exact hx pins H s e s' I hq
  | .ok (.ret u), hq => exact I.after hq
  | .ok .next, hq => exact False.elim hq
  | .ok .brk, hq => exact False.elim hq
  | .ok .cont, hq => exact False.elim hq
/-- f(e, .., k = v, ..), what is raised wished for at the slots -/
theorem pe_callNS {E : L2.St → XK} (F : FnOk X.prog X.w X.K X.mg X.base CX k f fd ps sp) (hr : Room k X.A) (hg : Gl X x) (hm : X.mg x = some (.ref f)) (hk : PySem.W.keepIn X.K (.ref f) = true) (hb : L2.KBn X.K fd ps n ks g gV) (hx : ∀ σ, L2.PassesAt CX X σ (E σ))
    (ha : PA X (e :: es) t) (hkw : PK X kws tk) (c1 : (backToKw pos (keywordEach kws X.env)).all (·.1.isSome) = true := by rfl) (c2 : (backToKw pos (keywordEach kws X.env)).filterMap (·.1) = ks := by rfl) (c3 : (x == ("__debug__" : Str)) = false := by decide)
    (c4 : starEach (e :: es) X.env = (false, eval e X.env) :: starEach es X.env := by rfl) (c5 : ((backTo pos (starEach (e :: es) X.env)).any (·.1) || (backToKw pos (keywordEach kws X.env)).any (·.1.isNone)) = false := by rfl) : PE X (.Call (.Name x p) (e :: es) kws pos) (tCallNS n ks.length sp gV E t tk) := by
  refine ⟨fun pins s σ H Q I h => wpAny_Call_Name_kw (ld_glob I hg hm ?_ c3)⟩
  refine PySem.W.callWith_KW (h₀ := X.base) I.ok.mod.kin hk c1 (thn (ha.run pos pins s σ H _ I h) fun us s1 ⟨vs, H1, I1, rv, q1⟩ => thn (hkw.run pos pins s1 σ H1 _ I1 q1) fun ws s2 ⟨zs, H2, I2, rz, l1, l2, q2⟩ => ⟨I2.kIn, ?_⟩) c5 c4
  rw [c2]
  exact go_kS F hr hb (hx σ) I2 rv rz l1 l2 q2
/-- f(k = v, ..): names alone -/
theorem pe_callN0 {E : XK} (F : FnOk X.prog X.w X.K X.mg X.base CX k f fd ps sp) (hr : Room k X.A) (hg : Gl X x) (hm : X.mg x = some (.ref f)) (hk : PySem.W.keepIn X.K (.ref f) = true) (hb : L2.KBn X.K fd ps 0 ks g gV) (hx : Passes CX X E) (hkw : PK X kws tk)
    (c1 : (backToKw pos (keywordEach kws X.env)).all (·.1.isSome) = true := by rfl) (c2 : (backToKw pos (keywordEach kws X.env)).filterMap (·.1) = ks := by rfl) (c3 : (x == ("__debug__" : Str)) = false := by decide)
    (c5 : (backToKw pos (keywordEach kws X.env)).any (·.1.isNone) = false := by rfl) : PE X (.Call (.Name x p) [] kws pos) (tCallN0 ks.length sp gV E tk) := by
  refine ⟨fun pins s σ H Q I h => wpAny_Call_Name_kw (ld_glob I hg hm ?_ c3)⟩
  refine PySem.W.callWith_KW0 (h₀ := X.base) I.ok.mod.kin hk c1 (thn (hkw.run pos pins s σ H _ I h) fun ws s2 ⟨zs, H2, I2, rz, l2, q2⟩ => ⟨I2.kIn, ?_⟩) c5
  rw [c2]
  exact go_kS (us := []) (vs := []) F hr hb (fun pins H s e s' I c => hx pins σ H s e s' I c) I2 .nil rz rfl l2 q2
end
end Fm
namespace Fm
open PySem PySem.Spec PyProof.Rows L2
theorem w_callN {n m : Nat} {sp : Sp} {gV : List V → List V → List V} {E : XK} {t tk : TA} {σ : L2.St} {H : Hp} {Q : VK} (h : t σ H fun vs H1 => tk σ H1 fun zs H2 => vs.length = n ∧ zs.length = m ∧ sp (gV vs zs) H2 Q E) : tCallN n m sp gV E t tk σ H Q := h
theorem w_callN0 {m : Nat} {sp : Sp} {gV : List V → List V → List V} {E : XK} {tk : TA} {σ : L2.St} {H : Hp} {Q : VK} (h : tk σ H fun zs H2 => zs.length = m ∧ sp (gV [] zs) H2 Q E) : tCallN0 m sp gV E tk σ H Q := h
/-- lists of numbers -/
theorem w_neNums {K : PySem.W.Frag} {H : Hp} {Q : VK} {p r : Addr} {xs ys : List V} {t : List (Int × Int)} (hp : H p = some (.lst xs)) (hr : H r = some (.lst ys)) (h1 : Acc NumV H xs t t.length) (h2 : Acc NumV H ys t t.length) (q : Q (.bl false) H) : rNeD K (.ref p) (.ref r) H Q := by
  have l := lay_num t
  have c : PyData.canLay0 (.list (t.map numD)) = true := by rw [PyData.canLay0]; exact l.1
  have d : PyData.depth (.list (t.map numD)) ≤ 64 := by rw [PyData.depth]; have := l.2; omega
  refine ⟨.list (t.map numD), .list (t.map numD), .lst (SqL.of hp) (dpAll_of h1.1 fun i x a e1 e2 => NumV.dp (h1.2 i x a e1 e2)), .lst (SqL.of hr) (dpAll_of h2.1 fun i x a e1 e2 => NumV.dp (h2.2 i x a e1 e2)), shaped_of c d, shaped_of c d, ?_⟩
  rw [SeqAt.eqv_refl _ c]
  exact q
theorem w_eqNums {K : PySem.W.Frag} {H : Hp} {Q : VK} {p r : Addr} {xs ys : List V} {t : List (Int × Int)} (hp : H p = some (.lst xs)) (hr : H r = some (.lst ys)) (h1 : Acc NumV H xs t t.length) (h2 : Acc NumV H ys t t.length) (q : Q (.bl true) H) : rEqD K (.ref p) (.ref r) H Q := by
  have l := lay_num t
  have c : PyData.canLay0 (.list (t.map numD)) = true := by rw [PyData.canLay0]; exact l.1
  have d : PyData.depth (.list (t.map numD)) ≤ 64 := by rw [PyData.depth]; have := l.2; omega
  refine ⟨.list (t.map numD), .list (t.map numD), .lst (SqL.of hp) (dpAll_of h1.1 fun i x a e1 e2 => NumV.dp (h1.2 i x a e1 e2)), .lst (SqL.of hr) (dpAll_of h2.1 fun i x a e1 e2 => NumV.dp (h2.2 i x a e1 e2)), shaped_of c d, shaped_of c d, ?_⟩
  rw [SeqAt.eqv_refl _ c]
  exact q
theorem acc3 {α : Type} {P : Hp → V → α → Prop} {H : Hp} {x y z : V} {a b c : α} (h1 : P H x a) (h2 : P H y b) (h3 : P H z c) : Acc P H [x, y, z] [a, b, c] 3 := ⟨rfl, fun i v e e1 e2 => by
  match i with
  | 0 => cases e1; cases e2; exact h1
  | 1 => cases e1; cases e2; exact h2
  | 2 => cases e1; cases e2; exact h3
  | i + 3 => simp at e1⟩
/-- all of a list of numbers are numbers: the list that [is_number(..) for ..] makes -/
theorem nums_true {g : Int} {H : Hp} {xs : List V} {as : List (Int × Int)} (h : Acc NumV H xs as as.length) (hn : ∀ a ∈ as, numOk g [.int a.1, .int a.2] = true) : ∀ x ∈ xs, numOf H g x = true := fun x hx => by
  obtain ⟨i, hi, rfl⟩ := List.mem_iff_getElem.mp hx
  have hl := h.1
  obtain ⟨p, e, hp⟩ := h.2 i _ _ (List.getElem?_eq_getElem hi) (List.getElem?_eq_getElem (by omega))
  rw [e, numOf_tup hp]
  exact hn _ (List.getElem_mem _)
end Fm

namespace Fm
open PySem PySem.Spec PyProof.Rows L2 PySem.Fm6
/-! ### a hook that also tells the __init__ of classes -/
def asY (g : Addr → Option Obj) : List Addr := He.asD g 4 ++ [cStatics]
abbrev IW : Type := Option (Str × Str × Arguments × FuncBody × Scope × Addr × List Str × Addr)
def iw (K : PySem.W.Frag) (C : Addr) : IW := match K.lookup (He.ma K C "__init__") with
  | some ⟨_, _, .func fd, _⟩ => some (fd.name, fd.qualname, fd.params, fd.body, fd.scope, fd.globals, fd.closure.map (·.1), fd.builtins)
  | _ => none
abbrev AlY : Type := He.AlX × List IW
section
variable {fa : List He.Fa} {fn : List He.DefD} {ts : List He.Tab} {tf : List He.Defn} {ex : PySem.W.Frag → Bool} {cs : List Str} {vs : List IW} {w : World} {h : Heap}
theorem saysX_as {as : List Addr} (e1 : He.obsT fa fn ts (He.frT h.get? as) = He.valT fn ts w) (e2 : (ex (He.frT h.get? as) && He.tabsB h.get? tf (He.frT h.get? as)) = true) : He.SaysX fa fn ts tf ex w h (He.frT h.get? as) := by
  obtain ⟨h1, h2⟩ := He.ba e2
  have key : ∀ p ∈ tf, PySem.W.codeHdIn (He.frT h.get? as) (He.cT (He.frT h.get? as) p).1 (He.cT (He.frT h.get? as) p).2 = true ∧ ∃ o, h.get? (He.cT (He.frT h.get? as) p).2 = some o ∧ He.emptyTab o = true := fun p hp => by
    have hp2 := List.all_eq_true.mp h2 p hp
    obtain ⟨k1, k2⟩ := He.ba hp2
    refine ⟨k1, ?_⟩
    match q : h.get? (He.cT (He.frT h.get? as) p).2, k2 with
    | some o, k2 => exact ⟨o, rfl, k2⟩
    | none, k2 => cases k2
  refine ⟨e1, h1, fun p hp => (key p hp).1, fun p hp => ?_, fun p hp => ?_⟩
  · obtain ⟨_, o, q, z⟩ := key p hp
    exact He.frT_none q z
  · obtain ⟨_, o, q, z⟩ := key p hp
    rw [q, He.emptyTab_eq z]
def obsY (fa : List He.Fa) (fn : List He.DefD) (ts : List He.Tab) (tf : List He.Defn) (ex : PySem.W.Frag → Bool) (cs : List Str) (g : Addr → Option Obj) : AlY :=
  ((He.obsT fa fn ts (He.frT g (asY g)), ex (He.frT g (asY g)) && He.tabsB g tf (He.frT g (asY g))), cs.map fun c => iw (He.frT g (asY g)) (He.ga (He.frT g (asY g)) c))
structure SaysY (fa : List He.Fa) (fn : List He.DefD) (ts : List He.Tab) (tf : List He.Defn) (ex : PySem.W.Frag → Bool) (cs : List Str) (vs : List IW) (w : World) (h : Heap) (K : PySem.W.Frag) : Prop where
  x : He.SaysX fa fn ts tf ex w h K
  i : (cs.map fun c => iw K (He.ga K c)) = vs
def hookY (fa : List He.Fa) (fn : List He.DefD) (ts : List He.Tab) (tf : List He.Defn) (ex : PySem.W.Frag → Bool) (cs : List Str) (vs : List IW) : PySem.W.Hook where
  α := AlY
  obs := fun s => obsY fa fn ts tf ex cs s.heap.get?
  val := fun w => (He.valX fn ts w, vs)
  says := fun w h => ∃ K : PySem.W.Frag, K.In h ∧ SaysY fa fn ts tf ex cs vs w h K
  of := fun _ _ e => ⟨_, He.frT_in, saysX_as (congrArg (fun z : AlY => z.1.1) e) (congrArg (fun z : AlY => z.1.2) e), congrArg (fun z : AlY => z.2) e⟩
  keeps := fun _ _ _ ⟨K, hK, c⟩ k => ⟨K, PySem.W.Frag.In.keeps hK k, ⟨c.x.t, c.x.more, c.x.hd, c.x.out, fun p hp => k _ _ (c.x.empty p hp)⟩, c.i⟩
theorem obsY_eq {g : Addr → Option Obj} {s : Shared} (e : ∀ a, g a = s.heap.get? a) : obsY fa fn ts tf ex cs g = (hookY fa fn ts tf ex cs vs).obs s := by
  rw [funext e]
  rfl
end
/-! ### what the written part says of a class right over a built-in one -/
def tysB : List Value → List String → Bool
  | [], [] => true
  | .type a :: r, b :: s => decide (a = b) && tysB r s
  | _, _ => false
theorem tysB_ok : ∀ {bm : List Value} {ns : List String}, tysB bm ns = true → bm = ns.map .type
  | [], [], _ => rfl
  | .type a :: r, b :: s, h => by
    obtain ⟨h1, h2⟩ := He.ba (show (decide (a = b) && tysB r s) = true from h)
    rw [of_decide_eq_true h1, tysB_ok h2]
    rfl
  | [], _ :: _, h => by cases h
  | v :: r, [], h => by cases v <;> cases h
  | v :: r, b :: s, h => by
    cases v with
    | type a =>
      obtain ⟨h1, h2⟩ := He.ba (show (decide (a = b) && tysB r s) = true from h)
      rw [of_decide_eq_true h1, tysB_ok h2]
      rfl
    | _ => cases h
def clB (K : PySem.W.Frag) (C : Addr) (newId : String) (ns : List String) : Bool := match K.lookup C with
  | some ⟨.type t, _, .cls cd, sl⟩ => decide (t = "type") && (match cd.mro, sl.toList with
    | .ref C' :: bm, [_, _, _, _, some (.builtin n), _] => decide (C' = C) && (decide (n = newId) && (!cd.hasDel && (cd.hasDict && tysB bm ns)))
    | _, _ => false)
  | _ => false
theorem clB_ok {K : PySem.W.Frag} {C : Addr} {newId : String} {ns : List String} (h : clB K C newId ns = true) : ∃ nm q N bs sn sub ab col dd k0 k1 k2 k3 k5, K.lookup C = some (excClassObj nm q C N bs (ns.map .type) true sn sub ab col dd k0 k1 k2 k3 k5 newId) := by
  unfold clB at h
  split at h
  · rename_i t dd cd sl ho
    obtain ⟨h1, h⟩ := He.ba h
    split at h
    · rename_i C' bm k0 k1 k2 k3 n k5 hm hs
      obtain ⟨h2, h⟩ := He.ba h
      obtain ⟨h3, h⟩ := He.ba h
      obtain ⟨h4, h⟩ := He.ba h
      obtain ⟨h5, h6⟩ := He.ba h
      obtain ⟨nm, bs, mro, N, qn, hd, sn, sub, ab, col, del⟩ := cd
      dsimp only at hm h4 h5
      have e1 := of_decide_eq_true h1
      have e2 := of_decide_eq_true h2
      have e3 := of_decide_eq_true h3
      have e4 : del = false := by
        cases del
        · rfl
        · cases h4
      have e6 := tysB_ok h6
      have hsl : sl = #[k0, k1, k2, k3, some (.builtin n), k5] := by
        obtain ⟨l⟩ := sl
        exact congrArg Array.mk hs
      subst e1 e2 e3 e4 h5 e6 hm hsl
      exact ⟨nm, qn, N, bs, sn, sub, ab, col, dd, k0, k1, k2, k3, k5, ho⟩
    · cases h
  · cases h
def inB (K : PySem.W.Frag) (C : Addr) (fl : Str) : Bool := match K.lookup (He.ma K C "__init__") with
  | some ⟨_, _, .func fd, _⟩ => (match fd.defaults with
    | .none => true
    | _ => false) && (PySem.W.codeIn K fd.code fd.qualname && ((match fd.code with
    | .ref c => (match K.lookup c with
      | some ⟨_, _, .fields vs, _⟩ => (match vs.toList with
        | _ :: _ :: .str n _ :: _ => fl == n
        | _ => false)
      | _ => false)
    | _ => false) && (match fd.closure with
    | [(_, cc)] => (match K.lookup cc with
      | some ⟨_, _, .cell (some (.ref C')), _⟩ => decide (C' = C)
      | _ => false)
    | _ => false)))
  | _ => false
theorem inB_ok {K : PySem.W.Frag} {C : Addr} {fl : Str} (h : inB K C fl = true) : ∃ oF oD fd oS, K.lookup (He.ma K C "__init__") = some ⟨oF, oD, .func fd, oS⟩ ∧ PySem.W.codeIn K fd.code fd.qualname = true ∧ (∃ cda oc vs n tf, fd.code = .ref cda ∧ K.lookup cda = some oc ∧ oc.data = .fields vs ∧ vs[2]? = some (.str n tf) ∧ (fl == n) = true) ∧
    (∃ nm cc cl cld csl, fd.closure = [(nm, cc)] ∧ K.lookup cc = some ⟨cl, cld, .cell (some (.ref C)), csl⟩) ∧ fd.defaults = .none := by
  unfold inB at h
  split at h
  · rename_i oF oD fd oS ho
    obtain ⟨h0, h⟩ := He.ba h
    obtain ⟨h1, h⟩ := He.ba h
    obtain ⟨h2, h3⟩ := He.ba h
    refine ⟨oF, oD, fd, oS, ho, h1, ?_, ?_, ?_⟩
    · split at h2
      · rename_i c hc
        split at h2
        · rename_i oc od vs sl hco
          split at h2
          · rename_i a b n t r hv
            refine ⟨c, _, vs, n, t, hc, hco, rfl, ?_, h2⟩
            rw [← Array.getElem?_toList, hv]
            rfl
          · cases h2
        · cases h2
      · cases h2
    · split at h3
      · rename_i nm cc hc
        split at h3
        · rename_i cl cld C' csl hcc
          have e := of_decide_eq_true h3
          subst e
          exact ⟨nm, cc, cl, cld, csl, hc, hcc⟩
        · cases h3
      · cases h3
    · split at h0
      · assumption
      · cases h0
  · cases h
def ovB (K : PySem.W.Frag) (C : Addr) (fl : Str) (newId : String) (ns : List String) (fld : Str) : Bool :=
  He.eqO (PySem.W.findIn K (.ref C) "__init__") (some (some (.ref (He.ma K C "__init__")))) && (decide (PySem.W.typeIn K (.ref (He.ma K C "__init__")) = some (.type "function")) && (He.eqO (PySem.W.findIn K (.ref C) "__setattr__") (some (some (.builtin "object.__setattr__"))) &&
  (decide (PySem.W.subIn K (.ref C) (.type "BaseException") = some true) && (decide (PySem.W.typeIn K (.ref C) = some (.type "type")) && (PySem.W.keepIn K (.ref C) && (He.eqO (PySem.W.nsIn K cStatics "thirdparty.any") (some none) && (He.eqO (PySem.W.findIn K (.ref C) fld) (some none) &&
  (clB K C newId ns && inB K C fl))))))))
/-- OverNought, from what the written part says -/
theorem over_of {P : Program} {w : World} {K : PySem.W.Frag} {mg : Str → Option Value} {base : Heap} {q txt : Str} {prm : Arguments} {scp : Scope} {ar : Arg} {p0 p1 p2 p3 p4 p5 q0 q1 q2 q3 : Pos} {j : Nat}
    (hb : ovB K (He.ga K "OverNought") P.main.file "ZeroDivisionError.__new__" ["ZeroDivisionError", "ArithmeticError", "Exception", "BaseException", "object"] "top" = true)
    (hi : iw K (He.ga K "OverNought") = some (("__init__" : Str), q, prm, FuncBody.stmts (iBody txt "self" "top" "top" p0 p1 p2 p3 p4 p5 q0 q1 q2 q3 j), scp, mainGlobals, ([("__class__" : Str)] : List Str), builtinsNs))
    (hg : mg "OverNought" = some (.ref (He.ga K "OverNought"))) (hg2 : mg "super" = none) (htop : (P.main.scope.names.lookup ("super" : Str)).isSome = false)
    (hp : (prm.posonlyargs ++ prm.args).head? = some ar) (har : ar.arg = "self")
    (hks : scp.names.lookup ("super" : Str) = some .globalImplicit) (hkc : scp.names.lookup ("__class__" : Str) = some .free) (hka : scp.names.lookup ("self" : Str) = some .local) (hkp : scp.names.lookup ("top" : Str) = some .local) (hk : scp.kind = .function)
    (hnc : ∀ x ∈ scp.names, x.2 ≠ .cell) (hgen : scp.isGenerator = false) (hcor : scp.isCoroutine = false)
    (hbnd : ∀ (q : Str) (cl : List (Str × Addr)) (kd doc pm : Value) (an : Option Addr) (co ct : Value) (us : List Value), us.length = 2 → bindArgs ⟨"__init__", q, prm, .stmts (iBody txt "self" "top" "top" p0 p1 p2 p3 p4 p5 q0 q1 q2 q3 j), scp, mainGlobals, cl, .none, kd, doc, pm, an, co, ct, builtinsNs⟩ ⟨us, []⟩ = pure (([("self" : Str), ("top" : Str)] : List Str).zip us))
    (he : ∀ (q : Str) (cl : List (Str × Addr)) (d kd doc pm : Value) (an : Option Addr) (co ct : Value) (L f : Addr), eval (.Call (.Attribute (.Call (.Name "super" p0) [] [] p1) "__init__" p2) [.Constant (.str txt) j p5] [] p3) (callEnv ⟨"__init__", q, prm, .stmts (iBody txt "self" "top" "top" p0 p1 p2 p3 p4 p5 q0 q1 q2 q3 j), scp, mainGlobals, cl, d, kd, doc, pm, an, co, ct, builtinsNs⟩ L f) = (do
      let ov ← attributeBase (.Call (.Name "super" p0) [] [] p1) "__init__" (callEnv ⟨"__init__", q, prm, .stmts (iBody txt "self" "top" "top" p0 p1 p2 p3 p4 p5 q0 q1 q2 q3 j), scp, mainGlobals, cl, d, kd, doc, pm, an, co, ct, builtinsNs⟩ L f) (eval (.Call (.Name "super" p0) [] [] p1) (callEnv ⟨"__init__", q, prm, .stmts (iBody txt "self" "top" "top" p0 p1 p2 p3 p4 p5 q0 q1 q2 q3 j), scp, mainGlobals, cl, d, kd, doc, pm, an, co, ct, builtinsNs⟩ L f))
      standAt p2.atName
      let (z, first) ← holding [ov] (getMethod ov "__init__" (do return (← importBound (.Call (.Name "super" p0) [] [] p1) (callEnv ⟨"__init__", q, prm, .stmts (iBody txt "self" "top" "top" p0 p1 p2 p3 p4 p5 q0 q1 q2 q3 j), scp, mainGlobals, cl, d, kd, doc, pm, an, co, ct, builtinsNs⟩ L f)).getD true))
      callWith p3 z first (backTo p3 (starEach [.Constant (.str txt) j p5] (callEnv ⟨"__init__", q, prm, .stmts (iBody txt "self" "top" "top" p0 p1 p2 p3 p4 p5 q0 q1 q2 q3 j), scp, mainGlobals, cl, d, kd, doc, pm, an, co, ct, builtinsNs⟩ L f))) [])) :
    ∃ fd, OverC P w K mg base (He.ma K (He.ga K "OverNought") "__init__") fd := by
  unfold ovB at hb
  obtain ⟨b1, hb⟩ := He.ba hb
  obtain ⟨b2, hb⟩ := He.ba hb
  obtain ⟨b3, hb⟩ := He.ba hb
  obtain ⟨b4, hb⟩ := He.ba hb
  obtain ⟨b5, hb⟩ := He.ba hb
  obtain ⟨b6, hb⟩ := He.ba hb
  obtain ⟨b7, hb⟩ := He.ba hb
  obtain ⟨b8, hb⟩ := He.ba hb
  obtain ⟨b9, b10⟩ := He.ba hb
  obtain ⟨oF, oD, fd, oS, ho, hcd, ⟨cda, oc, vs, n, tf, hco, hcc, hoc, hvs, hfile⟩, ⟨nm, cc, cl, cld, csl, hclo, hcell⟩, hdn⟩ := inB_ok b10
  unfold iw at hi
  rw [ho] at hi
  obtain ⟨fnm, fq, fpr, fbd, fsc, fgl, fcl, fd1, fd2, fd3, fd4, fd5, fd6, fd7, fd8⟩ := fd
  dsimp only at hi hco hclo hcd hdn
  injection hi with hi
  injection hi with i1 hi
  injection hi with i2 hi
  injection hi with i3 hi
  injection hi with i4 hi
  injection hi with i5 hi
  injection hi with i6 hi
  injection hi with i7 i8
  subst i1 i2 i3 i4 i5 i6 i8 hclo hdn
  have e : nm = "__class__" := by
    injection i7
  subst e
  have T : OexB K (He.ga K "OverNought") "ZeroDivisionError.__new__" [.type "ZeroDivisionError", .type "ArithmeticError", .type "Exception", .type "BaseException", .type "object"] := ⟨clB_ok b9, He.eqO_ok b3, of_decide_eq_true b4, of_decide_eq_true b5, b6⟩
  have F1 : FnOk P w K mg base C8.CX0 1 (He.ma K (He.ga K "OverNought") "__init__") _ ["self", "top"] (spInit (He.ga K "OverNought") "top") := fn_sup (k := 0) PySem.F.excBase_ZeroDivisionError supZ rfl passZ T (He.eqO_ok b7) (He.eqO_ok b8) ho rfl hp har hco hcd hcc hoc hvs hfile htop hcell rfl rfl rfl hg2 hks hkc hka hkp hk hnc hgen hcor (by decide) (by decide) (by decide)
    (fun L => by
      show (fsc.kind == .module && _) = false
      rw [hk]
      rfl) (fun L => rfl) (fun L => rfl) (fun L => he _ _ _ _ _ _ _ _ _ L _)
  exact ⟨_, ⟨T, He.eqO_ok b1, of_decide_eq_true b2, F1, L2.Binds.all fun us hl => hbnd _ _ _ _ _ _ _ _ us hl, hg⟩⟩
end Fm

namespace Fm
open PySem PySem.Spec PyProof.Rows L2
def topS (i : Nat) : Stmt := PySem.Challenge.pw_fewmirrors_k02_numbers_reckoned.main.body.getD i (.Pass ⟨0, 0, 0, 0⟩)
local macro_rules | `(tactic| walk_at "s1") => `(tactic| first
  | with_reducible refine w_seq ?_ | with_reducible refine w_asg ?_ | with_reducible refine w_ret ?_ | with_reducible refine w_drop ?_ | with_reducible refine w_ifs ?_ | with_reducible refine w_next ?_
  | with_reducible refine w_op ?_ | with_reducible refine w_un ?_ | with_reducible refine w_c ?_ | ((with_reducible refine' w_var ?h ?_); (case h => exact rfl)) | with_reducible refine w_name ?_ | with_reducible refine w_sub ?_
  | with_reducible refine w_test ?_ | with_reducible refine w_B ?_ | with_reducible refine w_exb ?_ | with_reducible refine w_and ?_ | with_reducible refine w_or ?_ | with_reducible refine w_not ?_
  | with_reducible refine w_andV ?_ | with_reducible refine w_orV ?_ | with_reducible refine w_notV ?_ | with_reducible refine w_if ?_
  | with_reducible refine w_I0 ?_ | with_reducible refine w_U ?_ | with_reducible refine w_eqI ?_ | with_reducible refine w_neI ?_
  | with_reducible refine w_nil ?_ | with_reducible refine w_cons ?_ | with_reducible refine w_tup ?_ | with_reducible refine w_lst ?_ | with_reducible refine w_cb ?_ | with_reducible refine w_call ?_
  | ((with_reducible refine' w_ixL ?h ?e ?_); (case h => assumption); (case e => exact rfl)) | ((with_reducible refine' w_ixT ?h ?e ?_); (case h => assumption); (case e => exact rfl))
  | with_reducible refine w_par ?_ | with_reducible refine w_ex2 ?_ | with_reducible refine w_t ?_ | with_reducible refine w_f ?_ | with_reducible refine w_for ?_ | with_reducible refine w_sl ?_ | with_reducible refine w_part ?_ | with_reducible refine w_nopart ?_ | with_reducible refine w_exi ?_ | with_reducible refine w_chain ?_ | with_reducible refine w_rng2 ?_ | with_reducible refine w_bm ?_ | with_reducible refine w_revL ?_ | with_reducible refine w_js ?_ | with_reducible refine w_js0 ?_ | with_reducible refine w_fmt ?_ | with_reducible refine w_lc ?_ | with_reducible refine w_yes ?_ | with_reducible refine w_zipA ?_ | with_reducible refine w_itup ?_ | with_reducible refine w_ilist ?_ | with_reducible refine w_gcons ?_ | with_reducible refine w_gnil ?_
  | ((with_reducible refine' w_gtup ?h ?e ?_); (case h => assumption); (case e => exact rfl)) | ((with_reducible refine' w_glst ?h ?e ?_); (case h => assumption); (case e => exact rfl)) | with_reducible refine w_rng1 ?_ | with_reducible refine w_e1 ?_ | with_reducible refine w_e2 ?_ | with_reducible refine w_bits ?_ | with_reducible refine w_step2 ?_ | with_reducible refine w_par3 ?_ | with_reducible refine w_ex3 ?_)
local macro_rules | `(tactic| walk_at "go") => `(tactic| repeat (walk_at "s1"))
local macro_rules | `(tactic| walk_at "tr") => `(tactic| repeat (first | assumption | (refine TB.kd (Kd.of (by assumption)) ?_) | (refine TB.kd (by assumption) ?_)))


abbrev s_is_whole : Stmt := topS 21
theorem sc_is_whole : FnScope ["thing"] ["thing"] (defScope s_is_whole) := ⟨rfl, rfl, rfl, by decide +kernel, rfl, by decide +kernel, by decide +kernel⟩

abbrev s_common_divisor : Stmt := topS 22
theorem sc_common_divisor : FnScope ["a", "b"] ["a", "b"] (defScope s_common_divisor) := ⟨rfl, rfl, rfl, by decide +kernel, rfl, by decide +kernel, by decide +kernel⟩

abbrev s_is_nought_on : Stmt := topS 27
theorem sc_is_nought_on : FnScope ["ground", "whole"] ["ground", "whole"] (defScope s_is_nought_on) := ⟨rfl, rfl, rfl, by decide +kernel, rfl, by decide +kernel, by decide +kernel⟩

abbrev s_wheel_back : Stmt := topS 29
theorem sc_wheel_back : FnScope ["wheel", "whole", "found"] ["wheel", "whole"] (defScope s_wheel_back) := ⟨rfl, rfl, rfl, by decide +kernel, rfl, by decide +kernel, by decide +kernel⟩

abbrev s__law_shared : Stmt := topS 36
theorem sc__law_shared : FnScope ["_law_one", "_law_other"] ["_law_one", "_law_other"] (defScope s__law_shared) := ⟨rfl, rfl, rfl, by decide +kernel, rfl, by decide +kernel, by decide +kernel⟩

abbrev s__law_is_whole : Stmt := topS 38
theorem sc__law_is_whole : FnScope ["_law_thing"] ["_law_thing"] (defScope s__law_is_whole) := ⟨rfl, rfl, rfl, by decide +kernel, rfl, by decide +kernel, by decide +kernel⟩

abbrev s__law_bag : Stmt := topS 43
theorem sc__law_bag : FnScope ["_law_script", "_law_at", "_law_cell", "_law_great", "_law_primes", "_law_mixed"] ["_law_script", "_law_at"] (defScope s__law_bag) := ⟨rfl, rfl, rfl, by decide +kernel, rfl, by decide +kernel, by decide +kernel⟩

abbrev s__law_take : Stmt := topS 45
theorem sc__law_take : FnScope ["_law_bag_here", "_law_many", "_law_digit"] ["_law_bag_here", "_law_many"] (defScope s__law_take) := ⟨rfl, rfl, rfl, by decide +kernel, rfl, by decide +kernel, by decide +kernel⟩

abbrev s_is_ground : Stmt := topS 25
theorem sc_is_ground : FnScope ["thing"] ["thing"] (defScope s_is_ground) := ⟨rfl, rfl, rfl, by decide +kernel, rfl, by decide +kernel, by decide +kernel⟩

abbrev s_lowest : Stmt := topS 28
theorem sc_lowest : FnScope ["ground", "top", "bottom", "shared"] ["ground", "top", "bottom"] (defScope s_lowest) := ⟨rfl, rfl, rfl, by decide +kernel, rfl, by decide +kernel, by decide +kernel⟩

abbrev s__law_low : Stmt := topS 35
theorem sc__law_low : FnScope ["_law_g", "_law_up", "_law_down", "_law_one", "_law_common"] ["_law_g", "_law_up", "_law_down"] (defScope s__law_low) := ⟨rfl, rfl, rfl, by decide +kernel, rfl, by decide +kernel, by decide +kernel⟩

abbrev s__law_is_number : Stmt := topS 37
theorem sc__law_is_number : FnScope ["_law_g", "_law_thing", "_law_one"] ["_law_g", "_law_thing"] (defScope s__law_is_number) := ⟨rfl, rfl, rfl, by decide +kernel, rfl, by decide +kernel, by decide +kernel⟩

abbrev s__law_ground : Stmt := topS 44
theorem sc__law_ground : FnScope ["_law_bag_here"] ["_law_bag_here"] (defScope s__law_ground) := ⟨rfl, rfl, rfl, by decide +kernel, rfl, by decide +kernel, by decide +kernel⟩

abbrev s__law_whole_draw : Stmt := topS 46
theorem sc__law_whole_draw : FnScope ["_law_bag_here", "_law_sign", "_law_way", "_law_found", "_law_turn"] ["_law_bag_here"] (defScope s__law_whole_draw) := ⟨rfl, rfl, rfl, by decide +kernel, rfl, by decide +kernel, by decide +kernel⟩

abbrev s__law_odd : Stmt := topS 48
theorem sc__law_odd : FnScope ["_law_bag_here", "_law_some"] ["_law_bag_here"] (defScope s__law_odd) := ⟨rfl, rfl, rfl, by decide +kernel, rfl, by decide +kernel, by decide +kernel⟩

abbrev s__law_long_pair : Stmt := topS 53
theorem sc__law_long_pair : FnScope ["_law_bag_here", "_law_rows", "_law_one", "_law_other", "_law_turn", "_law_rest", "_law_common"] ["_law_bag_here", "_law_rows"] (defScope s__law_long_pair) := ⟨rfl, rfl, rfl, by decide +kernel, rfl, by decide +kernel, by decide +kernel⟩

abbrev s_number : Stmt := topS 26
theorem sc_number : FnScope ["ground", "top", "bottom"] ["ground", "top", "bottom"] (defScope s_number) := ⟨rfl, rfl, rfl, by decide +kernel, rfl, by decide +kernel, by decide +kernel⟩

abbrev s_plus : Stmt := topS 30
theorem sc_plus : FnScope ["ground", "x", "y"] ["ground", "x", "y"] (defScope s_plus) := ⟨rfl, rfl, rfl, by decide +kernel, rfl, by decide +kernel, by decide +kernel⟩

abbrev s_less : Stmt := topS 31
theorem sc_less : FnScope ["ground", "x", "y"] ["ground", "x", "y"] (defScope s_less) := ⟨rfl, rfl, rfl, by decide +kernel, rfl, by decide +kernel, by decide +kernel⟩

abbrev s_times : Stmt := topS 32
theorem sc_times : FnScope ["ground", "x", "y"] ["ground", "x", "y"] (defScope s_times) := ⟨rfl, rfl, rfl, by decide +kernel, rfl, by decide +kernel, by decide +kernel⟩

abbrev s_over : Stmt := topS 33
theorem sc_over : FnScope ["ground", "x", "y"] ["ground", "x", "y"] (defScope s_over) := ⟨rfl, rfl, rfl, by decide +kernel, rfl, by decide +kernel, by decide +kernel⟩

abbrev s__law_plus : Stmt := topS 39
theorem sc__law_plus : FnScope ["_law_g", "_law_x", "_law_y"] ["_law_g", "_law_x", "_law_y"] (defScope s__law_plus) := ⟨rfl, rfl, rfl, by decide +kernel, rfl, by decide +kernel, by decide +kernel⟩

abbrev s__law_minus : Stmt := topS 40
theorem sc__law_minus : FnScope ["_law_g", "_law_x"] ["_law_g", "_law_x"] (defScope s__law_minus) := ⟨rfl, rfl, rfl, by decide +kernel, rfl, by decide +kernel, by decide +kernel⟩

abbrev s__law_times : Stmt := topS 41
theorem sc__law_times : FnScope ["_law_g", "_law_x", "_law_y"] ["_law_g", "_law_x", "_law_y"] (defScope s__law_times) := ⟨rfl, rfl, rfl, by decide +kernel, rfl, by decide +kernel, by decide +kernel⟩

abbrev s__law_over : Stmt := topS 42
theorem sc__law_over : FnScope ["_law_g", "_law_x", "_law_y"] ["_law_g", "_law_x", "_law_y"] (defScope s__law_over) := ⟨rfl, rfl, rfl, by decide +kernel, rfl, by decide +kernel, by decide +kernel⟩

abbrev s__law_any_number : Stmt := topS 47
theorem sc__law_any_number : FnScope ["_law_bag_here", "_law_g", "_law_down"] ["_law_bag_here", "_law_g"] (defScope s__law_any_number) := ⟨rfl, rfl, rfl, by decide +kernel, rfl, by decide +kernel, by decide +kernel⟩

abbrev s__law_is_made : Stmt := topS 51
theorem sc__law_is_made : FnScope ["_law_g", "_law_up", "_law_down", "_law_due", "_law_told", "_law_one"] ["_law_g", "_law_up", "_law_down"] (defScope s__law_is_made) := ⟨rfl, rfl, rfl, by decide +kernel, rfl, by decide +kernel, by decide +kernel⟩

abbrev s__law_is_right : Stmt := topS 52
theorem sc__law_is_right : FnScope ["_law_g", "_law_x", "_law_y", "_law_told", "_law_one"] ["_law_g", "_law_x", "_law_y"] (defScope s__law_is_right) := ⟨rfl, rfl, rfl, by decide +kernel, rfl, by decide +kernel, by decide +kernel⟩

abbrev s_law : Stmt := topS 54
theorem sc_law : FnScope ["_law_script", "_law_k", "_law_bag_here", "_law_turn", "_law_g", "_law_x", "_law_y", "_law_down", "_law_odd_here", "_law_up"] ["_law_script"] (defScope s_law) := ⟨rfl, rfl, rfl, by decide +kernel, rfl, by decide +kernel, by decide +kernel⟩

abbrev s__law_refusal : Stmt := topS 49
theorem sc__law_refusal : FnScope ["_law_deed", "e", "_law_some", "_law_names", "_law_name", "_law_is_so"] ["_law_deed"] (defScope s__law_refusal) := ⟨rfl, rfl, rfl, by decide +kernel, rfl, by decide +kernel, by decide +kernel⟩

/-- the names that _law_refusal asks for, as the top has them -/
structure MirG (K : PySem.W.Frag) (mg : Str → Option Value) : Prop where
  g_MirrorError : mg "MirrorError" = some (.ref (He.ga K "MirrorError"))
  g_NoGround : mg "NoGround" = some (.ref (He.ga K "NoGround"))
  g_NoNumber : mg "NoNumber" = some (.ref (He.ga K "NoNumber"))
  g_NoRow : mg "NoRow" = some (.ref (He.ga K "NoRow"))
  g_NoTable : mg "NoTable" = some (.ref (He.ga K "NoTable"))
  g_NoForm : mg "NoForm" = some (.ref (He.ga K "NoForm"))
  g_NoKeeper : mg "NoKeeper" = some (.ref (He.ga K "NoKeeper"))
  g_NoWorth : mg "NoWorth" = some (.ref (He.ga K "NoWorth"))
  g_NoSeat : mg "NoSeat" = some (.ref (He.ga K "NoSeat"))
  g_NoFour : mg "NoFour" = some (.ref (He.ga K "NoFour"))
  g_NoPlace : mg "NoPlace" = some (.ref (He.ga K "NoPlace"))
  g_NoClaim : mg "NoClaim" = some (.ref (He.ga K "NoClaim"))
  g_NoText : mg "NoText" = some (.ref (He.ga K "NoText"))
  g_NoSaying : mg "NoSaying" = some (.ref (He.ga K "NoSaying"))
  g_TooMany : mg "TooMany" = some (.ref (He.ga K "TooMany"))
  g_NotKept : mg "NotKept" = some (.ref (He.ga K "NotKept"))
  g_OverNought : mg "OverNought" = some (.ref (He.ga K "OverNought"))
  g_Flat : mg "Flat" = some (.ref (He.ga K "Flat"))
  g_NoName : mg "NoName" = some (.ref (He.ga K "NoName"))
  isi : mg "isinstance" = none
  len : mg "len" = none
  ve : mg "ValueError" = none
theorem ref_rel {a : Addr} : ∀ u, RelV (V.ref a) u → u = Value.ref a := fun _ h => h
theorem ty_rel {x : String} : ∀ u, RelV (V.ty x) u → u = Value.type x := fun _ h => h
theorem refusal_gives {X : Cx} {g : Addr} {cdg : Value} {q : Str} (G : MirG X.K X.mg) : GivesN X ["_law_deed", "e", "_law_some", "_law_names", "_law_name", "_law_is_so"] "_law_refusal" (defScope s__law_refusal) g cdg (defBody s__law_refusal) "_law_deed" q (TTref X.K) := by
  intro f c s H Q tl hr act hc h
  refine ⟨_, pss_cons (ps_tryM (X := (cxOf C8.CX0 X.prog X.w X.K X.mg X.base ["_law_deed", "e", "_law_some", "_law_names", "_law_name", "_law_is_so"] "_law_refusal" (defScope s__law_refusal) g cdg X.A X.stack s H C8.E0).nox) (c := .ref (He.ga X.K "MirrorError")) (i := 1)
      (tb := fun W D σ H => ∃ Ech : XK, (∀ cls d H', Ech cls d H' → W cls d σ H') ∧ σ[0]? = some (some (.ref f)) ∧ H c = some (LamX.CodeO c q) ∧ tl Ech H (fun _ H' => D.nx σ H')) (ts := tsMir X.K 1 6)
      rfl rfl sc__law_refusal.nd rfl rfl ⟨rfl, by decide, .inl G.g_MirrorError⟩ takes0N (fun W pn xe tk _ => ?body) (fun a oe cls d pn hz hf => ?suite)
      (L2N.HdsOk.cons (ts := fun _ _ _ => tRet (tC (.str "OverNought"))) ⟨rfl, by decide, .inl G.g_OverNought⟩ (fun _ _ _ _ _ _ _ => pss_one (ps_ret pe_str)) (L2N.HdsOk.cons (ts := fun _ _ _ => tRet (tC (.str "Flat"))) ⟨rfl, by decide, .inl G.g_Flat⟩ (fun _ _ _ _ _ _ _ => pss_one (ps_ret pe_str)) (L2N.HdsOk.cons (ts := fun _ _ _ => tRet (tC (.str "NoName"))) ⟨rfl, by decide, .inl G.g_NoName⟩ (fun _ _ _ _ _ _ _ => pss_one (ps_ret pe_str)) L2N.HdsOk.nil)))) (pss_one (ps_ret pe_non)), ?read⟩
  case body =>
    refine pss_by fun D σ H' hh => ?_
    obtain ⟨Ech, hW, h1, h2, h3⟩ := hh
    exact ⟨_, pss_one (ps_expr (act W pn xe Ech _ _ tk)), hW, h1, h2, h3⟩
  case suite =>
    refine pss_by fun D σ H1 hh => ?_
    obtain ⟨C, nm, rfl, rfl, M, h1, hlen, hq⟩ := hh
    have hot : L2H.Hot1 ((cxOf C8.CX0 X.prog X.w X.K X.mg X.base ["_law_deed", "e", "_law_some", "_law_names", "_law_name", "_law_is_so"] "_law_refusal" (defScope s__law_refusal) g cdg X.A X.stack s H C8.E0).nox.suite a ((a, oe) :: pn)).A (a, oe) := ⟨rfl, by
      obtain ⟨vs, e⟩ := hf
      exact ⟨vs, e, hz.2.2 vs e⟩⟩
    refine ⟨_, (pss_cons (ps_set (i := 2) sc__law_refusal.nd rfl (.inl rfl) (pe_lst (pa_cons (pe_tup (pa_cons pe_str (pa_cons (pe_callB (r := rIsE X.K C a) (call_isE M.exc hz.zc hf) (by rfl) G.isi (by decide +kernel) (pa_cons (pv 1) (pa_cons (pe_glob (v := .ref (He.ga X.K "NoGround")) (by rfl) G.g_NoGround rfl) pa_nil))) pa_nil)))
        (pa_cons (pe_tup (pa_cons pe_str (pa_cons (pe_callB (r := rIsE X.K C a) (call_isE M.exc hz.zc hf) (by rfl) G.isi (by decide +kernel) (pa_cons (pv 1) (pa_cons (pe_glob (v := .ref (He.ga X.K "NoNumber")) (by rfl) G.g_NoNumber rfl) pa_nil))) pa_nil)))
        (pa_cons (pe_tup (pa_cons pe_str (pa_cons (pe_callB (r := rIsE X.K C a) (call_isE M.exc hz.zc hf) (by rfl) G.isi (by decide +kernel) (pa_cons (pv 1) (pa_cons (pe_glob (v := .ref (He.ga X.K "NoRow")) (by rfl) G.g_NoRow rfl) pa_nil))) pa_nil)))
        (pa_cons (pe_tup (pa_cons pe_str (pa_cons (pe_callB (r := rIsE X.K C a) (call_isE M.exc hz.zc hf) (by rfl) G.isi (by decide +kernel) (pa_cons (pv 1) (pa_cons (pe_glob (v := .ref (He.ga X.K "NoTable")) (by rfl) G.g_NoTable rfl) pa_nil))) pa_nil)))
        (pa_cons (pe_tup (pa_cons pe_str (pa_cons (pe_callB (r := rIsE X.K C a) (call_isE M.exc hz.zc hf) (by rfl) G.isi (by decide +kernel) (pa_cons (pv 1) (pa_cons (pe_glob (v := .ref (He.ga X.K "NoForm")) (by rfl) G.g_NoForm rfl) pa_nil))) pa_nil)))
        (pa_cons (pe_tup (pa_cons pe_str (pa_cons (pe_callB (r := rIsE X.K C a) (call_isE M.exc hz.zc hf) (by rfl) G.isi (by decide +kernel) (pa_cons (pv 1) (pa_cons (pe_glob (v := .ref (He.ga X.K "NoKeeper")) (by rfl) G.g_NoKeeper rfl) pa_nil))) pa_nil)))
        (pa_cons (pe_tup (pa_cons pe_str (pa_cons (pe_callB (r := rIsE X.K C a) (call_isE M.exc hz.zc hf) (by rfl) G.isi (by decide +kernel) (pa_cons (pv 1) (pa_cons (pe_glob (v := .ref (He.ga X.K "NoWorth")) (by rfl) G.g_NoWorth rfl) pa_nil))) pa_nil)))
        (pa_cons (pe_tup (pa_cons pe_str (pa_cons (pe_callB (r := rIsE X.K C a) (call_isE M.exc hz.zc hf) (by rfl) G.isi (by decide +kernel) (pa_cons (pv 1) (pa_cons (pe_glob (v := .ref (He.ga X.K "NoSeat")) (by rfl) G.g_NoSeat rfl) pa_nil))) pa_nil)))
        (pa_cons (pe_tup (pa_cons pe_str (pa_cons (pe_callB (r := rIsE X.K C a) (call_isE M.exc hz.zc hf) (by rfl) G.isi (by decide +kernel) (pa_cons (pv 1) (pa_cons (pe_glob (v := .ref (He.ga X.K "NoFour")) (by rfl) G.g_NoFour rfl) pa_nil))) pa_nil)))
        (pa_cons (pe_tup (pa_cons pe_str (pa_cons (pe_callB (r := rIsE X.K C a) (call_isE M.exc hz.zc hf) (by rfl) G.isi (by decide +kernel) (pa_cons (pv 1) (pa_cons (pe_glob (v := .ref (He.ga X.K "NoPlace")) (by rfl) G.g_NoPlace rfl) pa_nil))) pa_nil)))
        (pa_cons (pe_tup (pa_cons pe_str (pa_cons (pe_callB (r := rIsE X.K C a) (call_isE M.exc hz.zc hf) (by rfl) G.isi (by decide +kernel) (pa_cons (pv 1) (pa_cons (pe_glob (v := .ref (He.ga X.K "NoClaim")) (by rfl) G.g_NoClaim rfl) pa_nil))) pa_nil)))
        (pa_cons (pe_tup (pa_cons pe_str (pa_cons (pe_callB (r := rIsE X.K C a) (call_isE M.exc hz.zc hf) (by rfl) G.isi (by decide +kernel) (pa_cons (pv 1) (pa_cons (pe_glob (v := .ref (He.ga X.K "NoText")) (by rfl) G.g_NoText rfl) pa_nil))) pa_nil)))
        (pa_cons (pe_tup (pa_cons pe_str (pa_cons (pe_callB (r := rIsE X.K C a) (call_isE M.exc hz.zc hf) (by rfl) G.isi (by decide +kernel) (pa_cons (pv 1) (pa_cons (pe_glob (v := .ref (He.ga X.K "NoSaying")) (by rfl) G.g_NoSaying rfl) pa_nil))) pa_nil)))
        (pa_cons (pe_tup (pa_cons pe_str (pa_cons (pe_callB (r := rIsE X.K C a) (call_isE M.exc hz.zc hf) (by rfl) G.isi (by decide +kernel) (pa_cons (pv 1) (pa_cons (pe_glob (v := .ref (He.ga X.K "TooMany")) (by rfl) G.g_TooMany rfl) pa_nil))) pa_nil)))
        (pa_cons (pe_tup (pa_cons pe_str (pa_cons (pe_callB (r := rIsE X.K C a) (call_isE M.exc hz.zc hf) (by rfl) G.isi (by decide +kernel) (pa_cons (pv 1) (pa_cons (pe_glob (v := .ref (He.ga X.K "NotKept")) (by rfl) G.g_NotKept rfl) pa_nil))) pa_nil)))
        pa_nil)))))))))))))))))
      (pss_cons (ps_setLcH (i := 3) (own := [("_law_name", 4), ("_law_is_so", 5)]) (ti := tVar 2) (g := gTup X.K 2 (gCons (gName 4) (gCons (gName 5) gNil))) (tt := tB (tVar 5)) (te := tVar 4) (p := (a, oe)) hot List.mem_cons_self sc__law_refusal.nd rfl rfl (sw_true rfl rfl rfl (by decide +kernel)) (pv 2) (blkOk_by (own := [("_law_name", 4), ("_law_is_so", 5)]) (N := ["_law_deed", "e", "_law_some", "_law_names", "_law_name", "_law_is_so"]) (sc := defScope s__law_refusal) (by decide +kernel))
        (fun _ _ _ _ _ => pg_tupH (hot_blk hot) (pgs_cons (pg_name (i := 4) sc__law_refusal.nd rfl (.inl rfl)) (pgs_cons (pg_name (i := 5) sc__law_refusal.nd rfl (.inl rfl)) pgs_nil)))
        (fun _ _ _ _ _ => (pts_one (pt_val (pv 5)))) (fun _ _ _ _ _ => (pv 4)))
      (pss_cons (ps_if (PW.pt (pw_and (pt_cmpR op_eq (pe_callB call_len_seq (by rfl) G.len (by decide +kernel) (pa_cons (pv 3) pa_nil)) pe_int (nomark _)) (pw_and1 (pt_val (pe_callB (r := rIsE X.K C a) (call_isE M.exc hz.zc hf) (by rfl) G.isi (by decide +kernel) (pa_cons (pv 1) (pa_cons (pe_bltn (v := .ty "ValueError") (by rfl) G.ve (by decide +kernel) rfl) pa_nil))))))) (pss_one (ps_ret (pe_ix ix_list (pv 3) pe_int (fun _ _ => rfl)))) pss_nil) (pss_one (ps_ret pe_str))))), ?_⟩
    obtain ⟨σ0, σ1, σ2, σ3, σ4, σ5, rfl⟩ : ∃ a b c d e f, σ = [a, b, c, d, e, f] := list6 hlen
    obtain rfl : σ1 = some (.ref a) := Option.some.inj h1
    walk_at "go"
    refine ⟨.ref (He.ga X.K "NoGround"), .ref (He.ga X.K "NoGround"), _, rfl, ref_rel, M.kit _ (by decide), ?_⟩
    walk_at "go"
    refine w_new (by simp) fun t0 J0 n0 s0 i0 => ?_
    walk_at "go"
    refine ⟨.ref (He.ga X.K "NoNumber"), .ref (He.ga X.K "NoNumber"), _, rfl, ref_rel, M.kit _ (by decide), ?_⟩
    walk_at "go"
    refine w_new (by simp) fun t1 J1 n1 s1 i1 => ?_
    walk_at "go"
    refine ⟨.ref (He.ga X.K "NoRow"), .ref (He.ga X.K "NoRow"), _, rfl, ref_rel, M.kit _ (by decide), ?_⟩
    walk_at "go"
    refine w_new (by simp) fun t2 J2 n2 s2 i2 => ?_
    walk_at "go"
    refine ⟨.ref (He.ga X.K "NoTable"), .ref (He.ga X.K "NoTable"), _, rfl, ref_rel, M.kit _ (by decide), ?_⟩
    walk_at "go"
    refine w_new (by simp) fun t3 J3 n3 s3 i3 => ?_
    walk_at "go"
    refine ⟨.ref (He.ga X.K "NoForm"), .ref (He.ga X.K "NoForm"), _, rfl, ref_rel, M.kit _ (by decide), ?_⟩
    walk_at "go"
    refine w_new (by simp) fun t4 J4 n4 s4 i4 => ?_
    walk_at "go"
    refine ⟨.ref (He.ga X.K "NoKeeper"), .ref (He.ga X.K "NoKeeper"), _, rfl, ref_rel, M.kit _ (by decide), ?_⟩
    walk_at "go"
    refine w_new (by simp) fun t5 J5 n5 s5 i5 => ?_
    walk_at "go"
    refine ⟨.ref (He.ga X.K "NoWorth"), .ref (He.ga X.K "NoWorth"), _, rfl, ref_rel, M.kit _ (by decide), ?_⟩
    walk_at "go"
    refine w_new (by simp) fun t6 J6 n6 s6 i6 => ?_
    walk_at "go"
    refine ⟨.ref (He.ga X.K "NoSeat"), .ref (He.ga X.K "NoSeat"), _, rfl, ref_rel, M.kit _ (by decide), ?_⟩
    walk_at "go"
    refine w_new (by simp) fun t7 J7 n7 s7 i7 => ?_
    walk_at "go"
    refine ⟨.ref (He.ga X.K "NoFour"), .ref (He.ga X.K "NoFour"), _, rfl, ref_rel, M.kit _ (by decide), ?_⟩
    walk_at "go"
    refine w_new (by simp) fun t8 J8 n8 s8 i8 => ?_
    walk_at "go"
    refine ⟨.ref (He.ga X.K "NoPlace"), .ref (He.ga X.K "NoPlace"), _, rfl, ref_rel, M.kit _ (by decide), ?_⟩
    walk_at "go"
    refine w_new (by simp) fun t9 J9 n9 s9 i9 => ?_
    walk_at "go"
    refine ⟨.ref (He.ga X.K "NoClaim"), .ref (He.ga X.K "NoClaim"), _, rfl, ref_rel, M.kit _ (by decide), ?_⟩
    walk_at "go"
    refine w_new (by simp) fun t10 J10 n10 s10 i10 => ?_
    walk_at "go"
    refine ⟨.ref (He.ga X.K "NoText"), .ref (He.ga X.K "NoText"), _, rfl, ref_rel, M.kit _ (by decide), ?_⟩
    walk_at "go"
    refine w_new (by simp) fun t11 J11 n11 s11 i11 => ?_
    walk_at "go"
    refine ⟨.ref (He.ga X.K "NoSaying"), .ref (He.ga X.K "NoSaying"), _, rfl, ref_rel, M.kit _ (by decide), ?_⟩
    walk_at "go"
    refine w_new (by simp) fun t12 J12 n12 s12 i12 => ?_
    walk_at "go"
    refine ⟨.ref (He.ga X.K "TooMany"), .ref (He.ga X.K "TooMany"), _, rfl, ref_rel, M.kit _ (by decide), ?_⟩
    walk_at "go"
    refine w_new (by simp) fun t13 J13 n13 s13 i13 => ?_
    walk_at "go"
    refine ⟨.ref (He.ga X.K "NotKept"), .ref (He.ga X.K "NotKept"), _, rfl, ref_rel, M.kit _ (by decide), ?_⟩
    walk_at "go"
    refine w_new (by simp) fun t14 J14 n14 s14 i14 => ?_
    walk_at "go"
    refine w_new (by simp) fun L J15 nL s15 iL => ?_
    walk_at "go"
    have hts : ∀ (i : Nat) (t : V) (p : Str × Bool), ([V.ref t0, V.ref t1, V.ref t2, V.ref t3, V.ref t4, V.ref t5, V.ref t6, V.ref t7, V.ref t8, V.ref t9, V.ref t10, V.ref t11, V.ref t12, V.ref t13, V.ref t14] : List V)[i]? = some t → (mirNames.map fun x => (x, decide (x = nm)))[i]? = some p → ∃ a, t = .ref a ∧ J15 a = some (.tup [.str p.1, .bl p.2]) := by
      intro i t p e1 e2
      match i, e1, e2 with
      | 0, e1, e2 => cases e1; cases e2; exact ⟨t0, rfl, (s15 _ _ (s14 _ _ (s13 _ _ (s12 _ _ (s11 _ _ (s10 _ _ (s9 _ _ (s8 _ _ (s7 _ _ (s6 _ _ (s5 _ _ (s4 _ _ (s3 _ _ (s2 _ _ (s1 _ _ i0)))))))))))))))⟩
      | 1, e1, e2 => cases e1; cases e2; exact ⟨t1, rfl, (s15 _ _ (s14 _ _ (s13 _ _ (s12 _ _ (s11 _ _ (s10 _ _ (s9 _ _ (s8 _ _ (s7 _ _ (s6 _ _ (s5 _ _ (s4 _ _ (s3 _ _ (s2 _ _ i1))))))))))))))⟩
      | 2, e1, e2 => cases e1; cases e2; exact ⟨t2, rfl, (s15 _ _ (s14 _ _ (s13 _ _ (s12 _ _ (s11 _ _ (s10 _ _ (s9 _ _ (s8 _ _ (s7 _ _ (s6 _ _ (s5 _ _ (s4 _ _ (s3 _ _ i2)))))))))))))⟩
      | 3, e1, e2 => cases e1; cases e2; exact ⟨t3, rfl, (s15 _ _ (s14 _ _ (s13 _ _ (s12 _ _ (s11 _ _ (s10 _ _ (s9 _ _ (s8 _ _ (s7 _ _ (s6 _ _ (s5 _ _ (s4 _ _ i3))))))))))))⟩
      | 4, e1, e2 => cases e1; cases e2; exact ⟨t4, rfl, (s15 _ _ (s14 _ _ (s13 _ _ (s12 _ _ (s11 _ _ (s10 _ _ (s9 _ _ (s8 _ _ (s7 _ _ (s6 _ _ (s5 _ _ i4)))))))))))⟩
      | 5, e1, e2 => cases e1; cases e2; exact ⟨t5, rfl, (s15 _ _ (s14 _ _ (s13 _ _ (s12 _ _ (s11 _ _ (s10 _ _ (s9 _ _ (s8 _ _ (s7 _ _ (s6 _ _ i5))))))))))⟩
      | 6, e1, e2 => cases e1; cases e2; exact ⟨t6, rfl, (s15 _ _ (s14 _ _ (s13 _ _ (s12 _ _ (s11 _ _ (s10 _ _ (s9 _ _ (s8 _ _ (s7 _ _ i6)))))))))⟩
      | 7, e1, e2 => cases e1; cases e2; exact ⟨t7, rfl, (s15 _ _ (s14 _ _ (s13 _ _ (s12 _ _ (s11 _ _ (s10 _ _ (s9 _ _ (s8 _ _ i7))))))))⟩
      | 8, e1, e2 => cases e1; cases e2; exact ⟨t8, rfl, (s15 _ _ (s14 _ _ (s13 _ _ (s12 _ _ (s11 _ _ (s10 _ _ (s9 _ _ i8)))))))⟩
      | 9, e1, e2 => cases e1; cases e2; exact ⟨t9, rfl, (s15 _ _ (s14 _ _ (s13 _ _ (s12 _ _ (s11 _ _ (s10 _ _ i9))))))⟩
      | 10, e1, e2 => cases e1; cases e2; exact ⟨t10, rfl, (s15 _ _ (s14 _ _ (s13 _ _ (s12 _ _ (s11 _ _ i10)))))⟩
      | 11, e1, e2 => cases e1; cases e2; exact ⟨t11, rfl, (s15 _ _ (s14 _ _ (s13 _ _ (s12 _ _ i11))))⟩
      | 12, e1, e2 => cases e1; cases e2; exact ⟨t12, rfl, (s15 _ _ (s14 _ _ (s13 _ _ i12)))⟩
      | 13, e1, e2 => cases e1; cases e2; exact ⟨t13, rfl, (s15 _ _ (s14 _ _ i13))⟩
      | 14, e1, e2 => cases e1; cases e2; exact ⟨t14, rfl, (s15 _ _ i14)⟩
      | _ + 15, e1, _ => cases e1
    refine names_read (iS := 2) (j1 := 4) (j2 := 5) rfl iL rfl (by rw [List.length_map]; decide) hts (by decide) (by show 4 < 6; decide) (by show 5 < 6; decide) (fun _ _ => rfl) fun D' J16 nD s16 hD => ?_
    rw [mir_told M.one] at hD
    walk_at "go"
    refine ⟨D', _, rfl, .inl (SqL.of hD), ?_⟩
    walk_at "go"
    refine w_ite (fun _ => ?_) (fun z => absurd rfl z)
    walk_at "go"
    refine ⟨.ty "ValueError", .type "ValueError", _, rfl, ty_rel, M.ve, ?_⟩
    walk_at "go"
    exact hq _ ((s0.trans (s1.trans (s2.trans (s3.trans (s4.trans (s5.trans (s6.trans (s7.trans (s8.trans (s9.trans (s10.trans (s11.trans (s12.trans (s13.trans (s14.trans s15))))))))))))))).trans s16)
  case read =>
    refine ⟨_, fun cls d H' hh => ?_, rfl, hc, h⟩
    rcases hh with ⟨C, nm, rfl, rfl, M, hq⟩ | ⟨C, rfl, e1, e2, hq⟩ | ⟨C, rfl, e1, e2, e3, hq⟩
    · exact ⟨true, M.exm, fun _ a ha => ⟨C, nm, rfl, rfl, M, rfl, rfl, hq⟩, fun z => Bool.noConfusion z⟩
    · exact ⟨false, e1, fun z => Bool.noConfusion z, fun _ => ⟨true, e2, fun _ a ha => hq, fun z => Bool.noConfusion z⟩⟩
    · exact ⟨false, e1, fun z => Bool.noConfusion z, fun _ => ⟨false, e2, fun z => Bool.noConfusion z, fun _ => ⟨true, e3, fun _ a ha => hq, fun z => Bool.noConfusion z⟩⟩⟩

abbrev s__law_top_of : Stmt := topS 50
theorem sc__law_top_of : FnScope ["_law_deed", "e"] ["_law_deed"] (defScope s__law_top_of) := ⟨rfl, rfl, rfl, by decide +kernel, rfl, by decide +kernel, by decide +kernel⟩

structure TopC (K : PySem.W.Frag) (mg : Str → Option Value) : Prop where
  g : mg "OverNought" = some (.ref (He.ga K "OverNought"))
  exm : PySem.W.exmOne K (.ref (He.ga K "OverNought")) (.ref (He.ga K "OverNought")) = some true
  xf : XfC K (He.ga K "OverNought")
  hno : PySem.W.findIn K (.ref (He.ga K "OverNought")) "top" = some none
  nom : PySem.W.exmOne K (.ref (He.ga K "OverNought")) (.ref (He.ga K "MirrorError")) = some false
/-- the field of what is raised, in a tuple; () where nothing is -/
def TTtop (K : PySem.W.Frag) : (XK → Hp → VK → Prop) → Hp → VK → Prop := fun tl H Q => tl (fun cls d H' => ∃ (dd : Addr) (fs : List (Str × V)) (y : V), cls = .ref (He.ga K "OverNought") ∧ d = some dd ∧ H' dd = some (.xd fs) ∧ fs.lookup ("top" : Str) = some y ∧
  ([y] : List V).length ≤ sizeLine ∧ ∀ t, H' t = none → Q (.ref t) (upd H' t (.tup [y]))) H (fun _ H' => ([] : List V).length ≤ sizeLine ∧ ∀ t, H' t = none → Q (.ref t) (upd H' t (.tup [])))
theorem top_gives {X : Cx} {g : Addr} {cdg : Value} {q : Str} (gO : X.mg "OverNought" = some (.ref (He.ga X.K "OverNought"))) (exm : PySem.W.exmOne X.K (.ref (He.ga X.K "OverNought")) (.ref (He.ga X.K "OverNought")) = some true) (xf : XfC X.K (He.ga X.K "OverNought"))
    (hno : PySem.W.findIn X.K (.ref (He.ga X.K "OverNought")) "top" = some none) : GivesN X ["_law_deed", "e"] "_law_top_of" (defScope s__law_top_of) g cdg (defBody s__law_top_of) "_law_deed" q (TTtop X.K) := by
  intro f c s H Q tl hr act hc h
  refine ⟨_, pss_cons (ps_tryM (X := (cxOf C8.CX0 X.prog X.w X.K X.mg X.base ["_law_deed", "e"] "_law_top_of" (defScope s__law_top_of) g cdg X.A X.stack s H C8.E0).nox) (c := .ref (He.ga X.K "OverNought")) (i := 1)
      (tb := fun W D σ H => ∃ Ech : XK, (∀ cls d H', Ech cls d H' → W cls d σ H') ∧ σ[0]? = some (some (.ref f)) ∧ H c = some (LamX.CodeO c q) ∧ tl Ech H (fun _ H' => D.nx σ H'))
      rfl rfl sc__law_top_of.nd rfl rfl ⟨rfl, by decide, .inl gO⟩ takes0N (fun W pn xe tk _ => ?body) (fun a oe cls d pn hz hf => pss_one (ps_ret (pe_tup (pa_cons (pe_xf (C := He.ga X.K "OverNought") xf hno hz.zc hf (pv 1)) pa_nil))))
      L2N.HdsOk.nil) (pss_one (ps_ret (pe_tup pa_nil))), ?read⟩
  case body =>
    refine pss_by fun D σ H' hh => ?_
    obtain ⟨Ech, hW, h1, h2, h3⟩ := hh
    exact ⟨_, pss_one (ps_expr (act W pn xe Ech _ _ tk)), hW, h1, h2, h3⟩
  case read =>
    refine ⟨_, fun cls d H' hh => ?_, rfl, hc, h⟩
    obtain ⟨dd, fs, y, rfl, rfl, h1, h2, h3⟩ := hh
    exact ⟨true, exm, fun _ a ha => ⟨.ref a, rfl, rfl, rfl, dd, fs, y, rfl, h1, h2, h3⟩, fun z => Bool.noConfusion z⟩

/-- the parameters' order -/
def kq_number_0_bottom_ground_top {α : Type} : List α → List α
  | [b, g, t] => [g, t, b]
  | _ => []
theorem kq_rel {zs : List V} {ws : List Value} (r : Vals zs ws) : Vals (kq_number_0_bottom_ground_top zs) (kq_number_0_bottom_ground_top ws) := by
  rcases r with _ | ⟨r0, _ | ⟨r1, _ | ⟨r2, _ | ⟨r3, r4⟩⟩⟩⟩
  · exact .nil
  · exact .nil
  · exact .nil
  · exact .cons r1 (.cons r2 (.cons r0 .nil))
  · exact .nil
variable {P : Program} {w : World} {K : PySem.W.Frag} {mg : Str → Option Value} {base : Heap} {T : List (Addr × Str)}
def sp_is_whole (K : PySem.W.Frag) : Sp := fun vs H Q _ => ∃ (v : V), vs = [v] ∧ Th H v ∧ Q (.bl (wholeB v)) H

def sp_common_divisor (K : PySem.W.Frag) : Sp := fun vs H Q _ => ∃ (a c : Int), vs = [.int a, .int c] ∧ Q (.int (Int.gcd a c : Int)) H

/-- whether a whole number is nought on a ground -/
def nghtOn (g d : Int) : Bool := if g = 0 then decide (d = 0) else decide (d.fmod g = 0)
def sp_is_nought_on (K : PySem.W.Frag) : Sp := fun vs H Q _ => ∃ (g d : Int), vs = [.int g, .int d] ∧ (g = 0 ∨ Gr5 g) ∧ Q (.bl (nghtOn g d)) H

def sp_wheel_back (K : PySem.W.Frag) : Sp := fun vs H Q _ => ∃ (g w k : Int), vs = [.int g, .int w] ∧ 3 ≤ g ∧ 1 ≤ k ∧ k ≤ 13 ∧ (k * w).fmod g = 1 ∧ ∀ f : Int, 1 ≤ f → f ≤ 13 → (f * w).fmod g = 1 → Q (.int f) H

def sp__law_shared (K : PySem.W.Frag) : Sp := fun vs H Q _ => ∃ (a c : Int), vs = [.int a, .int c] ∧ Q (.int (Int.gcd a c : Int)) H
theorem abs_nat (a : Int) : (if a < 0 then -a else a) = ((a.natAbs : Nat) : Int) := by
  split <;> omega

def sp__law_is_whole (K : PySem.W.Frag) : Sp := fun vs H Q _ => ∃ (v : V), vs = [v] ∧ Th H v ∧ Q (.bl (wholeB v)) H

def sp__law_bag (K : PySem.W.Frag) : Sp := fun vs H Q _ => ∃ (a : Addr) (ns : List Int) (k : Int), vs = [.ref a, .int k] ∧ SqL K H a (ns.map V.int) ∧ 0 ≤ k ∧ k < 64 ∧ ∀ (p : Addr) (H' : Hp), H p = none → Same H H' → Bag H' p → Q (.ref p) H'
theorem bag_primes {i : Int} (h0 : 0 ≤ i) (h8 : i < 8) : ∃ m : Int, atI [V.int 2147483647, V.int 2147483629, V.int 2147483587, V.int 2147483579, V.int 2147483563, V.int 2147483549, V.int 2147483543, V.int 2147483497] i = some (.int m) ∧ 0 < m ∧ m ≤ 2147483647 := by
  rcases (by omega : i = 0 ∨ i = 1 ∨ i = 2 ∨ i = 3 ∨ i = 4 ∨ i = 5 ∨ i = 6 ∨ i = 7) with rfl | rfl | rfl | rfl | rfl | rfl | rfl | rfl <;> exact ⟨_, rfl, by decide, by decide⟩

def sp__law_take (K : PySem.W.Frag) : Sp := fun vs H Q _ => ∃ (b : Addr) (m : Int), vs = [.ref b, .int m] ∧ 0 < m ∧ m < 1073741824 ∧ Bag H b ∧ ∀ (H' : Hp) (d : Int), 0 ≤ d → d < m → Mv b H H' → Bag H' b → Q (.int d) H'

def sp_is_ground (K : PySem.W.Frag) : Sp := fun vs H Q _ => ∃ (v : V), vs = [v] ∧ Th H v ∧ Q (.bl (grdB v)) H

def sp_lowest (K : PySem.W.Frag) : Sp := fun vs H Q _ => ∃ (g u d : Int), vs = [.int g, .int u, .int d] ∧ ((g = 0 ∧ d ≠ 0 ∧ d.natAbs < 2 ^ 8500) ∨ (3 ≤ g ∧ u.natAbs < 2 ^ 50000 ∧ ∃ k : Int, 1 ≤ k ∧ k ≤ 13 ∧ (k * d).fmod g = 1)) ∧ ∀ (p : Addr) (H' : Hp), H p = none → Same H H' → H' p = some (.tup [.int (lowF g u d).1, .int (lowF g u d).2]) → Q (.ref p) H'

def sp__law_low (K : PySem.W.Frag) : Sp := fun vs H Q _ => ∃ (g u d : Int), vs = [.int g, .int u, .int d] ∧ 0 ≤ g ∧ g ≤ 13 ∧ d ≠ 0 ∧ d.natAbs < 2 ^ 8000 ∧ ∀ (p : Addr) (H' : Hp), H p = none → Same H H' → H' p = some (.tup [.int (lowF g u d).1, .int (lowF g u d).2]) → Q (.ref p) H'
theorem lowI_some {g u d : Int} {i : Nat} (hi : i < g.toNat) (h : ((i : Int) * d).fmod g = u.fmod g) (hn : ∀ j : Nat, j < i → ¬ ((j : Int) * d).fmod g = u.fmod g) : lowI g u d = some i := by
  unfold lowI
  rw [if_pos (by omega)]
  refine List.find?_range_eq_some.mpr ⟨decide_eq_true h, List.mem_range.mpr hi, fun j hj => ?_⟩
  rw [decide_eq_false (hn j hj)]
  rfl
theorem lowI_none {g u d : Int} (hn : ∀ j : Nat, j < g.toNat → ¬ ((j : Int) * d).fmod g = u.fmod g) : lowI g u d = none := by
  unfold lowI
  split
  · refine List.find?_range_eq_none.mpr fun j hj => ?_
    rw [decide_eq_false (hn j hj)]
    rfl
  · rfl
theorem low_sign (d : Int) : atI [V.int 1, V.int (-1)] (if decide (d < 0) = true then 1 else 0) = some (.int (if d < 0 then -1 else 1)) := by
  by_cases h : d < 0
  · rw [decide_eq_true h, if_pos h]; rfl
  · rw [decide_eq_false h, if_neg h]; rfl
theorem low_cb {u d : Int} (hd : d ≠ 0) (hz : d.natAbs < 2 ^ 8000) (i : Int) : CDivZ i ((Int.gcd u d : Int) * (if d < 0 then -1 else 1)) :=
  divZ_of (b := 8000) (lowC_ne hd) (Nat.lt_of_le_of_lt (lowC_le hd) hz) (by decide) (by decide)

def sp__law_is_number (K : PySem.W.Frag) : Sp := fun vs H Q _ => ∃ (g : Int) (v : V), vs = [.int g, v] ∧ 0 ≤ g ∧ Th H v ∧ ∀ H', Same H H' → Q (.bl (numOf H g v)) H'

def Gr (g : Int) : Prop := g = 0 ∨ g = 3 ∨ g = 5 ∨ g = 7 ∨ g = 11 ∨ g = 13
def sp__law_ground (K : PySem.W.Frag) : Sp := fun vs H Q _ => ∃ (b : Addr), vs = [.ref b] ∧ Bag H b ∧ ∀ (H' : Hp) (g : Int), Gr g → Mv b H H' → Bag H' b → Q (.int g) H'
theorem gr_three {i : Int} (h0 : 0 ≤ i) (h3 : i < 3) : ∃ m : Int, atI [V.int 7, V.int 11, V.int 13] i = some (.int m) ∧ Gr m := by
  rcases (by omega : i = 0 ∨ i = 1 ∨ i = 2) with rfl | rfl | rfl <;> exact ⟨_, rfl, by unfold Gr; decide⟩
theorem gr_eight {i m : Int} (h0 : 0 ≤ i) (h8 : i < 8) (hm : Gr m) : ∃ g : Int, atI [V.int 0, V.int 0, V.int 0, V.int 0, V.int 3, V.int 3, V.int 5, V.int m] i = some (.int g) ∧ Gr g := by
  rcases (by omega : i = 0 ∨ i = 1 ∨ i = 2 ∨ i = 3 ∨ i = 4 ∨ i = 5 ∨ i = 6 ∨ i = 7) with rfl | rfl | rfl | rfl | rfl | rfl | rfl | rfl
  · exact ⟨_, rfl, by unfold Gr; decide⟩
  · exact ⟨_, rfl, by unfold Gr; decide⟩
  · exact ⟨_, rfl, by unfold Gr; decide⟩
  · exact ⟨_, rfl, by unfold Gr; decide⟩
  · exact ⟨_, rfl, by unfold Gr; decide⟩
  · exact ⟨_, rfl, by unfold Gr; decide⟩
  · exact ⟨_, rfl, by unfold Gr; decide⟩
  · exact ⟨_, rfl, hm⟩

def sp__law_whole_draw (K : PySem.W.Frag) : Sp := fun vs H Q _ => ∃ (b : Addr), vs = [.ref b] ∧ Bag H b ∧ ∀ (H' : Hp) (n : Int), n.natAbs < 2 ^ 320 → Mv b H H' → Bag H' b → Q (.int n) H'
theorem wd_five {i : Int} (h0 : 0 ≤ i) (h5 : i < 5) : ∃ m : Int, atI [V.int 3, V.int 7, V.int 20, V.int 20, V.int 1000] i = some (.int m) ∧ 0 < m ∧ m ≤ 1000 := by
  rcases (by omega : i = 0 ∨ i = 1 ∨ i = 2 ∨ i = 3 ∨ i = 4) with rfl | rfl | rfl | rfl | rfl <;> exact ⟨_, rfl, by decide, by decide⟩
theorem wd_three {i : Int} (h0 : 0 ≤ i) (h3 : i < 3) : ∃ m : Int, atI [V.int 2, V.int 8, V.int 16] i = some (.int m) ∧ 0 < m ∧ m ≤ 16 := by
  rcases (by omega : i = 0 ∨ i = 1 ∨ i = 2) with rfl | rfl | rfl <;> exact ⟨_, rfl, by decide, by decide⟩
theorem wd_bound {s f : Int} {j : Nat} (hs : s = 1 ∨ s = -1) (h0 : 0 ≤ f) (h1 : f < 1000000 ^ j) (hj : j ≤ 16) : (s * f).natAbs < 2 ^ 320 := by
  have e : (s * f).natAbs = f.natAbs := by
    rcases hs with rfl | rfl
    · rw [Int.one_mul]
    · rw [Int.neg_mul, Int.one_mul, Int.natAbs_neg]
  rw [e]
  have h2 : f.natAbs < 1000000 ^ j := by
    have : ((f.natAbs : Nat) : Int) < ((1000000 ^ j : Nat) : Int) := by
      rw [Int.natAbs_of_nonneg h0, Int.natCast_pow]
      exact h1
    exact Int.ofNat_lt.mp this
  exact Nat.lt_of_lt_of_le h2 (Nat.le_trans (Nat.pow_le_pow_right (by decide) hj) (by decide +kernel))
theorem wd_next {f d : Int} {i : Nat} (h0 : 0 ≤ f) (h1 : f < 1000000 ^ i) (d0 : 0 ≤ d) (d1 : d < 1000000) : 0 ≤ f * 1000000 + d ∧ f * 1000000 + d < 1000000 ^ (i + 1) := by
  have e : (1000000 : Int) ^ (i + 1) = 1000000 ^ i * 1000000 := Int.pow_succ _ _
  rw [e]
  omega

def sp__law_odd (K : PySem.W.Frag) : Sp := fun vs H Q _ => ∃ (b : Addr), vs = [.ref b] ∧ Bag H b ∧ ∀ (H' : Hp) (v : V), Th H' v → (v = .int 0 ∨ grdB v = false) → Mv b H H' → Bag H' b → Q v H'

theorem lp_small2 {d : Int} {i : Nat} (h1 : 1 ≤ d) (h2 : d + 1 ≤ 2 * 1000000 ^ i) (hi : i ≤ 100) : d.natAbs < 2 ^ 2800 := by
  have h3 : ((d.natAbs : Nat) : Int) < ((2 * 1000000 ^ i : Nat) : Int) := by
    rw [Int.natAbs_of_nonneg (by omega), Int.natCast_mul, Int.natCast_pow]
    have : ((2 : Nat) : Int) * ((1000000 : Nat) : Int) ^ i = 2 * 1000000 ^ i := rfl
    rw [this]
    omega
  exact Nat.lt_of_lt_of_le (Int.ofNat_lt.mp h3) (Nat.le_trans (Nat.mul_le_mul_left 2 (Nat.pow_le_pow_right (by decide) hi)) (by decide +kernel))
theorem fib_small {u d : Int} {i : Nat} (h0 : 0 ≤ u) (h1 : 1 ≤ d) (hu : u ≤ d) (hd : d ≤ 2 ^ i) : 0 ≤ d ∧ 1 ≤ u + d ∧ d ≤ u + d ∧ u + d ≤ 2 ^ (i + 1) := by
  refine ⟨by omega, by omega, by omega, ?_⟩
  rw [Int.pow_succ]
  omega
theorem pow_small {d : Int} {i : Nat} (h1 : 1 ≤ d) (hd : d ≤ 2 ^ i) (hi : i ≤ 2799) : d.natAbs < 2 ^ 2800 := by
  have h3 : ((d.natAbs : Nat) : Int) ≤ ((2 ^ i : Nat) : Int) := by
    rw [Int.natAbs_of_nonneg (by omega), Int.natCast_pow]
    exact hd
  exact Nat.lt_of_le_of_lt (Int.ofNat_le.mp h3) (Nat.pow_lt_pow_right (by decide) (by omega))
theorem fdiv_le {u c : Int} (h : 1 ≤ u) (hc : 0 < c) : (u.fdiv c).natAbs ≤ u.natAbs := by
  rw [fdiv_pos _ hc]
  have h1 : 0 ≤ u / c := Int.ediv_nonneg (by omega) (by omega)
  have h2 : u / c ≤ u := Int.ediv_le_self _ (by omega)
  omega
def sp__law_long_pair (K : PySem.W.Frag) : Sp := fun vs H Q _ => ∃ (b : Addr) (r : Int), vs = [.ref b, .int r] ∧ 1 ≤ r ∧ r ≤ 98 ∧ Bag H b ∧ ∀ (p : Addr) (H' : Hp) (u d : Int), Mv b H H' → Bag H' b → H' p = some (.tup [.int u, .int d]) → Int.gcd u d = 1 → 1 ≤ d → 1 ≤ u → u.natAbs < 2 ^ 2800 → d.natAbs < 2 ^ 2800 → Q (.ref p) H'

theorem grd_int {v : V} (h : grdB v = true) : ∃ g : Int, v = .int g ∧ (g = 0 ∨ Gr5 g) := by
  cases hw : wholeB v with
  | false => rw [grd_whole hw] at h; cases h
  | true =>
    obtain ⟨i, rfl⟩ := whole_int hw
    refine ⟨i, rfl, ?_⟩
    unfold Gr5
    simpa [grdB] using h
theorem ngt_off {g d : Int} (h : nghtOn g d = false) : d ≠ 0 ∧ (g ≠ 0 → d.fmod g ≠ 0) := by
  unfold nghtOn at h
  split at h
  · rename_i e
    exact ⟨of_decide_eq_false h, fun z => absurd e z⟩
  · rename_i e
    have h1 := of_decide_eq_false h
    refine ⟨fun z => h1 ?_, fun _ => h1⟩
    rw [z, Int.zero_fmod]
def sp_number (K : PySem.W.Frag) : Sp := fun vs H Q E => ∃ (v : V) (u d : Int), vs = [v, .int u, .int d] ∧ Th H v ∧ u.natAbs < 2 ^ 8000 ∧ d.natAbs < 2 ^ 8000 ∧
  (grdB v = false → E (.ref (He.ga K "NoGround")) none H) ∧
  (∀ g : Int, v = .int g → (g = 0 ∨ Gr5 g) → nghtOn g d = true → ∀ (p dd : Addr) (H' : Hp), Same H H' → H' p = some (.tup [.int (lowF g u 1).1, .int (lowF g u 1).2]) → H' dd = some (.xd [("top", .ref p)]) → E (.ref (He.ga K "OverNought")) (some dd) H') ∧
  (∀ g : Int, v = .int g → (g = 0 ∨ Gr5 g) → nghtOn g d = false → ∀ (p : Addr) (H' : Hp), H p = none → Same H H' → H' p = some (.tup [.int (lowF g u d).1, .int (lowF g u d).2]) → Q (.ref p) H')

def sp_plus (K : PySem.W.Frag) : Sp := fun vs H Q _ => ∃ (g : Int) (x y : V) (a c : Int × Int) (k l : Nat), vs = [.int g, x, y] ∧ (g = 0 ∨ Gr5 g) ∧ NumV H x a ∧ NumV H y c ∧ TN g k a ∧ TN g l c ∧ 4 ≤ k ∧ 4 ≤ l ∧ k ≤ 3000 ∧ l ≤ 3000 ∧ ∀ (p : Addr) (H' : Hp), H p = none → Same H H' → H' p = some (.tup [.int (plusF g a c).1, .int (plusF g a c).2]) → Q (.ref p) H'

def sp_less (K : PySem.W.Frag) : Sp := fun vs H Q _ => ∃ (g : Int) (x y : V) (a c : Int × Int) (k l : Nat), vs = [.int g, x, y] ∧ (g = 0 ∨ Gr5 g) ∧ NumV H x a ∧ NumV H y c ∧ TN g k a ∧ TN g l c ∧ 4 ≤ k ∧ 4 ≤ l ∧ k ≤ 3000 ∧ l ≤ 3000 ∧ ∀ (p : Addr) (H' : Hp), H p = none → Same H H' → H' p = some (.tup [.int (lessF g a c).1, .int (lessF g a c).2]) → Q (.ref p) H'

def sp_times (K : PySem.W.Frag) : Sp := fun vs H Q _ => ∃ (g : Int) (x y : V) (a c : Int × Int) (k l : Nat), vs = [.int g, x, y] ∧ (g = 0 ∨ Gr5 g) ∧ NumV H x a ∧ NumV H y c ∧ TN g k a ∧ TN g l c ∧ 4 ≤ k ∧ 4 ≤ l ∧ k ≤ 3000 ∧ l ≤ 3000 ∧ ∀ (p : Addr) (H' : Hp), H p = none → Same H H' → H' p = some (.tup [.int (timesF g a c).1, .int (timesF g a c).2]) → Q (.ref p) H'
theorem low_pre {g u d : Int} {k : Nat} (hg : g = 0 ∨ Gr5 g) (hd : d ≠ 0) (h1 : g ≠ 0 → d.fmod g ≠ 0) (hu : u.natAbs < 2 ^ k) (hb : d.natAbs < 2 ^ k) (hk : k ≤ 8500) : (g = 0 ∧ d ≠ 0 ∧ d.natAbs < 2 ^ 8500) ∨ (3 ≤ g ∧ u.natAbs < 2 ^ 50000 ∧ ∃ k : Int, 1 ≤ k ∧ k ≤ 13 ∧ (k * d).fmod g = 1) := by
  rcases hg with e | h5
  · exact .inl ⟨e, hd, Nat.lt_of_lt_of_le hb (Nat.pow_le_pow_right (by decide) hk)⟩
  · have g3 : 3 ≤ g := by unfold Gr5 at h5; omega
    exact .inr ⟨g3, Nat.lt_of_lt_of_le hu (Nat.pow_le_pow_right (by decide) (by omega)), inv_of h5 (h1 (by omega))⟩
theorem TN.dn {g : Int} {k l : Nat} {a c : Int × Int} (hg : g = 0 ∨ Gr5 g) (ha : TN g k a) (hc : TN g l c) : g ≠ 0 → (a.2 * c.2).fmod g ≠ 0 := fun z => by
  have g0 := ha.gpos z
  rw [ha.one g0, hc.one g0]
  exact one_fmod (hg.resolve_left z)

def sp_over (K : PySem.W.Frag) : Sp := fun vs H Q E => ∃ (g : Int) (x y : V) (a c : Int × Int) (k l : Nat), vs = [.int g, x, y] ∧ (g = 0 ∨ Gr5 g) ∧ NumV H x a ∧ NumV H y c ∧ TN g k a ∧ TN g l c ∧ 4 ≤ k ∧ 4 ≤ l ∧ k ≤ 3000 ∧ l ≤ 3000 ∧
  (c.1 ≠ 0 → ∀ (p : Addr) (H' : Hp), H p = none → Same H H' → H' p = some (.tup [.int (ovrF g a c).1, .int (ovrF g a c).2]) → Q (.ref p) H') ∧
  (c.1 = 0 → ∀ (d : Addr) (H' : Hp), H d = none → Same H H' → H' d = some (.xd [("top", x)]) → E (.ref (He.ga K "OverNought")) (some d) H')

def sp__law_plus (K : PySem.W.Frag) : Sp := fun vs H Q _ => ∃ (g : Int) (x y : V) (a c : Int × Int), vs = [.int g, x, y] ∧ 0 ≤ g ∧ g ≤ 13 ∧ NumV H x a ∧ NumV H y c ∧ PBd a ∧ PBd c ∧ ∀ (p : Addr) (H' : Hp), H p = none → Same H H' → H' p = some (.tup [.int (plusF g a c).1, .int (plusF g a c).2]) → Q (.ref p) H'

def sp__law_minus (K : PySem.W.Frag) : Sp := fun vs H Q _ => ∃ (g : Int) (x : V) (a : Int × Int), vs = [.int g, x] ∧ 0 ≤ g ∧ g ≤ 13 ∧ NumV H x a ∧ a.2.natAbs < 2 ^ 8000 ∧ a.2 ≠ 0 ∧ ∀ (p : Addr) (H' : Hp), H p = none → Same H H' → H' p = some (.tup [.int (minusF g a).1, .int (minusF g a).2]) → Q (.ref p) H'

def sp__law_times (K : PySem.W.Frag) : Sp := fun vs H Q _ => ∃ (g : Int) (x y : V) (a c : Int × Int), vs = [.int g, x, y] ∧ 0 ≤ g ∧ g ≤ 13 ∧ NumV H x a ∧ NumV H y c ∧ PBd a ∧ PBd c ∧ ∀ (p : Addr) (H' : Hp), H p = none → Same H H' → H' p = some (.tup [.int (timesF g a c).1, .int (timesF g a c).2]) → Q (.ref p) H'

def sp__law_over (K : PySem.W.Frag) : Sp := fun vs H Q _ => ∃ (g : Int) (x y : V) (a c : Int × Int), vs = [.int g, x, y] ∧ 0 ≤ g ∧ g ≤ 13 ∧ NumV H x a ∧ NumV H y c ∧ PBd a ∧ PBd c ∧ c.1 ≠ 0 ∧ ∀ (p : Addr) (H' : Hp), H p = none → Same H H' → H' p = some (.tup [.int (ovrF g a c).1, .int (ovrF g a c).2]) → Q (.ref p) H'

def sp__law_any_number (K : PySem.W.Frag) : Sp := fun vs H Q _ => ∃ (b : Addr) (g : Int), vs = [.ref b, .int g] ∧ Gr g ∧ Bag H b ∧ ∀ (H' : Hp) (v : V) (a : Int × Int), NumV H' v a → TN g 320 a → Mv b H H' → Bag H' b → Q v H'
theorem Gr.two {g : Int} (h : Gr g) : g = 0 ∨ Gr5 g := by
  unfold Gr at h
  unfold Gr5
  omega
theorem Gr.bd {g : Int} (h : Gr g) : 0 ≤ g ∧ g ≤ 13 := by
  unfold Gr at h
  omega

theorem sz1 {y : V} : ([y] : List V).length ≤ sizeLine := Nat.le_of_lt (small1000 (by simp))
theorem no_grd {g : Int} (hg : g = 0 ∨ Gr5 g) (z : grdB (.int g) = false) : False := by
  unfold Gr5 at hg
  rcases hg with rfl | rfl | rfl | rfl | rfl | rfl <;> cases z
theorem ngt_no {g g' d : Int} {b : Bool} (h : nghtOn g d = b) (e : V.int g = V.int g') (z : nghtOn g' d = !b) : False := by
  cases e
  rw [h] at z
  cases b <;> cases z
theorem grd_of {g : Int} (h : g = 0 ∨ Gr5 g) : grdB (.int g) = true := by
  unfold Gr5 at h
  rcases h with rfl | rfl | rfl | rfl | rfl | rfl <;> rfl
theorem ngt_one {g : Int} (h : g = 0 ∨ Gr5 g) : nghtOn g 1 = false := by
  unfold Gr5 at h
  rcases h with rfl | rfl | rfl | rfl | rfl | rfl <;> rfl
theorem num_pre {K : PySem.W.Frag} {g u d : Int} {H : Hp} {Q : VK} {E : XK} (hg : g = 0 ∨ Gr5 g) (hu : u.natAbs < 2 ^ 8000) (hd : d.natAbs < 2 ^ 8000) (hn : nghtOn g d = false) (q : ∀ (p : Addr) (H' : Hp), H p = none → Same H H' → H' p = some (.tup [.int (lowF g u d).1, .int (lowF g u d).2]) → Q (.ref p) H') : sp_number K [.int g, .int u, .int d] H Q E := by
  refine ⟨.int g, u, d, rfl, .inl rfl, hu, hd, fun z => ?_, fun g' e h5 hn' => ?_, fun g' e h5 hn' p H' h1 h2 h3 => ?_⟩
  · exfalso
    unfold Gr5 at hg
    rcases hg with rfl | rfl | rfl | rfl | rfl | rfl <;> cases z
  · cases e
    rw [hn] at hn'
    cases hn'
  · cases e
    exact q p H' h1 h2 h3
def sp__law_is_made (K : PySem.W.Frag) (T : List (Addr × Str)) : Sp := fun vs H Q _ => ∃ (g u d : Int), vs = [.int g, .int u, .int d] ∧ (g = 0 ∨ Gr5 g) ∧ u.natAbs < 2 ^ 3000 ∧ d.natAbs < 2 ^ 3000 ∧ LamX.Tabs T H ∧ ∀ H', Sx T H H' → Q (.bl true) H'

def sp__law_is_right (K : PySem.W.Frag) (T : List (Addr × Str)) : Sp := fun vs H Q _ => ∃ (g : Int) (x y : V) (a c : Int × Int), vs = [.int g, x, y] ∧ (g = 0 ∨ Gr5 g) ∧ NumV H x a ∧ NumV H y c ∧ TN g 2900 a ∧ TN g 2900 c ∧ LamX.Tabs T H ∧ ∀ H', Sx T H H' → Q (.bl true) H'

theorem sql_ext {K : PySem.W.Frag} {T : List (Addr × Str)} {H H' : Hp} {a : Addr} {xs : List V} (h : SqL K H a xs) (s : Sx T H H') : SqL K H' a xs := by
  rcases h with (h | ⟨o, h⟩) | h
  · exact .inl (.inl (s.lst h))
  · exact .inl (.inr ⟨o, s.1 _ _ h fun _ z => by cases z⟩)
  · exact .inr h
theorem Kd.sx {T : List (Addr × Str)} {H H' : Hp} (s : Sx T H H') : Kd H H' := ⟨s.kt, fun p xs h => ⟨xs, s.lst h⟩⟩
theorem w_neSame {H : Hp} {Q : VK} {x : V} (h : scal x x = true) (q : Q (.bl false) H) : rNe x x H Q := by
  refine ⟨h, ?_⟩
  show Q (.bl (!decide (x = x))) H
  rw [decide_eq_true rfl]
  exact q
theorem pick8 {g : Int} {k : Nat} {H : Hp} {d : Int} {y x m z o : V} {ay ax am : Int × Int} (h0 : 0 ≤ d) (h8 : d < 8) (hy : NumV H y ay) (ty : TN g k ay) (hx : NumV H x ax) (tx : TN g k ax) (hm : NumV H m am) (tm : TN g k am) (hz : NumV H z (0, 1)) (tz : TN g k (0, 1)) (ho : NumV H o (1, 1)) (to : TN g k (1, 1)) :
    ∃ v a, atI [y, y, y, x, m, z, o, y] d = some v ∧ NumV H v a ∧ TN g k a := by
  rcases (by omega : d = 0 ∨ d = 1 ∨ d = 2 ∨ d = 3 ∨ d = 4 ∨ d = 5 ∨ d = 6 ∨ d = 7) with rfl | rfl | rfl | rfl | rfl | rfl | rfl | rfl
  · exact ⟨y, _, rfl, hy, ty⟩
  · exact ⟨y, _, rfl, hy, ty⟩
  · exact ⟨y, _, rfl, hy, ty⟩
  · exact ⟨x, _, rfl, hx, tx⟩
  · exact ⟨m, _, rfl, hm, tm⟩
  · exact ⟨z, _, rfl, hz, tz⟩
  · exact ⟨o, _, rfl, ho, to⟩
  · exact ⟨y, _, rfl, hy, ty⟩
theorem tn_pair {u d : Int} (h : Int.gcd u d = 1) (hd : 1 ≤ d) (h1 : u.natAbs < 2 ^ 2800) (h2 : d.natAbs < 2 ^ 2800) : TN 0 2900 (u, d) :=
  ⟨.inl ⟨rfl, by show (0 : Int) < d; omega, h⟩, Nat.lt_of_lt_of_le h1 (Nat.pow_le_pow_right (by decide) (by decide)), Nat.lt_of_lt_of_le h2 (Nat.pow_le_pow_right (by decide) (by decide))⟩
def sp_law (K : PySem.W.Frag) (T : List (Addr × Str)) : Sp := fun vs H Q _ => ∃ (a : Addr) (ns : List Int), vs = [.ref a] ∧ SqL K H a (ns.map V.int) ∧ LamX.Tabs T H ∧ ∀ H', Q (.bl true) H'

theorem ok_is_whole {f : Addr} {fd : FuncData} (F : FnP K "is_whole" s_is_whole f fd) (m_isinstance : mg "isinstance" = none) (m_int : mg "int" = none) (m_bool : mg "bool" = none) :
    FnOk P w K mg base CX0 1 f fd ["thing"] (sp_is_whole K) := by
  refine F.ok sc_is_whole (fun vs H Q E h => ?_) (fun cdv A outer s H vs Q E hr h => ?_)
  · obtain ⟨v, rfl, hv, q⟩ := h
    rfl
  · obtain ⟨v, rfl, hv, q⟩ := h
    refine ⟨_, PSs.nox (pss_one (ps_ret (pe_and (pe_callB call_isi (by rfl) m_isinstance (by decide +kernel) (pa_cons (pv 0) (pa_cons (pe_bltn (v := .ty "int") (by rfl) m_int (by decide +kernel) rfl) pa_nil))) (pe_one (pe_not (pe_callB call_isi (by rfl) m_isinstance (by decide +kernel) (pa_cons (pv 0) (pa_cons (pe_bltn (v := .ty "bool") (by rfl) m_bool (by decide +kernel) rfl) pa_nil)))))))), ?_⟩
    have e := whole_eq v
    walk_at "go"
    refine isi_int hv ?_
    walk_at "go"
    refine w_iteB (fun hi => ?_) (fun hi => ?_)
    · walk_at "go"
      refine isi_bool hv ?_
      walk_at "go"
      rw [e, hi] at q
      exact q
    · rw [e, hi] at q
      exact q
theorem ok_common_divisor {f : Addr} {fd : FuncData} (F : FnP K "common_divisor" s_common_divisor f fd) (m_abs : mg "abs" = none) :
    FnOk P w K mg base CX0 1 f fd ["a", "b"] (sp_common_divisor K) := by
  refine F.ok sc_common_divisor (fun vs H Q E h => ?_) (fun cdv A outer s H vs Q E hr h => ?_)
  · obtain ⟨a, c, rfl, q⟩ := h
    rfl
  · obtain ⟨a, c, rfl, q⟩ := h
    refine ⟨_, PSs.nox (pss_cons (ps_while PassesOwn.never (pt_cmpR op_ne (pv 1) pe_int (nomark _)) (pss_one (ps_par (i := 0) (j := 1) (by rfl) sc_common_divisor.nd rfl rfl (by decide) rfl rfl (pa_cons (pv 1) (pa_cons (pe_op op_modN (pv 0) (pv 1)) pa_nil)) (by rfl))))
        (pss_one (ps_ret (pe_callB call_abs (by rfl) m_abs (by decide +kernel) (pa_cons (pv 0) pa_nil))))), ?_⟩
    walk_at "go"
    refine while_by (fun σ H' => ∃ x y : Int, σ = [some (.int x), some (.int y)] ∧ Int.gcd x y = Int.gcd a c ∧ H' = H) (fun σ _ => match σ with | [_, some (.int y)] => y.natAbs | _ => 0) ⟨a, c, rfl, rfl, rfl⟩ (fun σ H' hP => ?_) (fun σ H' Q1 Q2 f h => ?_)
    · obtain ⟨x, y, rfl, e, rfl⟩ := hP
      walk_at "go"
      refine w_iteN (fun hc => ?_) (fun hc => ?_)
      · walk_at "go"
        refine w_I hc ?_
        walk_at "go"
        exact ⟨⟨y, x.fmod y, rfl, by rw [gcd_fmod]; exact e, rfl⟩, fmod_small x hc⟩
      · walk_at "go"
        subst hc
        rw [Int.gcd_zero_right] at e
        rw [← e] at q
        have e2 : (if x < 0 then -x else x) = ((x.natAbs : Nat) : Int) := by split <;> omega
        rw [e2]
        exact q
    · obtain ⟨v, hv, e1, k, ek, qq⟩ := h
      exact ⟨v, hv, e1, k, ek, f _ _ qq⟩
theorem ok_is_nought_on {f : Addr} {fd : FuncData} (F : FnP K "is_nought_on" s_is_nought_on f fd) :
    FnOk P w K mg base CX0 1 f fd ["ground", "whole"] (sp_is_nought_on K) := by
  refine F.ok sc_is_nought_on (fun vs H Q E h => ?_) (fun cdv A outer s H vs Q E hr h => ?_)
  · obtain ⟨g, d, rfl, hg, q⟩ := h
    rfl
  · obtain ⟨g, d, rfl, hg, q⟩ := h
    refine ⟨_, PSs.nox (pss_cons (ps_if (pt_cmpR op_eq (pv 0) pe_int (nomark _)) (pss_one (ps_ret (pe_cmpR op_eq (pv 1) pe_int (nomark _)))) pss_nil)
        (pss_one (ps_ret (pe_cmpR op_eq (pe_op op_modN (pv 1) (pv 0)) pe_int (nomark _))))), ?_⟩
    walk_at "go"
    refine w_ite (fun hc => ?_) (fun hc => ?_)
    · walk_at "go"
      unfold nghtOn at q
      rw [if_pos hc] at q
      exact q
    · have g0 : 0 < g := by unfold Gr5 at hg; omega
      walk_at "go"
      refine w_I (by omega) ?_
      walk_at "go"
      unfold nghtOn at q
      rw [if_neg hc] at q
      exact q
theorem ok_wheel_back {f : Addr} {fd : FuncData} (F : FnP K "wheel_back" s_wheel_back f fd) :
    FnOk P w K mg base CX0 1 f fd ["wheel", "whole"] (sp_wheel_back K) := by
  refine F.ok sc_wheel_back (fun vs H Q E h => ?_) (fun cdv A outer s H vs Q E hr h => ?_)
  · obtain ⟨g, w, k, rfl, hg, hk1, hk, hw, q⟩ := h
    rfl
  · obtain ⟨g, w, k, rfl, hg, hk1, hk, hw, q⟩ := h
    refine ⟨_, PSs.nox (pss_cons (ps_set (i := 2) sc_wheel_back.nd rfl (.inl rfl) pe_int)
        (pss_cons (ps_while PassesOwn.never (pt_cmpR op_ne (pe_op op_modN (pe_op op_mul (pv 2) (pv 1)) (pv 0)) pe_int (nomark _)) (pss_one (ps_aug (i := 2) sc_wheel_back.nd rfl (.inl rfl) pe_int ip_add)))
        (pss_one (ps_ret (pv 2))))), ?_⟩
    walk_at "go"
    refine while_by (fun σ H' => ∃ f : Int, σ = [some (.int g), some (.int w), some (.int f)] ∧ 1 ≤ f ∧ f ≤ k ∧ H' = H) (fun σ _ => match σ with | [_, _, some (.int f)] => (k - f).toNat | _ => 0) ⟨1, rfl, by decide, hk1, rfl⟩ (fun σ H' hP => ?_) (fun σ H' Q1 Q2 f h => ?_)
    · obtain ⟨f, rfl, hf1, hf, rfl⟩ := hP
      walk_at "go"
      refine w_I (.inl ⟨by omega, by omega⟩) ?_
      walk_at "go"
      refine w_I (by omega) ?_
      walk_at "go"
      refine w_iteN (fun hc => ?_) (fun hc => ?_)
      · have hne : f ≠ k := fun e => hc (by rw [e]; exact hw)
        refine w_aug rfl ?_
        walk_at "go"
        refine ⟨f, 1, rfl, rfl, ⟨f + 1, rfl, by omega, by omega, rfl⟩, ?_⟩
        show (k - (f + 1)).toNat < (k - f).toNat
        omega
      · walk_at "go"
        exact q f hf1 (by omega) hc
    · obtain ⟨v1, h1, v2, h2, i, j, e1, e2, c1, v3, h3, i2, j2, e3, e4, c2, sc, b, eb, qq⟩ := h
      exact ⟨v1, h1, v2, h2, i, j, e1, e2, c1, v3, h3, i2, j2, e3, e4, c2, sc, b, eb, f _ _ qq⟩
theorem ok__law_shared {f : Addr} {fd : FuncData} (F : FnP K "_law_shared" s__law_shared f fd) (m_abs : mg "abs" = none) :
    FnOk P w K mg base CX0 1 f fd ["_law_one", "_law_other"] (sp__law_shared K) := by
  refine F.ok sc__law_shared (fun vs H Q E h => ?_) (fun cdv A outer s H vs Q E hr h => ?_)
  · obtain ⟨a, c, rfl, q⟩ := h
    rfl
  · obtain ⟨a, c, rfl, q⟩ := h
    refine ⟨_, PSs.nox (pss_cons (ps_par (i := 0) (j := 1) (by rfl) sc__law_shared.nd rfl rfl (by decide) rfl rfl (pa_cons (pe_callB call_abs (by rfl) m_abs (by decide +kernel) (pa_cons (pv 0) pa_nil)) (pa_cons (pe_callB call_abs (by rfl) m_abs (by decide +kernel) (pa_cons (pv 1) pa_nil)) pa_nil)) (by rfl))
        (pss_cons (ps_while PassesOwn.never (pt_cmpR op_gt (pv 1) pe_int (nomark _)) (pss_one (ps_par (i := 0) (j := 1) (by rfl) sc__law_shared.nd rfl rfl (by decide) rfl rfl (pa_cons (pv 1) (pa_cons (pe_op op_modN (pv 0) (pv 1)) pa_nil)) (by rfl))))
        (pss_one (ps_ret (pv 0))))), ?_⟩
    walk_at "go"
    rw [abs_nat, abs_nat]
    refine while_by (fun σ H' => ∃ x y : Nat, σ = [some (.int (x : Int)), some (.int (y : Int))] ∧ Nat.gcd x y = Int.gcd a c ∧ H' = H) (fun σ _ => match σ with | [_, some (.int y)] => y.toNat | _ => 0) ⟨a.natAbs, c.natAbs, rfl, rfl, rfl⟩ (fun σ H' hP => ?_) (fun σ H' Q1 Q2 f h => ?_)
    · obtain ⟨x, y, rfl, e, rfl⟩ := hP
      walk_at "go"
      refine w_ite (fun hc => ?_) (fun hc => ?_)
      · walk_at "go"
        refine w_I (by omega) ?_
        walk_at "go"
        have e1 : (x : Int).fmod (y : Int) = ((x % y : Nat) : Int) := by
          rw [fmod_pos _ hc]
          rfl
        rw [e1]
        refine ⟨⟨y, x % y, rfl, ?_, rfl⟩, ?_⟩
        · rw [← e, Nat.gcd_comm y, ← Nat.gcd_rec, Nat.gcd_comm]
        · show ((x % y : Nat) : Int).toNat < ((y : Nat) : Int).toNat
          have := Nat.mod_lt x (by omega : y > 0)
          omega
      · walk_at "go"
        have e0 : y = 0 := by omega
        subst e0
        rw [Nat.gcd_zero_right] at e
        rw [e]
        exact q
    · obtain ⟨v, hv, i, j, e1, e2, k, ek, qq⟩ := h
      exact ⟨v, hv, i, j, e1, e2, k, ek, f _ _ qq⟩
theorem ok__law_is_whole {f : Addr} {fd : FuncData} (F : FnP K "_law_is_whole" s__law_is_whole f fd) (m_isinstance : mg "isinstance" = none) (m_int : mg "int" = none) (m_bool : mg "bool" = none) :
    FnOk P w K mg base CX0 1 f fd ["_law_thing"] (sp__law_is_whole K) := by
  refine F.ok sc__law_is_whole (fun vs H Q E h => ?_) (fun cdv A outer s H vs Q E hr h => ?_)
  · obtain ⟨v, rfl, hv, q⟩ := h
    rfl
  · obtain ⟨v, rfl, hv, q⟩ := h
    refine ⟨_, PSs.nox (pss_one (ps_ret (pe_and (pe_callB call_isi (by rfl) m_isinstance (by decide +kernel) (pa_cons (pv 0) (pa_cons (pe_bltn (v := .ty "int") (by rfl) m_int (by decide +kernel) rfl) pa_nil))) (pe_one (pe_not (pe_callB call_isi (by rfl) m_isinstance (by decide +kernel) (pa_cons (pv 0) (pa_cons (pe_bltn (v := .ty "bool") (by rfl) m_bool (by decide +kernel) rfl) pa_nil)))))))), ?_⟩
    have e := whole_eq v
    walk_at "go"
    refine isi_int hv ?_
    walk_at "go"
    refine w_iteB (fun hi => ?_) (fun hi => ?_)
    · walk_at "go"
      refine isi_bool hv ?_
      walk_at "go"
      rw [e, hi] at q
      exact q
    · rw [e, hi] at q
      exact q
theorem ok__law_bag {f : Addr} {fd : FuncData} (F : FnP K "_law_bag" s__law_bag f fd) (m_len : mg "len" = none) (m_abs : mg "abs" = none) :
    FnOk P w K mg base CX0 1 f fd ["_law_script", "_law_at"] (sp__law_bag K) := by
  refine F.ok sc__law_bag (fun vs H Q E h => ?_) (fun cdv A outer s H vs Q E hr h => ?_)
  · obtain ⟨a, ns, k, rfl, hS, hk0, hk, q⟩ := h
    rfl
  · obtain ⟨a, ns, k, rfl, hS, hk0, hk, q⟩ := h
    refine ⟨_, PSs.nox (pss_cons (ps_set (i := 2) sc__law_bag.nd rfl (.inl rfl) pe_int)
        (pss_cons (ps_if (pt_cmpR op_lt (pv 1) (pe_callB call_len_seq (by rfl) m_len (by decide +kernel) (pa_cons (pv 0) pa_nil)) (nomark _)) (pss_one (ps_set (i := 2) sc__law_bag.nd rfl (.inl rfl) (pe_ix ix_list (pv 0) (pv 1) (fun _ _ => rfl)))) pss_nil)
        (pss_cons (ps_set (i := 3) sc__law_bag.nd rfl (.inl rfl) pe_int)
        (pss_cons (ps_if (pt_cmpR op_ge (pe_callB call_abs (by rfl) m_abs (by decide +kernel) (pa_cons (pv 2) pa_nil)) (pe_op op_pow pe_int pe_int) (nomark _)) (pss_one (ps_set (i := 3) sc__law_bag.nd rfl (.inl rfl) (pe_callB call_abs (by rfl) m_abs (by decide +kernel) (pa_cons (pv 2) pa_nil)))) pss_nil)
        (pss_cons (ps_set (i := 4) sc__law_bag.nd rfl (.inl rfl) (pe_lst (pa_cons pe_int (pa_cons pe_int (pa_cons pe_int (pa_cons pe_int (pa_cons pe_int (pa_cons pe_int (pa_cons pe_int (pa_cons pe_int pa_nil))))))))))
        (pss_cons (ps_set (i := 5) sc__law_bag.nd rfl (.inl rfl) (pe_op op_add (pe_op op_add (pe_op op_add (pe_op op_mul (pe_op op_modN (pv 2) pe_int) pe_int) (pe_op op_mul (pe_op op_mul pe_int (pv 1)) (pv 1))) (pe_op op_mul pe_int (pv 1))) pe_int))
        (pss_one (ps_ret (pe_lst (pa_cons (pv 3) (pa_cons (pe_op op_modN (pv 5) (pe_ix ix_list (pv 4) (pe_op op_modN (pv 1) pe_int) (fun _ _ => rfl))) pa_nil))))))))))), ?_⟩
    walk_at "go"
    refine ⟨a, _, rfl, .inl hS, ?_⟩
    walk_at "go"
    refine w_ite (fun hc => ?a) (fun hc => ?b)
    case' a =>
      have hlt : k.toNat < ns.length := by
        rw [List.length_map] at hc
        omega
      obtain ⟨cl, hcl⟩ : ∃ cl, ns[k.toNat]? = some cl := ⟨_, List.getElem?_eq_getElem hlt⟩
      have hat : atI (ns.map V.int) ((k.toNat : Nat) : Int) = some (.int cl) := atI_nat (by rw [List.getElem?_map, hcl]; rfl)
      rw [show ((k.toNat : Nat) : Int) = k by omega] at hat
      walk_at "go"
      refine w_ixLs hS hat ?_
    all_goals
      walk_at "go"
      refine w_Iv ⟨by decide, by decide, by decide⟩ rfl ?_
      walk_at "go"
      refine w_ite (fun hc2 => ?_) (fun hc2 => ?_)
    all_goals
      walk_at "go"
      refine w_new (by simp) fun p1 H1 hp1 s1 h1 => ?_
      walk_at "go"
      refine w_I (by decide) ?_
      walk_at "go"
      refine w_I (.inr ⟨by decide, by decide⟩) ?_
      walk_at "go"
      refine w_I (.inl ⟨by decide, by decide⟩) ?_
      walk_at "go"
      refine w_I (.inr ⟨by omega, by omega⟩) ?_
      walk_at "go"
      refine w_I (.inl ⟨by decide, by decide⟩) ?_
      walk_at "go"
      refine w_I (by decide) ?_
      obtain ⟨m, em, hm0, hm1⟩ := bag_primes (i := k.fmod 8) (by rw [fmod_pos _ (by decide)]; exact Int.emod_nonneg _ (by decide)) (by rw [fmod_pos _ (by decide)]; exact Int.emod_lt_of_pos _ (by decide))
      refine w_ixL h1 em ?_
      refine w_I (by omega) ?_
      walk_at "go"
      refine w_new (by simp) fun p2 H2 hp2 s2 h2 => ?_
      refine q p2 H2 (s1.free hp2) (s1.trans s2) ⟨_, _, h2, ?_, ?_, ?_⟩
      · first | decide | omega
      · rw [fmod_pos _ hm0]
        exact Int.emod_nonneg _ (by omega)
      · rw [fmod_pos _ hm0]
        exact Int.lt_of_lt_of_le (Int.emod_lt_of_pos _ hm0) hm1
theorem ok__law_take {f : Addr} {fd : FuncData} (F : FnP K "_law_take" s__law_take f fd) :
    FnOk P w K mg base CX0 1 f fd ["_law_bag_here", "_law_many"] (sp__law_take K) := by
  refine F.ok sc__law_take (fun vs H Q E h => ?_) (fun cdv A outer s H vs Q E hr h => ?_)
  · obtain ⟨b, m, rfl, hm, hm2, hb, q⟩ := h
    rfl
  · obtain ⟨b, m, rfl, hm, hm2, hb, q⟩ := h
    refine ⟨_, PSs.nox (pss_cons (ps_if (pt_cmpR op_gt (pe_ix ix_list (pv 0) pe_int (fun _ _ => rfl)) pe_int (nomark _)) (pss_cons (ps_set (i := 2) sc__law_take.nd rfl (.inl rfl) (pe_op op_modN (pe_ix ix_list (pv 0) pe_int (fun _ _ => rfl)) (pv 1)))
        (pss_cons (ps_asg (pe_op op_fdivZ (pe_ix ix_list (pv 0) pe_int (fun _ _ => rfl)) (pv 1)) (pg_sub (pv 0) pe_int set_list))
        (pss_one (ps_ret (pv 2))))) pss_nil)
        (pss_cons (ps_asg (pe_op op_modN (pe_op op_add (pe_op op_mul (pe_ix ix_list (pv 0) pe_int (fun _ _ => rfl)) pe_int) pe_int) pe_int) (pg_sub (pv 0) pe_int set_list))
        (pss_one (ps_ret (pe_op op_modN (pe_op op_fdivZ (pe_op op_modN (pe_op op_pow (pe_ix ix_list (pv 0) pe_int (fun _ _ => rfl)) pe_int) pe_int) pe_int) (pv 1)))))), ?_⟩
    obtain ⟨A, B, hb, hA, hB, hB2⟩ := hb
    walk_at "go"
    refine w_ite (fun hc => ?_) (fun hc => ?_)
    · walk_at "go"
      refine w_I (by omega) ?_
      walk_at "go"
      refine w_I (divZ_small hm (by omega)) ?_
      walk_at "go"
      refine w_setL hb rfl ?_
      walk_at "go"
      refine q _ _ ?_ ?_ Mv.upd ⟨_, _, upd_same, ?_, hB, hB2⟩
      · rw [fmod_pos _ hm]
        exact Int.emod_nonneg _ (by omega)
      · rw [fmod_pos _ hm]
        exact Int.emod_lt_of_pos _ hm
      · rw [fdiv_pos _ hm]
        exact Int.ediv_nonneg hA (by omega)
    · walk_at "go"
      refine w_I (.inr ⟨by decide, by decide⟩) ?_
      walk_at "go"
      refine w_I (by decide) ?_
      walk_at "go"
      refine w_setL hb rfl ?_
      walk_at "go"
      have hb' : (upd H b (.lst ([V.int A, V.int B].set 1 (V.int ((B * 48271 + 2531011).fmod 2147483647))))) b = some (.lst [.int A, .int ((B * 48271 + 2531011).fmod 2147483647)]) := upd_same
      have hx : 0 ≤ (B * 48271 + 2531011).fmod 2147483647 ∧ (B * 48271 + 2531011).fmod 2147483647 < 2147483647 := by
        rw [fmod_pos _ (by decide)]
        exact ⟨Int.emod_nonneg _ (by decide), Int.emod_lt_of_pos _ (by decide)⟩
      generalize (B * 48271 + 2531011).fmod 2147483647 = x at hb' hx ⊢
      refine w_ixL hb' rfl ?_
      walk_at "go"
      refine w_I ⟨by decide, by decide, by omega⟩ ?_
      walk_at "go"
      refine w_I (by decide) ?_
      walk_at "go"
      refine w_I (divZ_small (by decide) (by decide)) ?_
      walk_at "go"
      refine w_I (by omega) ?_
      refine q _ _ ?_ ?_ Mv.upd ⟨_, _, hb', hA, hx.1, hx.2⟩
      · rw [fmod_pos _ hm]
        exact Int.emod_nonneg _ (by omega)
      · rw [fmod_pos _ hm]
        exact Int.emod_lt_of_pos _ hm
theorem ok_is_ground {f : Addr} {fd : FuncData} (F : FnP K "is_ground" s_is_ground f fd)
    {f_is_whole : Addr} {fd_is_whole : FuncData} (F_is_whole : FnP K "is_whole" s_is_whole f_is_whole fd_is_whole) (b_is_whole : Binds K fd_is_whole ["thing"] []) (g_is_whole : mg "is_whole" = some (.ref f_is_whole)) (G_is_whole : FnOk P w K mg base CX0 1 f_is_whole fd_is_whole ["thing"] (sp_is_whole K))
    {a_GROUNDS : Addr} (mg_GROUNDS : mg "GROUNDS" = some (.ref a_GROUNDS)) (gr_GROUNDS : ∀ H : Hp, SqT K H a_GROUNDS [.int 0, .int 3, .int 5, .int 7, .int 11, .int 13]) :
    FnOk P w K mg base CX0 2 f fd ["thing"] (sp_is_ground K) := by
  refine F.ok sc_is_ground (fun vs H Q E h => ?_) (fun cdv A outer s H vs Q E hr h => ?_)
  · obtain ⟨v, rfl, hv, q⟩ := h
    rfl
  · obtain ⟨v, rfl, hv, q⟩ := h
    refine ⟨_, PSs.nox (pss_one (ps_ret (pe_and (pe_call G_is_whole hr (by rfl) g_is_whole F_is_whole.kp b_is_whole .nil pass0 (pa_cons (pv 0) pa_nil)) (pe_one (pe_cmpR op_in_seq (pv 0) (pe_glob (v := .ref a_GROUNDS) (by rfl) mg_GROUNDS rfl) (by rfl)))))), ?_⟩
    walk_at "go"
    refine ⟨v, rfl, hv, ?_⟩
    walk_at "go"
    refine w_iteB (fun hw => ?_) (fun hw => ?_)
    · obtain ⟨i, rfl⟩ := whole_int hw
      walk_at "go"
      refine ⟨_, _, rfl, .inr (gr_GROUNDS _), rfl, rfl, ?_⟩
      rw [← in_grd] at q
      exact q
    · rw [grd_whole hw] at q
      exact q
theorem ok_lowest {f : Addr} {fd : FuncData} (F : FnP K "lowest" s_lowest f fd)
    {f_common_divisor : Addr} {fd_common_divisor : FuncData} (F_common_divisor : FnP K "common_divisor" s_common_divisor f_common_divisor fd_common_divisor) (b_common_divisor : Binds K fd_common_divisor ["a", "b"] []) (g_common_divisor : mg "common_divisor" = some (.ref f_common_divisor)) (G_common_divisor : FnOk P w K mg base CX0 1 f_common_divisor fd_common_divisor ["a", "b"] (sp_common_divisor K))
    {f_wheel_back : Addr} {fd_wheel_back : FuncData} (F_wheel_back : FnP K "wheel_back" s_wheel_back f_wheel_back fd_wheel_back) (b_wheel_back : Binds K fd_wheel_back ["wheel", "whole"] []) (g_wheel_back : mg "wheel_back" = some (.ref f_wheel_back)) (G_wheel_back : FnOk P w K mg base CX0 1 f_wheel_back fd_wheel_back ["wheel", "whole"] (sp_wheel_back K)) :
    FnOk P w K mg base CX0 2 f fd ["ground", "top", "bottom"] (sp_lowest K) := by
  refine F.ok sc_lowest (fun vs H Q E h => ?_) (fun cdv A outer s H vs Q E hr h => ?_)
  · obtain ⟨g, u, d, rfl, hh, q⟩ := h
    rfl
  · obtain ⟨g, u, d, rfl, hh, q⟩ := h
    refine ⟨_, PSs.nox (pss_cons (ps_if (pt_cmpR op_ne (pv 0) pe_int (nomark _)) (pss_one (ps_ret (pe_tup (pa_cons (pe_op op_modN (pe_op op_mulW (pv 1) (pe_call G_wheel_back hr (by rfl) g_wheel_back F_wheel_back.kp b_wheel_back .nil pass0 (pa_cons (pv 0) (pa_cons (pv 2) pa_nil)))) (pv 0)) (pa_cons pe_int pa_nil))))) pss_nil)
        (pss_cons (ps_set (i := 3) sc_lowest.nd rfl (.inl rfl) (pe_call G_common_divisor hr (by rfl) g_common_divisor F_common_divisor.kp b_common_divisor .nil pass0 (pa_cons (pv 1) (pa_cons (pv 2) pa_nil))))
        (pss_cons (ps_if (pt_cmpR op_lt (pv 2) pe_int (nomark _)) (pss_one (ps_set (i := 3) sc_lowest.nd rfl (.inl rfl) (pe_un un_neg (pv 3)))) pss_nil)
        (pss_one (ps_ret (pe_tup (pa_cons (pe_op op_fdivZ (pv 1) (pv 3)) (pa_cons (pe_op op_fdivZ (pv 2) (pv 3)) pa_nil)))))))), ?_⟩
    walk_at "go"
    refine w_iteN (fun hc => ?_) (fun hc => ?_)
    · rcases hh with ⟨h0, _⟩ | ⟨hg, hu, k, hk1, hk, hkd⟩
      · exact absurd h0 hc
      · walk_at "go"
        refine ⟨g, d, k, rfl, hg, hk1, hk, hkd, fun f hf1 hf hfd => ?_⟩
        refine w_I (wide_mul (b := 5) hu (show f.natAbs < 2 ^ 5 by omega) (by decide) (by decide) (by decide)) ?_
        walk_at "go"
        refine w_I (by omega) ?_
        walk_at "go"
        refine w_new (by simp) fun p1 H1 hp1 s1 h1 => ?_
        refine q p1 H1 hp1 s1 ?_
        rw [low_inv (by omega) hfd]
        exact h1
    · subst hc
      rcases hh with ⟨_, hd, hz⟩ | ⟨hg, _⟩
      · have hI : lowI 0 u d = none := by
          unfold lowI
          rw [if_neg (by decide)]
        have e : lowF 0 u d = (u.fdiv (lowC u d), d.fdiv (lowC u d)) := by
          unfold lowF
          rw [hI]
        have hcz : ∀ i : Int, CDivZ i (lowC u d) := fun i => divZ_of (b := 8500) (lowC_ne hd) (Nat.lt_of_le_of_lt (lowC_le hd) hz) (by decide) (by decide)
        rw [e] at q
        walk_at "go"
        refine ⟨u, d, rfl, ?_⟩
        walk_at "go"
        refine w_ite (fun hn => ?_) (fun hn => ?_)
        · walk_at "go"
          have ec : lowC u d = -(Int.gcd u d : Int) := by
            unfold lowC
            rw [if_pos hn, Int.mul_neg, Int.mul_one]
          rw [← ec]
          refine w_I (hcz _) ?_
          walk_at "go"
          refine w_I (hcz _) ?_
          walk_at "go"
          refine w_new (by simp) fun p1 H1 hp1 s1 h1 => ?_
          exact q p1 H1 hp1 s1 h1
        · walk_at "go"
          have ec : lowC u d = (Int.gcd u d : Int) := by
            unfold lowC
            rw [if_neg hn, Int.mul_one]
          rw [← ec]
          refine w_I (hcz _) ?_
          walk_at "go"
          refine w_I (hcz _) ?_
          walk_at "go"
          refine w_new (by simp) fun p1 H1 hp1 s1 h1 => ?_
          exact q p1 H1 hp1 s1 h1
      · exact absurd hg (by decide)
theorem ok__law_low {f : Addr} {fd : FuncData} (F : FnP K "_law_low" s__law_low f fd)
    {f__law_shared : Addr} {fd__law_shared : FuncData} (F__law_shared : FnP K "_law_shared" s__law_shared f__law_shared fd__law_shared) (b__law_shared : Binds K fd__law_shared ["_law_one", "_law_other"] []) (g__law_shared : mg "_law_shared" = some (.ref f__law_shared)) (G__law_shared : FnOk P w K mg base CX0 1 f__law_shared fd__law_shared ["_law_one", "_law_other"] (sp__law_shared K)) (m_range : mg "range" = none) (m_int : mg "int" = none) :
    FnOk P w K mg base CX0 2 f fd ["_law_g", "_law_up", "_law_down"] (sp__law_low K) := by
  refine F.ok sc__law_low (fun vs H Q E h => ?_) (fun cdv A outer s H vs Q E hr h => ?_)
  · obtain ⟨g, u, d, rfl, hg0, hg, hd, hz, q⟩ := h
    rfl
  · obtain ⟨g, u, d, rfl, hg0, hg, hd, hz, q⟩ := h
    refine ⟨_, PSs.nox (pss_cons (ps_if (pt_cmpR op_gt (pv 0) pe_int (nomark _)) (pss_one (ps_for PassesOwn.never rfl (pi_range1 (by rfl) m_range (pa_cons (pv 0) pa_nil)) (pg_name (i := 3) sc__law_low.nd rfl (.inl rfl)) (pss_one (ps_if (pt_cmpR op_eq (pe_op op_modN (pe_op op_mul (pv 3) (pv 2)) (pv 0)) (pe_op op_modN (pv 1) (pv 0)) (nomark _)) (pss_one (ps_ret (pe_tup (pa_cons (pv 3) (pa_cons pe_int pa_nil))))) pss_nil)))) pss_nil)
        (pss_cons (ps_set (i := 4) sc__law_low.nd rfl (.inl rfl) (pe_op op_mul (pe_call G__law_shared hr (by rfl) g__law_shared F__law_shared.kp b__law_shared .nil pass0 (pa_cons (pv 1) (pa_cons (pv 2) pa_nil))) (pe_ix ix_list (pe_lst (pa_cons pe_int (pa_cons (pe_un un_neg pe_int) pa_nil))) (pe_callTy call_int1 (by rfl) m_int (by decide +kernel) (pa_cons (pe_cmpR op_lt (pv 2) pe_int (nomark _)) pa_nil)) (fun _ _ => rfl))))
        (pss_one (ps_ret (pe_tup (pa_cons (pe_op op_fdivZ (pv 1) (pv 4)) (pa_cons (pe_op op_fdivZ (pv 2) (pv 4)) pa_nil))))))), ?_⟩
    walk_at "go"
    refine w_ite (fun hc => ?a) (fun hc => ?b)
    case' a =>
      walk_at "go"
      refine ⟨by omega, by omega, ?_⟩
      refine for_range (fun i σ H' => H' = H ∧ (∃ y y2, σ = [some (.int g), some (.int u), some (.int d), y, y2]) ∧ ∀ j : Nat, j < i → ¬ ((j : Int) * d).fmod g = u.fmod g) ⟨rfl, ⟨none, none, rfl⟩, fun j hj => absurd hj (Nat.not_lt_zero _)⟩ (fun i σ H' hi hP => ?s1) (fun σ H' hP => ?s2)
    case' s1 =>
      obtain ⟨rfl, ⟨y, y2, rfl⟩, hn⟩ := hP
      walk_at "go"
      rw [Int.zero_add]
      refine w_I (.inl ⟨by omega, by omega⟩) ?_
      walk_at "go"
      refine w_I (by omega) ?_
      walk_at "go"
      refine w_I (by omega) ?_
      walk_at "go"
      refine w_ite (fun hc2 => ?_) (fun hc2 => ?_)
      · walk_at "go"
        refine w_new (by simp) fun p1 H1 hp1 s1 h1 => ?_
        refine q p1 H1 hp1 s1 ?_
        have e : lowF g u d = ((i : Int), 1) := by
          unfold lowF
          rw [lowI_some hi hc2 hn]
        rw [e]
        exact h1
      · walk_at "go"
        refine ⟨rfl, ⟨_, _, rfl⟩, fun j hj => ?_⟩
        by_cases e : j = i
        · rw [e]; exact hc2
        · exact hn j (by omega)
    case' s2 =>
      obtain ⟨rfl, ⟨y, y2, rfl⟩, hn⟩ := hP
      have hI : lowI g u d = none := lowI_none hn
    case' b =>
      have hI : lowI g u d = none := lowI_none (fun j hj => by omega)
    all_goals
      walk_at "go"
      refine ⟨u, d, rfl, ?_⟩
      walk_at "go"
      refine w_new (by simp) fun p1 H1 hp1 s1 h1 => ?_
      walk_at "go"
      refine .inr ⟨_, rfl, ?_⟩
      refine w_ixL h1 (low_sign d) ?_
      refine w_I (.inr (by split <;> decide)) ?_
      walk_at "go"
      refine w_I (low_cb hd hz _) ?_
      walk_at "go"
      refine w_I (low_cb hd hz _) ?_
      walk_at "go"
      refine w_new (by simp) fun p2 H2 hp2 s2 h2 => ?_
      refine q p2 H2 (s1.free hp2) (s1.trans s2) ?_
      have e : lowF g u d = (u.fdiv (lowC u d), d.fdiv (lowC u d)) := by
        unfold lowF
        rw [hI]
      rw [e]
      exact h2
theorem ok__law_is_number {f : Addr} {fd : FuncData} (F : FnP K "_law_is_number" s__law_is_number f fd)
    {f__law_shared : Addr} {fd__law_shared : FuncData} (F__law_shared : FnP K "_law_shared" s__law_shared f__law_shared fd__law_shared) (b__law_shared : Binds K fd__law_shared ["_law_one", "_law_other"] []) (g__law_shared : mg "_law_shared" = some (.ref f__law_shared)) (G__law_shared : FnOk P w K mg base CX0 1 f__law_shared fd__law_shared ["_law_one", "_law_other"] (sp__law_shared K))
    {f__law_is_whole : Addr} {fd__law_is_whole : FuncData} (F__law_is_whole : FnP K "_law_is_whole" s__law_is_whole f__law_is_whole fd__law_is_whole) (b__law_is_whole : Binds K fd__law_is_whole ["_law_thing"] []) (g__law_is_whole : mg "_law_is_whole" = some (.ref f__law_is_whole)) (G__law_is_whole : FnOk P w K mg base CX0 1 f__law_is_whole fd__law_is_whole ["_law_thing"] (sp__law_is_whole K)) (m_isinstance : mg "isinstance" = none) (m_tuple : mg "tuple" = none) (m_len : mg "len" = none) (m_all : mg "all" = none) :
    FnOk P w K mg base CX0 2 f fd ["_law_g", "_law_thing"] (sp__law_is_number K) := by
  refine F.ok sc__law_is_number (fun vs H Q E h => ?_) (fun cdv A outer s H vs Q E hr h => ?_)
  · obtain ⟨g, v, rfl, hg0, hv, q⟩ := h
    rfl
  · obtain ⟨g, v, rfl, hg0, hv, q⟩ := h
    refine ⟨_, PSs.nox (pss_cons (ps_if (PW.pt (pw_or (pt_not (pt_val (pe_callB call_isi (by rfl) m_isinstance (by decide +kernel) (pa_cons (pv 1) (pa_cons (pe_bltn (v := .ty "tuple") (by rfl) m_tuple (by decide +kernel) rfl) pa_nil))))) (pw_or (pt_cmpR op_ne (pe_callB call_len_seq (by rfl) m_len (by decide +kernel) (pa_cons (pv 1) pa_nil)) pe_int (nomark _)) (pw_or1 (pt_not (pt_val (pe_callB (cr_all rfl) (by rfl) m_all (by decide +kernel) (pa_cons (pe_lc (own := [("_law_one", 2)]) (g := gName 2) (tt := tYes) (by rfl) sc__law_is_number.nd (pi_tup (pv 1)) (blkOk_by (own := [("_law_one", 2)]) (N := ["_law_g", "_law_thing", "_law_one"]) (sc := defScope s__law_is_number) (by decide +kernel)) (fun _ _ _ _ _ => (pg_name (i := 2) sc__law_is_number.nd rfl (.inl rfl))) (fun _ _ _ _ _ => pts_nil) (fun _ _ _ _ _ => (pe_call G__law_is_whole hr (by rfl) g__law_is_whole F__law_is_whole.kp b__law_is_whole .nil pass0 (pa_cons (pv 2) pa_nil)))) pa_nil)))))))) (pss_one (ps_ret pe_bl)) pss_nil)
        (pss_cons (ps_if (pt_cmpR op_gt (pv 0) pe_int (nomark _)) (pss_one (ps_ret (pe_and (pe_chain op_le op_lt pe_int (pe_ix ix_tup (pv 1) pe_int (fun _ _ => rfl)) (pv 0)) (pe_one (pe_cmpR op_eq (pe_ix ix_tup (pv 1) pe_int (fun _ _ => rfl)) pe_int (nomark _)))))) pss_nil)
        (pss_one (ps_ret (pe_and (pe_cmpR op_gt (pe_ix ix_tup (pv 1) pe_int (fun _ _ => rfl)) pe_int (nomark _)) (pe_one (pe_cmpR op_eq (pe_call G__law_shared hr (by rfl) g__law_shared F__law_shared.kp b__law_shared .nil pass0 (pa_cons (pe_ix ix_tup (pv 1) pe_int (fun _ _ => rfl)) (pa_cons (pe_ix ix_tup (pv 1) pe_int (fun _ _ => rfl)) pa_nil))) pe_int (nomark _)))))))), ?_⟩
    walk_at "go"
    refine isi_tup hv (fun p xs e hp hx => ?_) (fun hn => ?_)
    · subst e
      rw [numOf_tup hp] at q
      walk_at "go"
      refine iteF ?_
      walk_at "go"
      refine ⟨p, xs, rfl, .inr (SqT.of hp), ?_⟩
      walk_at "go"
      refine w_iteN (fun hl => ?_) (fun hl => ?_)
      · walk_at "go"
        rw [numOk_len (by omega)] at q
        exact q _ (Same.refl _)
      · obtain ⟨t, b, rfl⟩ : ∃ t b, xs = [t, b] := by
          match xs, hl with
          | [t, b], _ => exact ⟨t, b, rfl⟩
          | [], h => simp at h
          | [_], h => simp at h
          | _ :: _ :: _ :: _, h => simp at h; omega
        walk_at "go"
        refine ⟨p, rfl, ⟨_, SqT.of hp⟩, fun D hD => ?_⟩
        refine lc_tup (xs := [t, b]) (fun i H' => Same H H' ∧ H' D = some (.lst (([wholeB t, wholeB b].take i).map V.bl))) ⟨Same.updD (Same.refl H) hD, upd_same⟩ (fun i H' _ hP => SqT.of (hP.1 _ _ hp)) (fun i x H' hxi hP => ?_) (fun H' hP => ?_)
        · obtain ⟨sm, hD'⟩ := hP
          have hi : i < 2 := (List.getElem?_eq_some_iff.mp hxi).1
          walk_at "go"
          refine ⟨rfl, ?_⟩
          walk_at "go"
          refine ⟨x, rfl, .inl (hx x (List.mem_of_getElem? hxi)), ?_⟩
          refine ⟨_, hD', ?_, Same.updD sm hD, ?_⟩
          · rw [List.length_map, List.length_take]
            exact small1000 (by omega)
          · rw [upd_same]
            match i, hi, hxi with
            | 0, _, hxi =>
              cases Option.some.inj hxi
              rfl
            | 1, _, hxi =>
              cases Option.some.inj hxi
              rfl
        · obtain ⟨sm, hD'⟩ := hP
          walk_at "go"
          refine ⟨D, [wholeB t, wholeB b], rfl, SqL.of hD', ?_⟩
          have ea : [wholeB t, wholeB b].all id = (wholeB t && wholeB b) := by
            show (wholeB t && (wholeB b && true)) = _
            rw [Bool.and_true]
          rw [ea]
          walk_at "go"
          refine w_iteBN (fun hw => ?_) (fun hw => ?_)
          · walk_at "go"
            have ef : numOk g [t, b] = false := by
              cases h : wholeB t with
              | false => exact numOk_l h
              | true =>
                rw [h] at hw
                exact numOk_r hw
            rw [ef] at q
            exact q _ sm
          · rw [Bool.and_eq_true] at hw
            obtain ⟨t, rfl⟩ := whole_int hw.1
            obtain ⟨b, rfl⟩ := whole_int hw.2
            have hp' := sm _ _ hp
            walk_at "go"
            refine w_ite (fun hg => ?_) (fun hg => ?_)
            · rw [numOk_g (by omega)] at q
              walk_at "go"
              refine w_ite (fun h0 => ?_) (fun h0 => ?_)
              · walk_at "go"
                refine w_ite (fun h1 => ?_) (fun h1 => ?_)
                · walk_at "go"
                  rw [decide_eq_true h0, decide_eq_true h1] at q
                  exact q _ sm
                · rw [decide_eq_true h0, decide_eq_false h1] at q
                  exact q _ sm
              · walk_at "go"
                rw [decide_eq_false h0] at q
                exact q _ sm
            · have e0 : g = 0 := by omega
              subst e0
              rw [numOk_0] at q
              walk_at "go"
              refine w_ite (fun hb => ?_) (fun hb => ?_)
              · walk_at "go"
                refine ⟨t, b, rfl, ?_⟩
                walk_at "go"
                rw [decide_eq_true (show 1 ≤ b by omega)] at q
                exact q _ sm
              · rw [decide_eq_false (show ¬ 1 ≤ b by omega)] at q
                exact q _ sm
    · rw [hn g] at q
      walk_at "go"
      refine iteT ?_
      walk_at "go"
      exact q _ (Same.refl _)
theorem ok__law_ground {f : Addr} {fd : FuncData} (F : FnP K "_law_ground" s__law_ground f fd)
    {f__law_take : Addr} {fd__law_take : FuncData} (F__law_take : FnP K "_law_take" s__law_take f__law_take fd__law_take) (b__law_take : Binds K fd__law_take ["_law_bag_here", "_law_many"] []) (g__law_take : mg "_law_take" = some (.ref f__law_take)) (G__law_take : FnOk P w K mg base CX0 1 f__law_take fd__law_take ["_law_bag_here", "_law_many"] (sp__law_take K)) :
    FnOk P w K mg base CX0 2 f fd ["_law_bag_here"] (sp__law_ground K) := by
  refine F.ok sc__law_ground (fun vs H Q E h => ?_) (fun cdv A outer s H vs Q E hr h => ?_)
  · obtain ⟨b, rfl, hb, q⟩ := h
    rfl
  · obtain ⟨b, rfl, hb, q⟩ := h
    refine ⟨_, PSs.nox (pss_one (ps_ret (pe_ix ix_list (pe_lst (pa_cons pe_int (pa_cons pe_int (pa_cons pe_int (pa_cons pe_int (pa_cons pe_int (pa_cons pe_int (pa_cons pe_int (pa_cons (pe_ix ix_list (pe_lst (pa_cons pe_int (pa_cons pe_int (pa_cons pe_int pa_nil)))) (pe_call G__law_take hr (by rfl) g__law_take F__law_take.kp b__law_take .nil pass0 (pa_cons (pv 0) (pa_cons pe_int pa_nil))) (fun _ _ => rfl)) pa_nil))))))))) (pe_call G__law_take hr (by rfl) g__law_take F__law_take.kp b__law_take .nil pass0 (pa_cons (pv 0) (pa_cons pe_int pa_nil))) (fun _ _ => rfl)))), ?_⟩
    walk_at "go"
    refine w_new (by simp) fun p1 H1 hp1 s1 h1 => ?_
    walk_at "go"
    refine ⟨b, 3, rfl, by decide, by decide, hb.same s1, fun H2 d hd0 hd1 mv2 hb2 => ?_⟩
    obtain ⟨m, em, hm⟩ := gr_three hd0 hd1
    have n1 : p1 ≠ b := fun e => by
      subst e
      obtain ⟨A, B, h2, _⟩ := hb
      rw [hp1] at h2
      cases h2
    refine w_ixL (mv2 _ _ n1 h1) em ?_
    walk_at "go"
    refine w_new (by simp) fun p3 H3 hp3 s3 h3 => ?_
    walk_at "go"
    refine ⟨b, 8, rfl, by decide, by decide, hb2.same s3, fun H4 e he0 he1 mv4 hb4 => ?_⟩
    obtain ⟨g, eg, hg⟩ := gr_eight he0 he1 hm
    have n3 : p3 ≠ b := fun e => by
      subst e
      obtain ⟨A, B, h2, _⟩ := hb2
      rw [hp3] at h2
      cases h2
    refine w_ixL (mv4 _ _ n3 h3) eg ?_
    exact q _ _ hg ((Mv.same s1).trans (mv2.trans ((Mv.same s3).trans mv4))) hb4
theorem ok__law_whole_draw {f : Addr} {fd : FuncData} (F : FnP K "_law_whole_draw" s__law_whole_draw f fd)
    {f__law_take : Addr} {fd__law_take : FuncData} (F__law_take : FnP K "_law_take" s__law_take f__law_take fd__law_take) (b__law_take : Binds K fd__law_take ["_law_bag_here", "_law_many"] []) (g__law_take : mg "_law_take" = some (.ref f__law_take)) (G__law_take : FnOk P w K mg base CX0 1 f__law_take fd__law_take ["_law_bag_here", "_law_many"] (sp__law_take K)) (m_range : mg "range" = none) :
    FnOk P w K mg base CX0 2 f fd ["_law_bag_here"] (sp__law_whole_draw K) := by
  refine F.ok sc__law_whole_draw (fun vs H Q E h => ?_) (fun cdv A outer s H vs Q E hr h => ?_)
  · obtain ⟨b, rfl, hb, q⟩ := h
    rfl
  · obtain ⟨b, rfl, hb, q⟩ := h
    refine ⟨_, PSs.nox (pss_cons (ps_set (i := 1) sc__law_whole_draw.nd rfl (.inl rfl) (pe_op op_sub pe_int (pe_op op_mul pe_int (pe_call G__law_take hr (by rfl) g__law_take F__law_take.kp b__law_take .nil pass0 (pa_cons (pv 0) (pa_cons pe_int pa_nil))))))
        (pss_cons (ps_set (i := 2) sc__law_whole_draw.nd rfl (.inl rfl) (pe_call G__law_take hr (by rfl) g__law_take F__law_take.kp b__law_take .nil pass0 (pa_cons (pv 0) (pa_cons pe_int pa_nil))))
        (pss_cons (ps_if (pt_cmpR op_lt (pv 2) pe_int (nomark _)) (pss_one (ps_ret (pe_op op_mul (pv 1) (pe_call G__law_take hr (by rfl) g__law_take F__law_take.kp b__law_take .nil pass0 (pa_cons (pv 0) (pa_cons (pe_ix ix_list (pe_lst (pa_cons pe_int (pa_cons pe_int (pa_cons pe_int (pa_cons pe_int (pa_cons pe_int pa_nil)))))) (pv 2) (fun _ _ => rfl)) pa_nil)))))) pss_nil)
        (pss_cons (ps_set (i := 3) sc__law_whole_draw.nd rfl (.inl rfl) pe_int)
        (pss_cons (ps_for PassesOwn.never rfl (pi_range1 (by rfl) m_range (pa_cons (pe_ix ix_list (pe_lst (pa_cons pe_int (pa_cons pe_int (pa_cons pe_int pa_nil)))) (pe_op op_sub (pv 2) pe_int) (fun _ _ => rfl)) pa_nil)) (pg_name (i := 4) sc__law_whole_draw.nd rfl (.inl rfl)) (pss_one (ps_set (i := 3) sc__law_whole_draw.nd rfl (.inl rfl) (pe_op op_add (pe_op op_mul (pv 3) (pe_op op_pow pe_int pe_int)) (pe_call G__law_take hr (by rfl) g__law_take F__law_take.kp b__law_take .nil pass0 (pa_cons (pv 0) (pa_cons (pe_op op_pow pe_int pe_int) pa_nil)))))))
        (pss_one (ps_ret (pe_op op_mul (pv 1) (pv 3))))))))), ?_⟩
    walk_at "go"
    refine ⟨b, 2, rfl, by decide, by decide, hb, fun H1 d1 h10 h11 m1 hb1 => ?_⟩
    refine w_I (.inl ⟨by decide, by decide⟩) ?_
    walk_at "go"
    have hs : (1 - 2 * d1 = 1 ∨ 1 - 2 * d1 = -1) := by omega
    generalize 1 - 2 * d1 = sg at hs ⊢
    refine ⟨b, 8, rfl, by decide, by decide, hb1, fun H2 wy h20 h21 m2 hb2 => ?_⟩
    walk_at "go"
    refine w_ite (fun hc => ?_) (fun hc => ?_)
    · walk_at "go"
      refine w_new (by simp) fun p1 H3 hp1 s3 h3 => ?_
      walk_at "go"
      obtain ⟨m, em, hm0, hm1⟩ := wd_five h20 hc
      refine w_ixL h3 em ?_
      walk_at "go"
      refine ⟨b, m, rfl, hm0, by omega, hb2.same s3, fun H4 d hd0 hd1 m4 hb4 => ?_⟩
      refine w_I (.inl ⟨by omega, by omega⟩) ?_
      exact q _ _ (wd_bound (j := 1) hs hd0 (by rw [Int.pow_succ, Int.pow_zero]; omega) (by decide)) (m1.trans (m2.trans ((Mv.same s3).trans m4))) hb4
    · walk_at "go"
      refine w_new (by simp) fun p1 H3 hp1 s3 h3 => ?_
      walk_at "go"
      obtain ⟨m, em, hm0, hm1⟩ := wd_three (i := wy - 5) (by omega) (by omega)
      refine w_ixL h3 em ?_
      walk_at "go"
      refine ⟨by omega, by omega, ?_⟩
      have hb3 := hb2.same s3
      have mv3 : Mv b H H3 := m1.trans (m2.trans (Mv.same s3))
      refine for_range (fun i σ H' => Mv b H H' ∧ Bag H' b ∧ ∃ (f : Int) (y : Option V), σ = [some (.ref b), some (.int sg), some (.int wy), some (.int f), y] ∧ 0 ≤ f ∧ f < 1000000 ^ i) ⟨mv3, hb3, 0, none, rfl, by decide, by decide⟩ (fun i σ H' hi hP => ?_) (fun σ H' hP => ?_)
      · obtain ⟨mv, hbi, f, y, rfl, hf0, hf1⟩ := hP
        walk_at "go"
        refine w_Iv ⟨by decide, by decide, by decide⟩ rfl ?_
        refine w_I (.inr ⟨by decide, by decide⟩) ?_
        walk_at "go"
        refine w_Iv ⟨by decide, by decide, by decide⟩ rfl ?_
        walk_at "go"
        refine ⟨b, 1000000, rfl, by decide, by decide, hbi, fun H5 d hd0 hd1 m5 hb5 => ?_⟩
        walk_at "go"
        exact ⟨mv.trans m5, hb5, _, _, rfl, (wd_next hf0 hf1 hd0 hd1).1, (wd_next hf0 hf1 hd0 hd1).2⟩
      · obtain ⟨mv, hbi, f, y, rfl, hf0, hf1⟩ := hP
        walk_at "go"
        refine w_I (.inl ⟨by omega, by omega⟩) ?_
        exact q _ _ (wd_bound hs hf0 hf1 (by omega)) mv hbi
theorem ok__law_odd {f : Addr} {fd : FuncData} (F : FnP K "_law_odd" s__law_odd f fd)
    {f__law_take : Addr} {fd__law_take : FuncData} (F__law_take : FnP K "_law_take" s__law_take f__law_take fd__law_take) (b__law_take : Binds K fd__law_take ["_law_bag_here", "_law_many"] []) (g__law_take : mg "_law_take" = some (.ref f__law_take)) (G__law_take : FnOk P w K mg base CX0 1 f__law_take fd__law_take ["_law_bag_here", "_law_many"] (sp__law_take K)) :
    FnOk P w K mg base CX0 2 f fd ["_law_bag_here"] (sp__law_odd K) := by
  refine F.ok sc__law_odd (fun vs H Q E h => ?_) (fun cdv A outer s H vs Q E hr h => ?_)
  · obtain ⟨b, rfl, hb, q⟩ := h
    rfl
  · obtain ⟨b, rfl, hb, q⟩ := h
    refine ⟨_, PSs.nox (pss_cons (ps_set (i := 1) sc__law_odd.nd rfl (.inl rfl) (pe_lst (pa_cons pe_non (pa_cons pe_bl (pa_cons pe_bl (pa_cons pe_str (pa_cons pe_str (pa_cons (pe_un un_neg pe_int) (pa_cons pe_int (pa_cons pe_int (pa_cons (pe_op op_pow pe_int pe_int) (pa_cons (pe_tup pa_nil) (pa_cons (pe_lst pa_nil) (pa_cons (pe_lst (pa_cons pe_int pa_nil)) (pa_cons (pe_tup (pa_cons pe_int (pa_cons pe_int pa_nil))) (pa_cons (pe_tup (pa_cons pe_int (pa_cons pe_int pa_nil))) (pa_cons (pe_tup (pa_cons pe_int (pa_cons pe_int pa_nil))) (pa_cons (pe_tup (pa_cons pe_bl (pa_cons pe_int pa_nil))) (pa_cons (pe_tup (pa_cons pe_int (pa_cons (pe_un un_neg pe_int) pa_nil))) (pa_cons (pe_tup (pa_cons pe_int pa_nil)) (pa_cons (pe_lst (pa_cons pe_int (pa_cons pe_int pa_nil))) (pa_cons (pe_tup (pa_cons pe_int (pa_cons pe_int (pa_cons pe_int pa_nil)))) pa_nil))))))))))))))))))))))
        (pss_one (ps_ret (pe_ix ix_list (pv 1) (pe_call G__law_take hr (by rfl) g__law_take F__law_take.kp b__law_take .nil pass0 (pa_cons (pv 0) (pa_cons pe_int pa_nil))) (fun _ _ => rfl))))), ?_⟩
    walk_at "go"
    refine w_Iv ⟨by decide, by decide, by decide⟩ rfl ?_
    walk_at "go"
    refine w_new (by simp) fun p1 H1 hp1 s1 h1 => ?_
    have t1 : Th H1 (.ref p1) := Th.tup h1 rfl
    walk_at "go"
    refine w_new (by simp) fun p2 H2 hp2 s2 h2 => ?_
    have t2 : Th H2 (.ref p2) := Th.lst h2
    walk_at "go"
    refine w_new (by simp) fun p3 H3 hp3 s3 h3 => ?_
    have t3 : Th H3 (.ref p3) := Th.lst h3
    walk_at "go"
    refine w_new (by simp) fun p4 H4 hp4 s4 h4 => ?_
    have t4 : Th H4 (.ref p4) := Th.tup h4 rfl
    walk_at "go"
    refine w_new (by simp) fun p5 H5 hp5 s5 h5 => ?_
    have t5 : Th H5 (.ref p5) := Th.tup h5 rfl
    walk_at "go"
    refine w_new (by simp) fun p6 H6 hp6 s6 h6 => ?_
    have t6 : Th H6 (.ref p6) := Th.tup h6 rfl
    walk_at "go"
    refine w_new (by simp) fun p7 H7 hp7 s7 h7 => ?_
    have t7 : Th H7 (.ref p7) := Th.tup h7 rfl
    walk_at "go"
    refine w_new (by simp) fun p8 H8 hp8 s8 h8 => ?_
    have t8 : Th H8 (.ref p8) := Th.tup h8 rfl
    walk_at "go"
    refine w_new (by simp) fun p9 H9 hp9 s9 h9 => ?_
    have t9 : Th H9 (.ref p9) := Th.tup h9 rfl
    walk_at "go"
    refine w_new (by simp) fun p10 H10 hp10 s10 h10 => ?_
    have t10 : Th H10 (.ref p10) := Th.lst h10
    walk_at "go"
    refine w_new (by simp) fun p11 H11 hp11 s11 h11 => ?_
    have t11 : Th H11 (.ref p11) := Th.tup h11 rfl
    walk_at "go"
    refine w_new (by simp) fun L HL hL sL hLL => ?_
    have sA := (s1.trans (s2.trans (s3.trans (s4.trans (s5.trans (s6.trans (s7.trans (s8.trans (s9.trans (s10.trans (s11.trans sL)))))))))))
    walk_at "go"
    refine ⟨b, 20, rfl, by decide, by decide, hb.same sA, fun HZ d hd0 hd1 mZ hbZ => ?_⟩
    have nL : L ≠ b := bag_ne hb ((Same.free ((s1.trans (s2.trans (s3.trans (s4.trans (s5.trans (s6.trans (s7.trans (s8.trans (s9.trans (s10.trans s11))))))))))) hL))
    obtain ⟨v, ev, hv⟩ := atI_some hd0 (show d < (([V.non, V.bl true, V.bl false, V.str (Str.ofString "1"), V.str (Str.ofString ""), V.int (-1), V.int 0, V.int 1, V.int (10 ^ (59 : Nat)), V.ref p1, V.ref p2, V.ref p3, V.ref p4, V.ref p5, V.ref p6, V.ref p7, V.ref p8, V.ref p9, V.ref p10, V.ref p11] : List V).length : Int) from hd1)
    refine w_ixL (mZ _ _ nL hLL) ev ?_
    have hT : Th HL v ∧ (v = .int 0 ∨ grdB v = false) := by
      clear sA
      simp only [List.mem_cons, List.not_mem_nil, or_false] at hv
      rcases hv with rfl | rfl | rfl | rfl | rfl | rfl | rfl | rfl | rfl | rfl | rfl | rfl | rfl | rfl | rfl | rfl | rfl | rfl | rfl | rfl
      iterate 9 exact ⟨.inl rfl, by decide +kernel⟩
      all_goals
        refine ⟨?_, .inr rfl⟩
        repeat (first | assumption | (refine Th.sm ?_ (by assumption)))
    exact q _ _ (hT.1.kd (Kd.mv mZ (hb.same sA) hbZ)) hT.2 ((Mv.same sA).trans mZ) hbZ
theorem ok__law_long_pair {f : Addr} {fd : FuncData} (F : FnP K "_law_long_pair" s__law_long_pair f fd)
    {f__law_take : Addr} {fd__law_take : FuncData} (F__law_take : FnP K "_law_take" s__law_take f__law_take fd__law_take) (b__law_take : Binds K fd__law_take ["_law_bag_here", "_law_many"] []) (g__law_take : mg "_law_take" = some (.ref f__law_take)) (G__law_take : FnOk P w K mg base CX0 1 f__law_take fd__law_take ["_law_bag_here", "_law_many"] (sp__law_take K)) (m_range : mg "range" = none) :
    FnOk P w K mg base CX0 2 f fd ["_law_bag_here", "_law_rows"] (sp__law_long_pair K) := by
  refine F.ok sc__law_long_pair (fun vs H Q E h => ?_) (fun cdv A outer s H vs Q E hr h => ?_)
  · obtain ⟨b, r, rfl, hr0, hr1, hb, q⟩ := h
    rfl
  · obtain ⟨b, r, rfl, hr0, hr1, hb, q⟩ := h
    refine ⟨_, PSs.nox (pss_cons (ps_asg (pe_tup (pa_cons pe_int (pa_cons pe_int pa_nil))) (pg_tup rfl (pgs_cons (pg_name (i := 2) sc__law_long_pair.nd rfl (.inl rfl)) (pgs_cons (pg_name (i := 3) sc__law_long_pair.nd rfl (.inl rfl)) pgs_nil))))
        (pss_cons (ps_if (pt_cmpR op_eq (pe_call G__law_take hr (by rfl) g__law_take F__law_take.kp b__law_take .nil pass0 (pa_cons (pv 0) (pa_cons pe_int pa_nil))) pe_int (nomark _)) (pss_cons (ps_for PassesOwn.never rfl (pi_range1 (by rfl) m_range (pa_cons (pe_op op_add (pe_op op_mul pe_int (pv 1)) (pe_call G__law_take hr (by rfl) g__law_take F__law_take.kp b__law_take .nil pass0 (pa_cons (pv 0) (pa_cons (pe_op op_mul pe_int (pv 1)) pa_nil)))) pa_nil)) (pg_name (i := 4) sc__law_long_pair.nd rfl (.inl rfl)) (pss_one (ps_par (i := 2) (j := 3) (by rfl) sc__law_long_pair.nd rfl rfl (by decide) rfl rfl (pa_cons (pv 3) (pa_cons (pe_op op_add (pv 2) (pv 3)) pa_nil)) (by rfl))))
        (pss_one (ps_ret (pe_tup (pa_cons (pv 2) (pa_cons (pv 3) pa_nil)))))) pss_nil)
        (pss_cons (ps_for PassesOwn.never rfl (pi_range1 (by rfl) m_range (pa_cons (pv 1) pa_nil)) (pg_name (i := 4) sc__law_long_pair.nd rfl (.inl rfl)) (pss_one (ps_par (i := 2) (j := 3) (by rfl) sc__law_long_pair.nd rfl rfl (by decide) rfl rfl (pa_cons (pe_op op_add (pe_op op_mul (pv 2) (pe_op op_pow pe_int pe_int)) (pe_call G__law_take hr (by rfl) g__law_take F__law_take.kp b__law_take .nil pass0 (pa_cons (pv 0) (pa_cons (pe_op op_pow pe_int pe_int) pa_nil)))) (pa_cons (pe_op op_add (pe_op op_mul (pv 3) (pe_op op_pow pe_int pe_int)) (pe_call G__law_take hr (by rfl) g__law_take F__law_take.kp b__law_take .nil pass0 (pa_cons (pv 0) (pa_cons (pe_op op_pow pe_int pe_int) pa_nil)))) pa_nil)) (by rfl))))
        (pss_cons (ps_par (i := 5) (j := 6) (by rfl) sc__law_long_pair.nd rfl rfl (by decide) rfl rfl (pa_cons (pv 2) (pa_cons (pv 3) pa_nil)) (by rfl))
        (pss_cons (ps_while PassesOwn.never (pt_cmpR op_gt (pv 5) pe_int (nomark _)) (pss_one (ps_par (i := 5) (j := 6) (by rfl) sc__law_long_pair.nd rfl rfl (by decide) rfl rfl (pa_cons (pe_op op_modN (pv 6) (pv 5)) (pa_cons (pv 5) pa_nil)) (by rfl))))
        (pss_one (ps_ret (pe_tup (pa_cons (pe_op op_fdivZ (pv 2) (pv 6)) (pa_cons (pe_op op_fdivZ (pv 3) (pv 6)) pa_nil)))))))))), ?_⟩
    walk_at "go"
    refine w_new (by simp) fun p1 H1 hp1 s1 h1 => ?_
    walk_at "go"
    refine ⟨b, 2, rfl, by decide, by decide, hb.same s1, fun H2 d2 h20 h21 m2 hb2 => ?_⟩
    have mv2 : Mv b H H2 := (Mv.same s1).trans m2
    walk_at "go"
    refine w_ite (fun hc => ?_) (fun hc => ?_)
    · walk_at "go"
      refine w_I (.inl ⟨by decide, by decide⟩) ?_
      walk_at "go"
      refine w_I (.inl ⟨by decide, by decide⟩) ?_
      walk_at "go"
      refine ⟨b, 4 * r, rfl, by omega, by omega, hb2, fun H3 d3 h30 h31 m3 hb3 => ?_⟩
      walk_at "go"
      refine ⟨by omega, by omega, ?_⟩
      refine for_range (fun i σ H' => H' = H3 ∧ ∃ (u d : Int) (y4 y5 y6 : Option V), σ = [some (.ref b), some (.int r), some (.int u), some (.int d), y4, y5, y6] ∧ Int.gcd u d = 1 ∧ 1 ≤ u ∧ 1 ≤ d ∧ u ≤ d ∧ d ≤ 2 ^ i) ⟨rfl, 1, 1, _, _, _, rfl, by decide, by decide, by decide, by decide, by decide⟩ (fun i σ H' hi hP => ?_) (fun σ H' hP => ?_)
      · obtain ⟨rfl, u, d, y4, y5, y6, rfl, hg, hu, hd, hud, hd2⟩ := hP
        walk_at "go"
        obtain ⟨f1, f2, f3, f4⟩ := fib_small (by omega) hd hud hd2
        exact ⟨rfl, d, u + d, _, _, _, rfl, gcd_fib hg, by omega, f2, f3, f4⟩
      · obtain ⟨rfl, u, d, y4, y5, y6, rfl, hg, hu, hd, hud, hd2⟩ := hP
        have hs := pow_small hd hd2 (by omega)
        walk_at "go"
        refine w_new (by simp) fun p4 H4 hp4 s4 h4 => ?_
        exact q p4 H4 u d (mv2.trans (m3.trans (Mv.same s4))) (hb3.same s4) h4 hg hd hu (Nat.lt_of_le_of_lt (by omega) hs) hs
    · walk_at "go"
      refine ⟨by omega, by omega, ?_⟩
      refine for_range (fun i σ H' => Mv b H H' ∧ Bag H' b ∧ ∃ (u d : Int) (y4 y5 y6 : Option V), σ = [some (.ref b), some (.int r), some (.int u), some (.int d), y4, y5, y6] ∧ 1 ≤ u ∧ u + 1 ≤ 2 * 1000000 ^ i ∧ 1 ≤ d ∧ d + 1 ≤ 2 * 1000000 ^ i) ⟨mv2, hb2, 1, 1, _, _, _, rfl, by decide, by decide, by decide, by decide⟩ (fun i σ H' hi hP => ?_) (fun σ H' hP => ?_)
      · obtain ⟨mv, hbi, u, d, y4, y5, y6, rfl, hu, hu2, hd, hd2⟩ := hP
        walk_at "go"
        refine w_Iv ⟨by decide, by decide, by decide⟩ rfl ?_
        refine w_I (.inr ⟨by decide, by decide⟩) ?_
        walk_at "go"
        refine w_Iv ⟨by decide, by decide, by decide⟩ rfl ?_
        walk_at "go"
        refine ⟨b, 1000000, rfl, by decide, by decide, hbi, fun H3 t h30 h31 m3 hb3 => ?_⟩
        walk_at "go"
        refine w_Iv ⟨by decide, by decide, by decide⟩ rfl ?_
        refine w_I (.inr ⟨by decide, by decide⟩) ?_
        walk_at "go"
        refine w_Iv ⟨by decide, by decide, by decide⟩ rfl ?_
        walk_at "go"
        refine ⟨b, 1000000, rfl, by decide, by decide, hb3, fun H4 t2 h40 h41 m4 hb4 => ?_⟩
        walk_at "go"
        exact ⟨mv.trans (m3.trans m4), hb4, _, _, _, _, _, rfl, (lp_next hu hu2 h30 h31).1, (lp_next hu hu2 h30 h31).2, (lp_next hd hd2 h40 h41).1, (lp_next hd hd2 h40 h41).2⟩
      · obtain ⟨mv, hbi, u, d, y4, y5, y6, rfl, hu, hu2, hd, hd2⟩ := hP
        walk_at "go"
        refine while_by (fun σ H'' => ∃ x y : Nat, σ = [some (.ref b), some (.int r), some (.int u), some (.int d), y4, some (.int (x : Int)), some (.int (y : Int))] ∧ Nat.gcd x y = Int.gcd u d ∧ H'' = H') (fun σ _ => match σ with | [_, _, _, _, _, some (.int x), _] => x.toNat | _ => 0) ⟨u.natAbs, d.natAbs, ?_, rfl, rfl⟩ (fun σ H'' hP => ?_) (fun σ H'' Q1 Q2 f h => ?_)
        · rw [show ((u.natAbs : Nat) : Int) = u by omega, show ((d.natAbs : Nat) : Int) = d by omega]
          rfl
        · obtain ⟨x, y, rfl, e, rfl⟩ := hP
          walk_at "go"
          refine w_ite (fun hc => ?_) (fun hc => ?_)
          · walk_at "go"
            refine w_I (by omega) ?_
            walk_at "go"
            have e1 : (y : Int).fmod (x : Int) = ((y % x : Nat) : Int) := by
              rw [fmod_pos _ hc]
              rfl
            rw [e1]
            refine ⟨⟨y % x, x, rfl, ?_, rfl⟩, ?_⟩
            · rw [← e, ← Nat.gcd_rec]
            · show ((y % x : Nat) : Int).toNat < ((x : Nat) : Int).toNat
              have := Nat.mod_lt y (by omega : x > 0)
              omega
          · have e0 : x = 0 := by omega
            subst e0
            rw [Nat.gcd_zero_left] at e
            rw [e]
            obtain ⟨g1, g2, g3, g4⟩ := lp_div hu hd
            obtain ⟨k1, k2, k3, k4⟩ := lp_div hd hu
            rw [Int.gcd_comm d u] at k2 k3 k4
            have su := lp_small2 hu hu2 (by omega)
            have sd := lp_small2 hd hd2 (by omega)
            have hcd : ∀ i : Int, CDivZ i (Int.gcd u d : Int) := fun i => divZ_of (b := 2800) (by omega) (Nat.lt_of_le_of_lt (by omega) sd) (by decide) (by decide)
            walk_at "go"
            refine w_I (hcd _) ?_
            walk_at "go"
            refine w_I (hcd _) ?_
            walk_at "go"
            refine w_new (by simp) fun p4 H4 hp4 s4 h4 => ?_
            exact q p4 H4 _ _ (mv.trans (Mv.same s4)) (hbi.same s4) h4 g1 g2 k2 (Nat.lt_of_le_of_lt (fdiv_le hu g4) su) (Nat.lt_of_le_of_lt (fdiv_le hd g4) sd)
        · obtain ⟨v, hv, i, j, e1, e2, k, ek, qq⟩ := h
          exact ⟨v, hv, i, j, e1, e2, k, ek, f _ _ qq⟩
theorem ok_number {f : Addr} {fd : FuncData} (F : FunD K "number" "number" (defArgs s_number) (defBody s_number) (defScope s_number) [.int 1] [] f fd)
    {f_is_nought_on : Addr} {fd_is_nought_on : FuncData} (F_is_nought_on : FnP K "is_nought_on" s_is_nought_on f_is_nought_on fd_is_nought_on) (b_is_nought_on : Binds K fd_is_nought_on ["ground", "whole"] []) (g_is_nought_on : mg "is_nought_on" = some (.ref f_is_nought_on)) (G_is_nought_on : FnOk P w K mg base CX0 1 f_is_nought_on fd_is_nought_on ["ground", "whole"] (sp_is_nought_on K))
    {f_lowest : Addr} {fd_lowest : FuncData} (F_lowest : FnP K "lowest" s_lowest f_lowest fd_lowest) (b_lowest : Binds K fd_lowest ["ground", "top", "bottom"] []) (g_lowest : mg "lowest" = some (.ref f_lowest)) (G_lowest : FnOk P w K mg base CX0 2 f_lowest fd_lowest ["ground", "top", "bottom"] (sp_lowest K))
    {f_is_ground : Addr} {fd_is_ground : FuncData} (F_is_ground : FnP K "is_ground" s_is_ground f_is_ground fd_is_ground) (b_is_ground : Binds K fd_is_ground ["thing"] []) (g_is_ground : mg "is_ground" = some (.ref f_is_ground)) (G_is_ground : FnOk P w K mg base CX0 2 f_is_ground fd_is_ground ["thing"] (sp_is_ground K)) (R_NoGround : RaiseC K mg "NoGround") {f_I : Addr} {fd_I : FuncData} (O_OverNought : OverC P w K mg base f_I fd_I) :
    FnOk P w K mg base (L2N.CX P w) 3 f fd ["ground", "top", "bottom"] (sp_number K) := by
  refine F.ok sc_number (fun vs H Q E h => ?_) (fun cdv A outer s H vs Q E hr h => ?_)
  · obtain ⟨v, u, d, rfl, hv, hu, hd, q1, q2, q3⟩ := h
    rfl
  · obtain ⟨v, u, d, rfl, hv, hu, hd, q1, q2, q3⟩ := h
    refine ⟨_, id (pss_cons (ps_if (pt_not (pt_val (pe_call G_is_ground hr (by rfl) g_is_ground F_is_ground.kp b_is_ground .nil pass0 (pa_cons (pv 0) pa_nil)))) (pss_one (L2N.ps_raise rfl (L2N.takes_of rfl rfl rfl rfl) (L2N.pmk_own PySem.F.excBase_ValueError R_NoGround.e R_NoGround.g R_NoGround.k (raises_own R_NoGround.b R_NoGround.t) rfl))) pss_nil)
        (pss_cons (ps_if (pt_val (pe_call G_is_nought_on (hr.mono (by decide)) (by rfl) g_is_nought_on F_is_nought_on.kp b_is_nought_on .nil pass0 (pa_cons (pv 0) (pa_cons (pv 2) pa_nil)))) (pss_one (L2N.ps_raise rfl (L2N.takes_of rfl rfl rfl rfl) (L2N.pmk_oxb PySem.F.excBase_ZeroDivisionError O_OverNought.T O_OverNought.i O_OverNought.ty O_OverNought.fn (hr.mono (by decide)) O_OverNought.b .nil pass0 (by rfl) O_OverNought.g (pa_cons (pe_call G_lowest hr (by rfl) g_lowest F_lowest.kp b_lowest .nil pass0 (pa_cons (pv 0) (pa_cons (pv 1) (pa_cons pe_int pa_nil)))) pa_nil)))) pss_nil)
        (pss_one (ps_ret (pe_call G_lowest hr (by rfl) g_lowest F_lowest.kp b_lowest .nil pass0 (pa_cons (pv 0) (pa_cons (pv 1) (pa_cons (pv 2) pa_nil)))))))), ?_⟩
    walk_at "go"
    refine ⟨v, rfl, hv, ?_⟩
    walk_at "go"
    refine w_iteBN (fun hg => ?_) (fun hg => ?_)
    · walk_at "go"
      exact q1 hg
    · obtain ⟨g, rfl, h5⟩ := grd_int hg
      walk_at "go"
      refine ⟨g, d, rfl, h5, ?_⟩
      walk_at "go"
      refine w_iteB (fun hn => ?_) (fun hn => ?_)
      · walk_at "go"
        refine w_mk ?_
        walk_at "go"
        refine ⟨g, u, 1, rfl, low_pre h5 (by decide) (fun z => one_fmod (h5.resolve_left z)) hu (by decide) (by decide), fun p H1 hp s1 h1 => ?_⟩
        walk_at "go"
        exact w_over fun dd H' e1 e2 e3 => q2 g rfl h5 hn p dd H' (s1.trans e2) (e2 _ _ h1) e3
      · walk_at "go"
        exact ⟨g, u, d, rfl, low_pre h5 (ngt_off hn).1 (ngt_off hn).2 hu hd (by decide), fun p H1 hp s1 h1 => q3 g rfl h5 hn p H1 hp s1 h1⟩
theorem ok_plus {f : Addr} {fd : FuncData} (F : FnP K "plus" s_plus f fd)
    {f_lowest : Addr} {fd_lowest : FuncData} (F_lowest : FnP K "lowest" s_lowest f_lowest fd_lowest) (b_lowest : Binds K fd_lowest ["ground", "top", "bottom"] []) (g_lowest : mg "lowest" = some (.ref f_lowest)) (G_lowest : FnOk P w K mg base CX0 2 f_lowest fd_lowest ["ground", "top", "bottom"] (sp_lowest K)) :
    FnOk P w K mg base CX0 3 f fd ["ground", "x", "y"] (sp_plus K) := by
  refine F.ok sc_plus (fun vs H Q E h => ?_) (fun cdv A outer s H vs Q E hr h => ?_)
  · obtain ⟨g, x, y, a, c, k, l, rfl, hg, hx, hy, ha, hc, hk4, hl4, hk, hl, q⟩ := h
    rfl
  · obtain ⟨g, x, y, a, c, k, l, rfl, hg, hx, hy, ha, hc, hk4, hl4, hk, hl, q⟩ := h
    refine ⟨_, PSs.nox (pss_one (ps_ret (pe_call G_lowest hr (by rfl) g_lowest F_lowest.kp b_lowest .nil pass0 (pa_cons (pv 0) (pa_cons (pe_op op_add (pe_op op_mulW (pe_ix ix_tup (pv 1) pe_int (fun _ _ => rfl)) (pe_ix ix_tup (pv 2) pe_int (fun _ _ => rfl))) (pe_op op_mulW (pe_ix ix_tup (pv 2) pe_int (fun _ _ => rfl)) (pe_ix ix_tup (pv 1) pe_int (fun _ _ => rfl)))) (pa_cons (pe_op op_mulW (pe_ix ix_tup (pv 1) pe_int (fun _ _ => rfl)) (pe_ix ix_tup (pv 2) pe_int (fun _ _ => rfl))) pa_nil)))))), ?_⟩
    obtain ⟨px, rfl, hpx⟩ := hx
    obtain ⟨py, rfl, hpy⟩ := hy
    walk_at "go"
    refine w_I (wide_mul ha.2.1 hc.2.2 (by omega) (by omega) (by omega)) ?_
    walk_at "go"
    refine w_I (wide_mul hc.2.1 ha.2.2 (by omega) (by omega) (by omega)) ?_
    walk_at "go"
    refine w_I (wide_mul ha.2.2 hc.2.2 (by omega) (by omega) (by omega)) ?_
    walk_at "go"
    exact ⟨g, _, _, rfl, low_pre hg (Int.mul_ne_zero (by have := ha.pos; omega) (by have := hc.pos; omega)) (TN.dn hg ha hc) (sum_lt (wide_lt ha.2.1 hc.2.2) (by have := wide_lt hc.2.1 ha.2.2; rwa [Nat.add_comm] at this)) (Nat.lt_of_lt_of_le (wide_lt ha.2.2 hc.2.2) (Nat.pow_le_pow_right (by decide) (Nat.le_succ _))) (by omega), fun p H1 hp s1 h1 => q p H1 hp s1 h1⟩
theorem ok_less {f : Addr} {fd : FuncData} (F : FnP K "less" s_less f fd)
    {f_lowest : Addr} {fd_lowest : FuncData} (F_lowest : FnP K "lowest" s_lowest f_lowest fd_lowest) (b_lowest : Binds K fd_lowest ["ground", "top", "bottom"] []) (g_lowest : mg "lowest" = some (.ref f_lowest)) (G_lowest : FnOk P w K mg base CX0 2 f_lowest fd_lowest ["ground", "top", "bottom"] (sp_lowest K)) :
    FnOk P w K mg base CX0 3 f fd ["ground", "x", "y"] (sp_less K) := by
  refine F.ok sc_less (fun vs H Q E h => ?_) (fun cdv A outer s H vs Q E hr h => ?_)
  · obtain ⟨g, x, y, a, c, k, l, rfl, hg, hx, hy, ha, hc, hk4, hl4, hk, hl, q⟩ := h
    rfl
  · obtain ⟨g, x, y, a, c, k, l, rfl, hg, hx, hy, ha, hc, hk4, hl4, hk, hl, q⟩ := h
    refine ⟨_, PSs.nox (pss_one (ps_ret (pe_call G_lowest hr (by rfl) g_lowest F_lowest.kp b_lowest .nil pass0 (pa_cons (pv 0) (pa_cons (pe_op op_sub (pe_op op_mulW (pe_ix ix_tup (pv 1) pe_int (fun _ _ => rfl)) (pe_ix ix_tup (pv 2) pe_int (fun _ _ => rfl))) (pe_op op_mulW (pe_ix ix_tup (pv 2) pe_int (fun _ _ => rfl)) (pe_ix ix_tup (pv 1) pe_int (fun _ _ => rfl)))) (pa_cons (pe_op op_mulW (pe_ix ix_tup (pv 1) pe_int (fun _ _ => rfl)) (pe_ix ix_tup (pv 2) pe_int (fun _ _ => rfl))) pa_nil)))))), ?_⟩
    obtain ⟨px, rfl, hpx⟩ := hx
    obtain ⟨py, rfl, hpy⟩ := hy
    walk_at "go"
    refine w_I (wide_mul ha.2.1 hc.2.2 (by omega) (by omega) (by omega)) ?_
    walk_at "go"
    refine w_I (wide_mul hc.2.1 ha.2.2 (by omega) (by omega) (by omega)) ?_
    walk_at "go"
    refine w_I (wide_mul ha.2.2 hc.2.2 (by omega) (by omega) (by omega)) ?_
    walk_at "go"
    exact ⟨g, _, _, rfl, low_pre hg (Int.mul_ne_zero (by have := ha.pos; omega) (by have := hc.pos; omega)) (TN.dn hg ha hc) (dif_lt (wide_lt ha.2.1 hc.2.2) (by have := wide_lt hc.2.1 ha.2.2; rwa [Nat.add_comm] at this)) (Nat.lt_of_lt_of_le (wide_lt ha.2.2 hc.2.2) (Nat.pow_le_pow_right (by decide) (Nat.le_succ _))) (by omega), fun p H1 hp s1 h1 => q p H1 hp s1 h1⟩
theorem ok_times {f : Addr} {fd : FuncData} (F : FnP K "times" s_times f fd)
    {f_lowest : Addr} {fd_lowest : FuncData} (F_lowest : FnP K "lowest" s_lowest f_lowest fd_lowest) (b_lowest : Binds K fd_lowest ["ground", "top", "bottom"] []) (g_lowest : mg "lowest" = some (.ref f_lowest)) (G_lowest : FnOk P w K mg base CX0 2 f_lowest fd_lowest ["ground", "top", "bottom"] (sp_lowest K)) :
    FnOk P w K mg base CX0 3 f fd ["ground", "x", "y"] (sp_times K) := by
  refine F.ok sc_times (fun vs H Q E h => ?_) (fun cdv A outer s H vs Q E hr h => ?_)
  · obtain ⟨g, x, y, a, c, k, l, rfl, hg, hx, hy, ha, hc, hk4, hl4, hk, hl, q⟩ := h
    rfl
  · obtain ⟨g, x, y, a, c, k, l, rfl, hg, hx, hy, ha, hc, hk4, hl4, hk, hl, q⟩ := h
    refine ⟨_, PSs.nox (pss_one (ps_ret (pe_call G_lowest hr (by rfl) g_lowest F_lowest.kp b_lowest .nil pass0 (pa_cons (pv 0) (pa_cons (pe_op op_mulW (pe_ix ix_tup (pv 1) pe_int (fun _ _ => rfl)) (pe_ix ix_tup (pv 2) pe_int (fun _ _ => rfl))) (pa_cons (pe_op op_mulW (pe_ix ix_tup (pv 1) pe_int (fun _ _ => rfl)) (pe_ix ix_tup (pv 2) pe_int (fun _ _ => rfl))) pa_nil)))))), ?_⟩
    obtain ⟨px, rfl, hpx⟩ := hx
    obtain ⟨py, rfl, hpy⟩ := hy
    walk_at "go"
    refine w_I (wide_mul ha.2.1 hc.2.1 (by omega) (by omega) (by omega)) ?_
    walk_at "go"
    refine w_I (wide_mul ha.2.2 hc.2.2 (by omega) (by omega) (by omega)) ?_
    walk_at "go"
    exact ⟨g, _, _, rfl, low_pre hg (Int.mul_ne_zero (by have := ha.pos; omega) (by have := hc.pos; omega)) (TN.dn hg ha hc) (wide_lt ha.2.1 hc.2.1) (wide_lt ha.2.2 hc.2.2) (by omega), fun p H1 hp s1 h1 => q p H1 hp s1 h1⟩
theorem ok_over {f : Addr} {fd : FuncData} (F : FnP K "over" s_over f fd)
    {f_lowest : Addr} {fd_lowest : FuncData} (F_lowest : FnP K "lowest" s_lowest f_lowest fd_lowest) (b_lowest : Binds K fd_lowest ["ground", "top", "bottom"] []) (g_lowest : mg "lowest" = some (.ref f_lowest)) (G_lowest : FnOk P w K mg base CX0 2 f_lowest fd_lowest ["ground", "top", "bottom"] (sp_lowest K)) {f_I : Addr} {fd_I : FuncData} (O_OverNought : OverC P w K mg base f_I fd_I) :
    FnOk P w K mg base (L2N.CX P w) 3 f fd ["ground", "x", "y"] (sp_over K) := by
  refine F.ok sc_over (fun vs H Q E h => ?_) (fun cdv A outer s H vs Q E hr h => ?_)
  · obtain ⟨g, x, y, a, c, k, l, rfl, hg, hx, hy, ha, hc, hk4, hl4, hk, hl, q, qe⟩ := h
    rfl
  · obtain ⟨g, x, y, a, c, k, l, rfl, hg, hx, hy, ha, hc, hk4, hl4, hk, hl, q, qe⟩ := h
    refine ⟨_, id (pss_cons (ps_if (pt_cmpR op_eq (pe_ix ix_tup (pv 2) pe_int (fun _ _ => rfl)) pe_int (nomark _)) (pss_one (L2N.ps_raise rfl (L2N.takes_of rfl rfl rfl rfl) (L2N.pmk_oxb PySem.F.excBase_ZeroDivisionError O_OverNought.T O_OverNought.i O_OverNought.ty O_OverNought.fn (hr.mono (by decide)) O_OverNought.b .nil pass0 (by rfl) O_OverNought.g (pa_cons (pv 1) pa_nil)))) pss_nil)
        (pss_one (ps_ret (pe_call G_lowest hr (by rfl) g_lowest F_lowest.kp b_lowest .nil pass0 (pa_cons (pv 0) (pa_cons (pe_op op_mulW (pe_ix ix_tup (pv 1) pe_int (fun _ _ => rfl)) (pe_ix ix_tup (pv 2) pe_int (fun _ _ => rfl))) (pa_cons (pe_op op_mulW (pe_ix ix_tup (pv 1) pe_int (fun _ _ => rfl)) (pe_ix ix_tup (pv 2) pe_int (fun _ _ => rfl))) pa_nil))))))), ?_⟩
    obtain ⟨px, rfl, hpx⟩ := hx
    obtain ⟨py, rfl, hpy⟩ := hy
    walk_at "go"
    refine w_ite (fun hz => ?_) (fun hz => ?_)
    · walk_at "go"
      refine w_mk ?_
      walk_at "go"
      exact w_over fun d H' h1 h2 h3 => qe hz d H' h1 h2 h3
    · walk_at "go"
      refine w_I (wide_mul ha.2.1 hc.2.2 (by omega) (by omega) (by omega)) ?_
      walk_at "go"
      refine w_I (wide_mul ha.2.2 hc.2.1 (by omega) (by omega) (by omega)) ?_
      walk_at "go"
      exact ⟨g, _, _, rfl, low_pre hg (Int.mul_ne_zero (by have := ha.pos; omega) hz) (fun z => by
        rw [ha.one (ha.gpos z), Int.one_mul]
        exact hc.topN hz z) (wide_lt ha.2.1 hc.2.2) (wide_lt ha.2.2 hc.2.1) (by omega), fun p H1 hp s1 h1 => q hz p H1 hp s1 h1⟩
theorem ok__law_plus {f : Addr} {fd : FuncData} (F : FnP K "_law_plus" s__law_plus f fd)
    {f__law_low : Addr} {fd__law_low : FuncData} (F__law_low : FnP K "_law_low" s__law_low f__law_low fd__law_low) (b__law_low : Binds K fd__law_low ["_law_g", "_law_up", "_law_down"] []) (g__law_low : mg "_law_low" = some (.ref f__law_low)) (G__law_low : FnOk P w K mg base CX0 2 f__law_low fd__law_low ["_law_g", "_law_up", "_law_down"] (sp__law_low K)) :
    FnOk P w K mg base CX0 3 f fd ["_law_g", "_law_x", "_law_y"] (sp__law_plus K) := by
  refine F.ok sc__law_plus (fun vs H Q E h => ?_) (fun cdv A outer s H vs Q E hr h => ?_)
  · obtain ⟨g, x, y, a, c, rfl, hg0, hg, hx, hy, ha, hc, q⟩ := h
    rfl
  · obtain ⟨g, x, y, a, c, rfl, hg0, hg, hx, hy, ha, hc, q⟩ := h
    refine ⟨_, PSs.nox (pss_one (ps_ret (pe_call G__law_low hr (by rfl) g__law_low F__law_low.kp b__law_low .nil pass0 (pa_cons (pv 0) (pa_cons (pe_op op_add (pe_op op_mulW (pe_ix ix_tup (pv 1) pe_int (fun _ _ => rfl)) (pe_ix ix_tup (pv 2) pe_int (fun _ _ => rfl))) (pe_op op_mulW (pe_ix ix_tup (pv 2) pe_int (fun _ _ => rfl)) (pe_ix ix_tup (pv 1) pe_int (fun _ _ => rfl)))) (pa_cons (pe_op op_mulW (pe_ix ix_tup (pv 1) pe_int (fun _ _ => rfl)) (pe_ix ix_tup (pv 2) pe_int (fun _ _ => rfl))) pa_nil)))))), ?_⟩
    obtain ⟨px, rfl, hpx⟩ := hx
    obtain ⟨py, rfl, hpy⟩ := hy
    have hW : ∀ {u v : Int}, u.natAbs < 2 ^ 3000 → v.natAbs < 2 ^ 3000 → CMulW u v := fun h1 h2 => wide_mul h1 h2 (by decide) (by decide) (by decide)
    have hD : (a.2 * c.2).natAbs < 2 ^ 8000 := Nat.lt_of_lt_of_le (wide_lt ha.2.1 hc.2.1) (Nat.pow_le_pow_right (by decide) (by decide))
    walk_at "go"
    refine w_I (hW ha.1 hc.2.1) ?_
    walk_at "go"
    refine w_I (hW hc.1 ha.2.1) ?_
    walk_at "go"
    refine w_I (hW ha.2.1 hc.2.1) ?_
    walk_at "go"
    exact ⟨g, _, _, rfl, hg0, hg, Int.mul_ne_zero ha.2.2 hc.2.2, hD, fun p H1 hp s1 h1 => q p H1 hp s1 h1⟩
theorem ok__law_minus {f : Addr} {fd : FuncData} (F : FnP K "_law_minus" s__law_minus f fd)
    {f__law_low : Addr} {fd__law_low : FuncData} (F__law_low : FnP K "_law_low" s__law_low f__law_low fd__law_low) (b__law_low : Binds K fd__law_low ["_law_g", "_law_up", "_law_down"] []) (g__law_low : mg "_law_low" = some (.ref f__law_low)) (G__law_low : FnOk P w K mg base CX0 2 f__law_low fd__law_low ["_law_g", "_law_up", "_law_down"] (sp__law_low K)) :
    FnOk P w K mg base CX0 3 f fd ["_law_g", "_law_x"] (sp__law_minus K) := by
  refine F.ok sc__law_minus (fun vs H Q E h => ?_) (fun cdv A outer s H vs Q E hr h => ?_)
  · obtain ⟨g, x, a, rfl, hg0, hg, hx, ha, ha2, q⟩ := h
    rfl
  · obtain ⟨g, x, a, rfl, hg0, hg, hx, ha, ha2, q⟩ := h
    refine ⟨_, PSs.nox (pss_one (ps_ret (pe_call G__law_low hr (by rfl) g__law_low F__law_low.kp b__law_low .nil pass0 (pa_cons (pv 0) (pa_cons (pe_op op_sub pe_int (pe_ix ix_tup (pv 1) pe_int (fun _ _ => rfl))) (pa_cons (pe_ix ix_tup (pv 1) pe_int (fun _ _ => rfl)) pa_nil)))))), ?_⟩
    obtain ⟨px, rfl, hpx⟩ := hx
    walk_at "go"
    exact ⟨g, _, _, rfl, hg0, hg, ha2, ha, fun p H1 hp s1 h1 => q p H1 hp s1 h1⟩
theorem ok__law_times {f : Addr} {fd : FuncData} (F : FnP K "_law_times" s__law_times f fd)
    {f__law_low : Addr} {fd__law_low : FuncData} (F__law_low : FnP K "_law_low" s__law_low f__law_low fd__law_low) (b__law_low : Binds K fd__law_low ["_law_g", "_law_up", "_law_down"] []) (g__law_low : mg "_law_low" = some (.ref f__law_low)) (G__law_low : FnOk P w K mg base CX0 2 f__law_low fd__law_low ["_law_g", "_law_up", "_law_down"] (sp__law_low K)) :
    FnOk P w K mg base CX0 3 f fd ["_law_g", "_law_x", "_law_y"] (sp__law_times K) := by
  refine F.ok sc__law_times (fun vs H Q E h => ?_) (fun cdv A outer s H vs Q E hr h => ?_)
  · obtain ⟨g, x, y, a, c, rfl, hg0, hg, hx, hy, ha, hc, q⟩ := h
    rfl
  · obtain ⟨g, x, y, a, c, rfl, hg0, hg, hx, hy, ha, hc, q⟩ := h
    refine ⟨_, PSs.nox (pss_one (ps_ret (pe_call G__law_low hr (by rfl) g__law_low F__law_low.kp b__law_low .nil pass0 (pa_cons (pv 0) (pa_cons (pe_op op_mulW (pe_ix ix_tup (pv 1) pe_int (fun _ _ => rfl)) (pe_ix ix_tup (pv 2) pe_int (fun _ _ => rfl))) (pa_cons (pe_op op_mulW (pe_ix ix_tup (pv 1) pe_int (fun _ _ => rfl)) (pe_ix ix_tup (pv 2) pe_int (fun _ _ => rfl))) pa_nil)))))), ?_⟩
    obtain ⟨px, rfl, hpx⟩ := hx
    obtain ⟨py, rfl, hpy⟩ := hy
    have hW : ∀ {u v : Int}, u.natAbs < 2 ^ 3000 → v.natAbs < 2 ^ 3000 → CMulW u v := fun h1 h2 => wide_mul h1 h2 (by decide) (by decide) (by decide)
    have hD : (a.2 * c.2).natAbs < 2 ^ 8000 := Nat.lt_of_lt_of_le (wide_lt ha.2.1 hc.2.1) (Nat.pow_le_pow_right (by decide) (by decide))
    walk_at "go"
    refine w_I (hW ha.1 hc.1) ?_
    walk_at "go"
    refine w_I (hW ha.2.1 hc.2.1) ?_
    walk_at "go"
    exact ⟨g, _, _, rfl, hg0, hg, Int.mul_ne_zero ha.2.2 hc.2.2, hD, fun p H1 hp s1 h1 => q p H1 hp s1 h1⟩
theorem ok__law_over {f : Addr} {fd : FuncData} (F : FnP K "_law_over" s__law_over f fd)
    {f__law_low : Addr} {fd__law_low : FuncData} (F__law_low : FnP K "_law_low" s__law_low f__law_low fd__law_low) (b__law_low : Binds K fd__law_low ["_law_g", "_law_up", "_law_down"] []) (g__law_low : mg "_law_low" = some (.ref f__law_low)) (G__law_low : FnOk P w K mg base CX0 2 f__law_low fd__law_low ["_law_g", "_law_up", "_law_down"] (sp__law_low K)) :
    FnOk P w K mg base CX0 3 f fd ["_law_g", "_law_x", "_law_y"] (sp__law_over K) := by
  refine F.ok sc__law_over (fun vs H Q E h => ?_) (fun cdv A outer s H vs Q E hr h => ?_)
  · obtain ⟨g, x, y, a, c, rfl, hg0, hg, hx, hy, ha, hc, hz, q⟩ := h
    rfl
  · obtain ⟨g, x, y, a, c, rfl, hg0, hg, hx, hy, ha, hc, hz, q⟩ := h
    refine ⟨_, PSs.nox (pss_one (ps_ret (pe_call G__law_low hr (by rfl) g__law_low F__law_low.kp b__law_low .nil pass0 (pa_cons (pv 0) (pa_cons (pe_op op_mulW (pe_ix ix_tup (pv 1) pe_int (fun _ _ => rfl)) (pe_ix ix_tup (pv 2) pe_int (fun _ _ => rfl))) (pa_cons (pe_op op_mulW (pe_ix ix_tup (pv 1) pe_int (fun _ _ => rfl)) (pe_ix ix_tup (pv 2) pe_int (fun _ _ => rfl))) pa_nil)))))), ?_⟩
    obtain ⟨px, rfl, hpx⟩ := hx
    obtain ⟨py, rfl, hpy⟩ := hy
    have hW : ∀ {u v : Int}, u.natAbs < 2 ^ 3000 → v.natAbs < 2 ^ 3000 → CMulW u v := fun h1 h2 => wide_mul h1 h2 (by decide) (by decide) (by decide)
    have hD : (a.2 * c.1).natAbs < 2 ^ 8000 := Nat.lt_of_lt_of_le (wide_lt ha.2.1 hc.1) (Nat.pow_le_pow_right (by decide) (by decide))
    walk_at "go"
    refine w_I (hW ha.1 hc.2.1) ?_
    walk_at "go"
    refine w_I (hW ha.2.1 hc.1) ?_
    walk_at "go"
    exact ⟨g, _, _, rfl, hg0, hg, Int.mul_ne_zero ha.2.2 hz, hD, fun p H1 hp s1 h1 => q p H1 hp s1 h1⟩
theorem ok__law_any_number {f : Addr} {fd : FuncData} (F : FnP K "_law_any_number" s__law_any_number f fd)
    {f__law_whole_draw : Addr} {fd__law_whole_draw : FuncData} (F__law_whole_draw : FnP K "_law_whole_draw" s__law_whole_draw f__law_whole_draw fd__law_whole_draw) (b__law_whole_draw : Binds K fd__law_whole_draw ["_law_bag_here"] []) (g__law_whole_draw : mg "_law_whole_draw" = some (.ref f__law_whole_draw)) (G__law_whole_draw : FnOk P w K mg base CX0 2 f__law_whole_draw fd__law_whole_draw ["_law_bag_here"] (sp__law_whole_draw K))
    {f__law_low : Addr} {fd__law_low : FuncData} (F__law_low : FnP K "_law_low" s__law_low f__law_low fd__law_low) (b__law_low : Binds K fd__law_low ["_law_g", "_law_up", "_law_down"] []) (g__law_low : mg "_law_low" = some (.ref f__law_low)) (G__law_low : FnOk P w K mg base CX0 2 f__law_low fd__law_low ["_law_g", "_law_up", "_law_down"] (sp__law_low K)) :
    FnOk P w K mg base CX0 3 f fd ["_law_bag_here", "_law_g"] (sp__law_any_number K) := by
  refine F.ok sc__law_any_number (fun vs H Q E h => ?_) (fun cdv A outer s H vs Q E hr h => ?_)
  · obtain ⟨b, g, rfl, hgr, hb, q⟩ := h
    rfl
  · obtain ⟨b, g, rfl, hgr, hb, q⟩ := h
    refine ⟨_, PSs.nox (pss_cons (ps_set (i := 2) sc__law_any_number.nd rfl (.inl rfl) (pe_call G__law_whole_draw hr (by rfl) g__law_whole_draw F__law_whole_draw.kp b__law_whole_draw .nil pass0 (pa_cons (pv 0) pa_nil)))
        (pss_cons (ps_if (PW.pt (pw_or (pt_cmpR op_eq (pv 2) pe_int (nomark _)) (pw_or1 (PW.pt (pw_and (pt_cmpR op_gt (pv 1) pe_int (nomark _)) (pw_and1 (pt_cmpR op_eq (pe_op op_modN (pv 2) (pv 1)) pe_int (nomark _)))))))) (pss_one (ps_set (i := 2) sc__law_any_number.nd rfl (.inl rfl) pe_int)) pss_nil)
        (pss_one (ps_ret (pe_call G__law_low hr (by rfl) g__law_low F__law_low.kp b__law_low .nil pass0 (pa_cons (pv 1) (pa_cons (pe_call G__law_whole_draw hr (by rfl) g__law_whole_draw F__law_whole_draw.kp b__law_whole_draw .nil pass0 (pa_cons (pv 0) pa_nil)) (pa_cons (pv 2) pa_nil)))))))), ?_⟩
    obtain ⟨hg0, hg⟩ := hgr.bd
    walk_at "go"
    refine ⟨b, rfl, hb, fun H1 dn hdn m1 hb1 => ?_⟩
    walk_at "go"
    refine w_ite (fun hc => ?a) (fun hc => ?b)
    case' a =>
      walk_at "go"
      have hx : (1 : Int) ≠ 0 ∧ (1 : Int).natAbs < 2 ^ 320 ∧ (g ≠ 0 → (1 : Int).fmod g ≠ 0) := ⟨by decide, by decide +kernel, fun z => one_fmod (hgr.two.resolve_left z)⟩
      generalize (1 : Int) = dd at hx ⊢
    case' b =>
      walk_at "go"
      refine w_ite (fun hc2 => ?c) (fun hc2 => ?d)
    case' c =>
      walk_at "go"
      refine w_I (by omega) ?_
      walk_at "go"
      refine w_ite (fun hc3 => ?e) (fun hc3 => ?f)
    case' e =>
      walk_at "go"
      have hx : (1 : Int) ≠ 0 ∧ (1 : Int).natAbs < 2 ^ 320 ∧ (g ≠ 0 → (1 : Int).fmod g ≠ 0) := ⟨by decide, by decide +kernel, fun z => one_fmod (hgr.two.resolve_left z)⟩
      generalize (1 : Int) = dd at hx ⊢
    case' f =>
      walk_at "go"
      have hx : dn ≠ 0 ∧ dn.natAbs < 2 ^ 320 ∧ (g ≠ 0 → dn.fmod g ≠ 0) := ⟨hc, hdn, fun _ => hc3⟩
      generalize hdd : dn = dd at hx ⊢
    case' d =>
      walk_at "go"
      have hx : dn ≠ 0 ∧ dn.natAbs < 2 ^ 320 ∧ (g ≠ 0 → dn.fmod g ≠ 0) := ⟨hc, hdn, fun z => absurd (by omega) hc2⟩
      generalize hdd : dn = dd at hx ⊢
    all_goals
      walk_at "go"
      refine ⟨b, rfl, hb1, fun H2 up hup m2 hb2 => ?_⟩
      walk_at "go"
      refine ⟨g, up, _, rfl, hg0, hg, hx.1, Nat.lt_of_lt_of_le hx.2.1 (Nat.pow_le_pow_right (by decide) (by decide)), fun p H3 hp s3 h3 => ?_⟩
      exact q _ _ _ ⟨p, rfl, h3⟩ (tn_low hgr.two hx.1 hx.2.2 (by decide) hup hx.2.1) (m1.trans (m2.trans (Mv.same s3))) (hb2.same s3)
theorem ok__law_is_made {f : Addr} {fd : FuncData} (F : FnP K "_law_is_made" s__law_is_made f fd)
    {f_number : Addr} {fd_number : FuncData} (F_number : FunD K "number" "number" (defArgs s_number) (defBody s_number) (defScope s_number) [.int 1] [] f_number fd_number) (b_number : Binds K fd_number ["ground", "top", "bottom"] []) (kb_number_2_bottom : L2.KBn K fd_number ["ground", "top", "bottom"] 2 ["bottom"] (fun us ws => us ++ ws) (fun us ws => us ++ ws)) (kb_number_0_bottom_ground_top : L2.KBn K fd_number ["ground", "top", "bottom"] 0 ["bottom", "ground", "top"] (fun _ ws => kq_number_0_bottom_ground_top ws) (fun _ ws => kq_number_0_bottom_ground_top ws)) (g_number : mg "number" = some (.ref f_number)) (G_number : FnOk P w K mg base (L2N.CX P w) 3 f_number fd_number ["ground", "top", "bottom"] (sp_number K))
    {f__law_low : Addr} {fd__law_low : FuncData} (F__law_low : FnP K "_law_low" s__law_low f__law_low fd__law_low) (b__law_low : Binds K fd__law_low ["_law_g", "_law_up", "_law_down"] []) (g__law_low : mg "_law_low" = some (.ref f__law_low)) (G__law_low : FnOk P w K mg base CX0 2 f__law_low fd__law_low ["_law_g", "_law_up", "_law_down"] (sp__law_low K))
    {f__law_top_of : Addr} {fd__law_top_of : FuncData} (F__law_top_of : FnP K "_law_top_of" s__law_top_of f__law_top_of fd__law_top_of) (b__law_top_of : Binds K fd__law_top_of ["_law_deed"] []) (g__law_top_of : mg "_law_top_of" = some (.ref f__law_top_of))
    {f__law_is_number : Addr} {fd__law_is_number : FuncData} (F__law_is_number : FnP K "_law_is_number" s__law_is_number f__law_is_number fd__law_is_number) (b__law_is_number : Binds K fd__law_is_number ["_law_g", "_law_thing"] []) (g__law_is_number : mg "_law_is_number" = some (.ref f__law_is_number)) (G__law_is_number : FnOk P w K mg base CX0 2 f__law_is_number fd__law_is_number ["_law_g", "_law_thing"] (sp__law_is_number K))
    {c P' : Addr} (FC : CodeAt K f c) (TB : LamX.TabB base mg c P') (hmT : (P', ((envOfC "_law_is_made" (defScope s__law_is_made) 0 0 .none).qual ++ "<lambda>")) ∈ T) (hu : ∀ p ∈ T, p.1 = P' → p.2 = ((envOfC "_law_is_made" (defScope s__law_is_made) 0 0 .none).qual ++ "<lambda>"))  (TO : TopC K mg) (m_all : mg "all" = none) :
    FnOk P w K mg base CX0 6 f fd ["_law_g", "_law_up", "_law_down"] (sp__law_is_made K T) := by
  refine okC F FC sc__law_is_made (fun vs H Q E h => ?_) (fun A outer s H vs Q E hr h => ?_)
  · obtain ⟨g, u, d, rfl, hg, hbu, hbd, hT, q⟩ := h
    rfl
  · obtain ⟨g, u, d, rfl, hg, hbu, hbd, hT, q⟩ := h
    refine ⟨_, PSs.nox (pss_cons (ps_if (PW.pt (pw_or (pt_cmpR op_eq (pv 2) pe_int (nomark _)) (pw_or1 (PW.pt (pw_and (pt_cmpR op_gt (pv 0) pe_int (nomark _)) (pw_and1 (pt_cmpR op_eq (pe_op op_modN (pv 2) (pv 0)) pe_int (nomark _)))))))) (pss_cons (ps_set (i := 3) sc__law_is_made.nd rfl (.inl rfl) (pe_tup (pa_cons (pe_call G__law_low (hr.mono (by decide)) (by rfl) g__law_low F__law_low.kp b__law_low .nil pass0 (pa_cons (pv 0) (pa_cons (pv 1) (pa_cons pe_int pa_nil)))) pa_nil)))
        (pss_cons (ps_if (pt_cmpR (op_neD hr.units) (pe_lamF (T := T) (TT := (TTtop K)) (k := 3) F__law_top_of b__law_top_of (by rfl) g__law_top_of sc__law_top_of rfl (.inl rfl) (fun _ => top_gives TO.g TO.exm TO.xf TO.hno) TB rfl hmT hu (hr.mono (by decide)) (LamX.lamS_by (sc := defScope s__law_is_made) (by decide +kernel)) rfl (fun _ _ _ _ _ => rfl) (fun _ _ _ _ _ _ _ hr2 => (pe_callS G_number hr2 (by rfl) g_number F_number.kp b_number (fun σ => L2N.passAt lamN_takes σ) (pa_cons (pv 0) (pa_cons (pv 1) (pa_cons (pv 2) pa_nil)))))) (pv 3) (nomark _)) (pss_one (ps_ret pe_bl)) pss_nil)
        (pss_one (ps_ret (pe_cmpR (op_eqD hr.units) (pe_lamF (T := T) (TT := (TTtop K)) (k := 3) F__law_top_of b__law_top_of (by rfl) g__law_top_of sc__law_top_of rfl (.inl rfl) (fun _ => top_gives TO.g TO.exm TO.xf TO.hno) TB rfl hmT hu (hr.mono (by decide)) (LamX.lamS_by (sc := defScope s__law_is_made) (by decide +kernel)) rfl (fun _ _ _ _ _ => rfl) (fun _ _ _ _ _ _ _ hr2 => (pe_callNS G_number hr2 (by rfl) g_number F_number.kp kb_number_2_bottom (fun σ => L2N.passAt lamN_takes σ) (pa_cons (pv 0) (pa_cons (pv 1) pa_nil)) (pk_cons pe_int pk_nil)))) (pv 3) (nomark _)))))) pss_nil)
        (pss_cons (ps_set (i := 4) sc__law_is_made.nd rfl (.inl rfl) (pe_lst (pa_cons (pe_call G_number (hr.mono (by decide)) (by rfl) g_number F_number.kp b_number .nil passLN (pa_cons (pv 0) (pa_cons (pv 1) (pa_cons (pv 2) pa_nil)))) (pa_cons (pe_callN G_number (hr.mono (by decide)) (by rfl) g_number F_number.kp kb_number_2_bottom passLN (pa_cons (pv 0) (pa_cons (pv 1) pa_nil)) (pk_cons (pv 2) pk_nil)) (pa_cons (pe_callN0 G_number (hr.mono (by decide)) (by rfl) g_number F_number.kp kb_number_0_bottom_ground_top passLN (pk_cons (pv 2) (pk_cons (pv 0) (pk_cons (pv 1) pk_nil)))) pa_nil)))))
        (pss_one (ps_ret (pe_and (pe_cmpR (op_eqD hr.units) (pv 4) (pe_op op_rep (pe_lst (pa_cons (pe_call G__law_low (hr.mono (by decide)) (by rfl) g__law_low F__law_low.kp b__law_low .nil pass0 (pa_cons (pv 0) (pa_cons (pv 1) (pa_cons (pv 2) pa_nil)))) pa_nil)) pe_int) (nomark _)) (pe_one (pe_callB (cr_all rfl) (by rfl) m_all (by decide +kernel) (pa_cons (pe_lc (own := [("_law_one", 5)]) (g := gName 5) (tt := tYes) (by rfl) sc__law_is_made.nd (pi_list (pv 4)) (blkOk_by (own := [("_law_one", 5)]) (N := ["_law_g", "_law_up", "_law_down", "_law_due", "_law_told", "_law_one"]) (sc := defScope s__law_is_made) (by decide +kernel)) (fun _ _ _ _ _ => (pg_name (i := 5) sc__law_is_made.nd rfl (.inl rfl))) (fun _ _ _ _ _ => pts_nil) (fun _ _ _ _ _ => (pe_call G__law_is_number (hr.mono (by decide)) (by rfl) g__law_is_number F__law_is_number.kp b__law_is_number .nil pass0 (pa_cons (pv 0) (pa_cons (pv 5) pa_nil))))) pa_nil)))))))), ?_⟩
    have ⟨hg0, hg13⟩ := grb hg
    have hu8 : u.natAbs < 2 ^ 8000 := Nat.lt_of_lt_of_le hbu (Nat.pow_le_pow_right (by decide) (by decide))
    have hd8 : d.natAbs < 2 ^ 8000 := Nat.lt_of_lt_of_le hbd (Nat.pow_le_pow_right (by decide) (by decide))
    cases hn : nghtOn g d with
    | true =>
      walk_at "go"
      refine w_ite (fun hc => ?a) (fun hc => ?b)
      case' b =>
        walk_at "go"
        refine w_ite (fun hc2 => ?c) (fun hc2 => ?d)
      case' d =>
        exfalso
        have e : g = 0 := by omega
        subst e
        exact hc (of_decide_eq_true hn)
      case' c =>
        walk_at "go"
        refine w_I (by omega) ?_
        walk_at "go"
        refine w_ite (fun hc3 => ?e) (fun hc3 => ?f)
      case' f =>
        exfalso
        unfold nghtOn at hn
        rw [if_neg (by omega)] at hn
        exact hc3 (of_decide_eq_true hn)
      all_goals
        walk_at "go"
        refine ⟨g, u, 1, rfl, hg0, hg13, by decide, by decide, fun p1 H1 hp1 s1 h1 => ?_⟩
        walk_at "go"
        refine w_new (by simp) fun p2 H2 hp2 s2 h2 => ?_
        walk_at "go"
        have x2 : Sx T H H2 := Sx.same hT (s1.trans s2)
        have d2 : RowV H2 (.ref p2) [lowF g u 1] := sqv1 h2 ⟨p1, rfl, s2 _ _ h1⟩
        refine ⟨x2.2, fun R3 f3 t3 => ?_⟩
        have x3 : Sx T H R3 := x2.trans ⟨f3, t3⟩
        refine ⟨.int g, rfl, .int u, rfl, .int d, rfl, .int g, u, d, rfl, .inl rfl, hu8, hd8, fun z => (no_grd hg z).elim, fun g' e h5 hn' p4 dd R4 r4 i4 j4 => ⟨dd, _, _, rfl, rfl, j4, rfl, sz1, fun t5 ht5 => ?_⟩, fun g' e h5 hn' => (ngt_no hn e hn').elim⟩
        cases e
        have s5 := same_upd (o := HO.tup [V.ref p4]) ht5
        have i5 : (upd R4 t5 (.tup [V.ref p4])) t5 = some (.tup [V.ref p4]) := upd_same
        generalize upd R4 t5 (.tup [V.ref p4]) = R5 at s5 i5 ⊢
        have x5 : Sx T H R5 := x3.trans (Sx.same t3 (r4.trans s5))
        have d5 : RowV R5 (.ref p2) [lowF g u 1] := RowV.kt d2 (Sx.kt (Sx.trans ⟨f3, t3⟩ (Sx.same t3 (r4.trans s5))))
        walk_at "go"
        refine w_neRow (sqv1 i5 ⟨p4, rfl, s5 _ _ i4⟩) d5 rfl ?_
        walk_at "go"
        refine ⟨x5.2, fun R6 f6 t6 => ?_⟩
        have x6 : Sx T H R6 := x5.trans ⟨f6, t6⟩
        have hn0 : nghtOn g 0 = true := by
          unfold nghtOn
          rw [Int.zero_fmod]
          split <;> rfl
        refine ⟨.int g, rfl, .int u, rfl, rfl, rfl, .int g, u, 0, rfl, .inl rfl, hu8, by decide, fun z => (no_grd hg z).elim, fun g' e h5 hn' p7 dd7 R7 r7 i7 j7 => ⟨dd7, _, _, rfl, rfl, j7, rfl, sz1, fun t8 ht8 => ?_⟩, fun g' e h5 hn' => (ngt_no hn0 e hn').elim⟩
        cases e
        have s8 := same_upd (o := HO.tup [V.ref p7]) ht8
        have i8 : (upd R7 t8 (.tup [V.ref p7])) t8 = some (.tup [V.ref p7]) := upd_same
        generalize upd R7 t8 (.tup [V.ref p7]) = R8 at s8 i8 ⊢
        have x68 : Sx T R6 R8 := Sx.same t6 (r7.trans s8)
        walk_at "go"
        refine w_eqRow (sqv1 i8 ⟨p7, rfl, s8 _ _ i7⟩) (RowV.kt d5 (Sx.kt (Sx.trans ⟨f6, t6⟩ x68))) ?_
        exact q _ (x6.trans x68)
    | false =>
      have ⟨hd0, hdg⟩ := ngt_off hn
      walk_at "go"
      refine w_ite (fun hc => absurd hc hd0) (fun hc => ?_)
      walk_at "go"
      refine w_ite (fun hc2 => ?m1) (fun hc2 => ?m2)
      case' m1 =>
        walk_at "go"
        refine w_I (by omega) ?_
        walk_at "go"
        refine w_ite (fun hc3 => absurd hc3 (hdg (by omega))) (fun hc3 => ?m3)
      all_goals
        have tl : TN g 3000 (lowF g u d) := tn_low hg hd0 hdg (by decide) hbu hbd
        walk_at "go"
        refine num_pre hg hu8 hd8 hn fun p1 H1 hp1 s1 h1 => ?_
        walk_at "go"
        refine w_callN ?_
        walk_at "go"
        refine ⟨rfl, rfl, num_pre hg hu8 hd8 hn fun p2 H2 hp2 s2 h2 => ?_⟩
        refine w_callN0 ?_
        walk_at "go"
        refine ⟨rfl, num_pre hg hu8 hd8 hn fun p3 H3 hp3 s3 h3 => ?_⟩
        walk_at "go"
        refine w_new (by simp) fun L4 H4 hL4 s4 h4 => ?_
        walk_at "go"
        refine ⟨g, u, d, rfl, hg0, hg13, hd0, hd8, fun p5 H5 hp5 s5 h5 => ?_⟩
        walk_at "go"
        refine w_new (by simp) fun L6 H6 hL6 s6 h6 => ?_
        walk_at "go"
        refine w_rep h6 (by decide) (by decide) (by simp) ?_
        refine w_newO fun L7 H7 hL7 s7 h7 => ?_
        have s47 := s5.trans (s6.trans s7)
        have a1 : Acc NumV H7 [.ref p1, .ref p2, .ref p3] [lowF g u d, lowF g u d, lowF g u d] 3 := acc3 ⟨p1, rfl, s47 _ _ (s4 _ _ (s3 _ _ (s2 _ _ h1)))⟩ ⟨p2, rfl, s47 _ _ (s4 _ _ (s3 _ _ h2))⟩ ⟨p3, rfl, s47 _ _ (s4 _ _ h3)⟩
        have n5 : NumV H7 (.ref p5) (lowF g u d) := ⟨p5, rfl, s7 _ _ (s6 _ _ h5)⟩
        have a2 : Acc NumV H7 [.ref p5, .ref p5, .ref p5] [lowF g u d, lowF g u d, lowF g u d] 3 := acc3 n5 n5 n5
        have h47 := s47 _ _ h4
        refine w_eqNums h47 h7 a1 a2 ?_
        walk_at "go"
        refine ⟨L4, rfl, ⟨_, SqL.of h47⟩, fun D hD => ?_⟩
        have ht := nums_true (g := g) a1 (fun a ha => by
          simp only [List.mem_cons, List.not_mem_nil, or_false, or_self] at ha
          rw [ha]
          exact tl.num)
        refine lc_list (xs := [V.ref p1, V.ref p2, V.ref p3]) (fun n H'' => Same H7 H'' ∧ H'' D = some (.lst ((List.replicate n true).map V.bl))) ⟨Same.updD (Same.refl H7) hD, upd_same⟩ (fun n H'' _ hP => SqL.of (hP.1 _ _ h47)) (fun n z H'' hz hP => ?_) (fun J2 hP => ?_)
        · obtain ⟨sn, hD'⟩ := hP
          have hn3 : n < 3 := (List.getElem?_eq_some_iff.mp hz).1
          have hzm := List.mem_of_getElem? hz
          have hzt : Th H7 z := by
            simp only [List.mem_cons, List.not_mem_nil, or_false] at hzm
            rcases hzm with rfl | rfl | rfl
            · exact Th.tup (s47 _ _ (s4 _ _ (s3 _ _ (s2 _ _ h1)))) rfl
            · exact Th.tup (s47 _ _ (s4 _ _ (s3 _ _ h2))) rfl
            · exact Th.tup (s47 _ _ (s4 _ _ h3)) rfl
          walk_at "go"
          refine ⟨rfl, ?_⟩
          walk_at "go"
          refine ⟨g, z, rfl, hg0, hzt.sm sn, fun H9 s9 => ?_⟩
          rw [numOf_kd hzt (Kd.of sn), ht z hzm]
          refine ⟨_, s9 _ _ hD', ?_, Same.updD (sn.trans s9) hD, ?_⟩
          · rw [List.length_map, List.length_replicate]
            exact small1000 (by omega)
          · rw [upd_same, List.replicate_succ', List.map_append]
            rfl
        · obtain ⟨k2, hD'⟩ := hP
          walk_at "go"
          refine ⟨D, _, rfl, SqL.of hD', ?_⟩
          rw [all_true]
          exact q _ (Sx.same hT (s1.trans (s2.trans (s3.trans (s4.trans (s47.trans k2))))))
theorem ok__law_is_right {f : Addr} {fd : FuncData} (F : FnP K "_law_is_right" s__law_is_right f fd)
    {f_plus : Addr} {fd_plus : FuncData} (F_plus : FnP K "plus" s_plus f_plus fd_plus) (b_plus : Binds K fd_plus ["ground", "x", "y"] []) (g_plus : mg "plus" = some (.ref f_plus)) (G_plus : FnOk P w K mg base CX0 3 f_plus fd_plus ["ground", "x", "y"] (sp_plus K))
    {f_less : Addr} {fd_less : FuncData} (F_less : FnP K "less" s_less f_less fd_less) (b_less : Binds K fd_less ["ground", "x", "y"] []) (g_less : mg "less" = some (.ref f_less)) (G_less : FnOk P w K mg base CX0 3 f_less fd_less ["ground", "x", "y"] (sp_less K))
    {f_times : Addr} {fd_times : FuncData} (F_times : FnP K "times" s_times f_times fd_times) (b_times : Binds K fd_times ["ground", "x", "y"] []) (g_times : mg "times" = some (.ref f_times)) (G_times : FnOk P w K mg base CX0 3 f_times fd_times ["ground", "x", "y"] (sp_times K))
    {f__law_is_number : Addr} {fd__law_is_number : FuncData} (F__law_is_number : FnP K "_law_is_number" s__law_is_number f__law_is_number fd__law_is_number) (b__law_is_number : Binds K fd__law_is_number ["_law_g", "_law_thing"] []) (g__law_is_number : mg "_law_is_number" = some (.ref f__law_is_number)) (G__law_is_number : FnOk P w K mg base CX0 2 f__law_is_number fd__law_is_number ["_law_g", "_law_thing"] (sp__law_is_number K))
    {f__law_plus : Addr} {fd__law_plus : FuncData} (F__law_plus : FnP K "_law_plus" s__law_plus f__law_plus fd__law_plus) (b__law_plus : Binds K fd__law_plus ["_law_g", "_law_x", "_law_y"] []) (g__law_plus : mg "_law_plus" = some (.ref f__law_plus)) (G__law_plus : FnOk P w K mg base CX0 3 f__law_plus fd__law_plus ["_law_g", "_law_x", "_law_y"] (sp__law_plus K))
    {f__law_times : Addr} {fd__law_times : FuncData} (F__law_times : FnP K "_law_times" s__law_times f__law_times fd__law_times) (b__law_times : Binds K fd__law_times ["_law_g", "_law_x", "_law_y"] []) (g__law_times : mg "_law_times" = some (.ref f__law_times)) (G__law_times : FnOk P w K mg base CX0 3 f__law_times fd__law_times ["_law_g", "_law_x", "_law_y"] (sp__law_times K))
    {f__law_top_of : Addr} {fd__law_top_of : FuncData} (F__law_top_of : FnP K "_law_top_of" s__law_top_of f__law_top_of fd__law_top_of) (b__law_top_of : Binds K fd__law_top_of ["_law_deed"] []) (g__law_top_of : mg "_law_top_of" = some (.ref f__law_top_of))
    {f_over : Addr} {fd_over : FuncData} (F_over : FnP K "over" s_over f_over fd_over) (b_over : Binds K fd_over ["ground", "x", "y"] []) (g_over : mg "over" = some (.ref f_over)) (G_over : FnOk P w K mg base (L2N.CX P w) 3 f_over fd_over ["ground", "x", "y"] (sp_over K))
    {f__law_over : Addr} {fd__law_over : FuncData} (F__law_over : FnP K "_law_over" s__law_over f__law_over fd__law_over) (b__law_over : Binds K fd__law_over ["_law_g", "_law_x", "_law_y"] []) (g__law_over : mg "_law_over" = some (.ref f__law_over)) (G__law_over : FnOk P w K mg base CX0 3 f__law_over fd__law_over ["_law_g", "_law_x", "_law_y"] (sp__law_over K))
    {f__law_minus : Addr} {fd__law_minus : FuncData} (F__law_minus : FnP K "_law_minus" s__law_minus f__law_minus fd__law_minus) (b__law_minus : Binds K fd__law_minus ["_law_g", "_law_x"] []) (g__law_minus : mg "_law_minus" = some (.ref f__law_minus)) (G__law_minus : FnOk P w K mg base CX0 3 f__law_minus fd__law_minus ["_law_g", "_law_x"] (sp__law_minus K))
    {c P' : Addr} (FC : CodeAt K f c) (TB : LamX.TabB base mg c P') (hmT : (P', ((envOfC "_law_is_right" (defScope s__law_is_right) 0 0 .none).qual ++ "<lambda>")) ∈ T) (hu : ∀ p ∈ T, p.1 = P' → p.2 = ((envOfC "_law_is_right" (defScope s__law_is_right) 0 0 .none).qual ++ "<lambda>"))  (TO : TopC K mg) (m_all : mg "all" = none) :
    FnOk P w K mg base CX0 6 f fd ["_law_g", "_law_x", "_law_y"] (sp__law_is_right K T) := by
  refine okC F FC sc__law_is_right (fun vs H Q E h => ?_) (fun A outer s H vs Q E hr h => ?_)
  · obtain ⟨g, x, y, a, c, rfl, hg, hx, hy, ha, hc, hT, q⟩ := h
    rfl
  · obtain ⟨g, x, y, a, c, rfl, hg, hx, hy, ha, hc, hT, q⟩ := h
    refine ⟨_, PSs.nox (pss_cons (ps_set (i := 3) sc__law_is_right.nd rfl (.inl rfl) (pe_lst (pa_cons (pe_call G_plus (hr.mono (by decide)) (by rfl) g_plus F_plus.kp b_plus .nil pass0 (pa_cons (pv 0) (pa_cons (pv 1) (pa_cons (pv 2) pa_nil)))) (pa_cons (pe_call G_less (hr.mono (by decide)) (by rfl) g_less F_less.kp b_less .nil pass0 (pa_cons (pv 0) (pa_cons (pv 1) (pa_cons (pv 2) pa_nil)))) (pa_cons (pe_call G_times (hr.mono (by decide)) (by rfl) g_times F_times.kp b_times .nil pass0 (pa_cons (pv 0) (pa_cons (pv 1) (pa_cons (pv 2) pa_nil)))) pa_nil)))))
        (pss_cons (ps_if (pt_cmpR (op_neD hr.units) (pv 3) (pe_lst (pa_cons (pe_call G__law_plus (hr.mono (by decide)) (by rfl) g__law_plus F__law_plus.kp b__law_plus .nil pass0 (pa_cons (pv 0) (pa_cons (pv 1) (pa_cons (pv 2) pa_nil)))) (pa_cons (pe_call G__law_plus (hr.mono (by decide)) (by rfl) g__law_plus F__law_plus.kp b__law_plus .nil pass0 (pa_cons (pv 0) (pa_cons (pv 1) (pa_cons (pe_call G__law_minus (hr.mono (by decide)) (by rfl) g__law_minus F__law_minus.kp b__law_minus .nil pass0 (pa_cons (pv 0) (pa_cons (pv 2) pa_nil))) pa_nil)))) (pa_cons (pe_call G__law_times (hr.mono (by decide)) (by rfl) g__law_times F__law_times.kp b__law_times .nil pass0 (pa_cons (pv 0) (pa_cons (pv 1) (pa_cons (pv 2) pa_nil)))) pa_nil)))) (nomark _)) (pss_one (ps_ret pe_bl)) pss_nil)
        (pss_cons (ps_if (pt_not (pt_val (pe_callB (cr_all rfl) (by rfl) m_all (by decide +kernel) (pa_cons (pe_lc (own := [("_law_one", 4)]) (g := gName 4) (tt := tYes) (by rfl) sc__law_is_right.nd (pi_list (pv 3)) (blkOk_by (own := [("_law_one", 4)]) (N := ["_law_g", "_law_x", "_law_y", "_law_told", "_law_one"]) (sc := defScope s__law_is_right) (by decide +kernel)) (fun _ _ _ _ _ => (pg_name (i := 4) sc__law_is_right.nd rfl (.inl rfl))) (fun _ _ _ _ _ => pts_nil) (fun _ _ _ _ _ => (pe_call G__law_is_number (hr.mono (by decide)) (by rfl) g__law_is_number F__law_is_number.kp b__law_is_number .nil pass0 (pa_cons (pv 0) (pa_cons (pv 4) pa_nil))))) pa_nil)))) (pss_one (ps_ret pe_bl)) pss_nil)
        (pss_cons (ps_if (pt_cmpR (op_eqD hr.units) (pv 2) (pe_tup (pa_cons pe_int (pa_cons pe_int pa_nil))) (nomark _)) (pss_one (ps_ret (pe_cmpR (op_eqD hr.units) (pe_lamF (T := T) (TT := (TTtop K)) (k := 3) F__law_top_of b__law_top_of (by rfl) g__law_top_of sc__law_top_of rfl (.inl rfl) (fun _ => top_gives TO.g TO.exm TO.xf TO.hno) TB rfl hmT hu (hr.mono (by decide)) (LamX.lamS_by (sc := defScope s__law_is_right) (by decide +kernel)) rfl (fun _ _ _ _ _ => rfl) (fun _ _ _ _ _ _ _ hr2 => (pe_callS G_over hr2 (by rfl) g_over F_over.kp b_over (fun σ => L2N.passAt lamN_takes σ) (pa_cons (pv 0) (pa_cons (pv 1) (pa_cons (pv 2) pa_nil)))))) (pe_tup (pa_cons (pv 1) pa_nil)) (nomark _)))) pss_nil)
        (pss_one (ps_ret (pe_and (pe_cmpR (op_eqD hr.units) (pe_call G_over (hr.mono (by decide)) (by rfl) g_over F_over.kp b_over .nil passLN (pa_cons (pv 0) (pa_cons (pv 1) (pa_cons (pv 2) pa_nil)))) (pe_call G__law_over (hr.mono (by decide)) (by rfl) g__law_over F__law_over.kp b__law_over .nil pass0 (pa_cons (pv 0) (pa_cons (pv 1) (pa_cons (pv 2) pa_nil)))) (nomark _)) (pe_one (pe_call G__law_is_number (hr.mono (by decide)) (by rfl) g__law_is_number F__law_is_number.kp b__law_is_number .nil pass0 (pa_cons (pv 0) (pa_cons (pe_call G_over (hr.mono (by decide)) (by rfl) g_over F_over.kp b_over .nil passLN (pa_cons (pv 0) (pa_cons (pv 1) (pa_cons (pv 2) pa_nil)))) pa_nil))))))))))), ?_⟩
    have ⟨hg0, hg13⟩ := grb hg
    have pa := ha.bd (show 2900 ≤ 3000 by decide)
    have pc := hc.bd (show 2900 ≤ 3000 by decide)
    walk_at "go"
    refine ⟨g, x, y, a, c, 2900, 2900, rfl, hg, hx, hy, ha, hc, by decide, by decide, by decide, by decide, fun p1 H1 hp1 s1 h1 => ?_⟩
    walk_at "go"
    refine ⟨g, x, y, a, c, 2900, 2900, rfl, hg, hx.kt (Kt.of s1), hy.kt (Kt.of s1), ha, hc, by decide, by decide, by decide, by decide, fun p2 H2 hp2 s2 h2 => ?_⟩
    have s12 := s1.trans s2
    walk_at "go"
    refine ⟨g, x, y, a, c, 2900, 2900, rfl, hg, hx.kt (Kt.of s12), hy.kt (Kt.of s12), ha, hc, by decide, by decide, by decide, by decide, fun p3 H3 hp3 s3 h3 => ?_⟩
    have s13 := s12.trans s3
    walk_at "go"
    refine w_new (by simp) fun L4 H4 hL4 s4 h4 => ?_
    have s14 := s13.trans s4
    walk_at "go"
    refine ⟨g, x, y, a, c, rfl, hg0, hg13, hx.kt (Kt.of s14), hy.kt (Kt.of s14), pa, pc, fun p5 H5 hp5 s5 h5 => ?_⟩
    have s15 := s14.trans s5
    walk_at "go"
    refine ⟨g, y, c, rfl, hg0, hg13, hy.kt (Kt.of s15), Nat.lt_of_lt_of_le pc.2.1 (Nat.pow_le_pow_right (by decide) (by decide)), pc.2.2, fun p6 H6 hp6 s6 h6 => ?_⟩
    have s16 := s15.trans s6
    have tm := tn_minus hg hc (by decide)
    walk_at "go"
    refine ⟨g, x, .ref p6, a, minusF g c, rfl, hg0, hg13, hx.kt (Kt.of s16), ⟨p6, rfl, h6⟩, pa, tm.bd (by decide), fun p7 H7 hp7 s7 h7 => ?_⟩
    have s17 := s16.trans s7
    rw [less_eq hg ha hc (by decide) (by decide)] at h7
    walk_at "go"
    refine ⟨g, x, y, a, c, rfl, hg0, hg13, hx.kt (Kt.of s17), hy.kt (Kt.of s17), pa, pc, fun p8 H8 hp8 s8 h8 => ?_⟩
    walk_at "go"
    refine w_new (by simp) fun L9 H9 hL9 s9 h9 => ?_
    have s19 := s17.trans (s8.trans s9)
    have s49 := s5.trans (s6.trans (s7.trans (s8.trans s9)))
    have a1 : Acc NumV H9 [.ref p1, .ref p2, .ref p3] [plusF g a c, lessF g a c, timesF g a c] 3 := acc3 ⟨p1, rfl, s49 _ _ (s4 _ _ (s3 _ _ (s2 _ _ h1)))⟩ ⟨p2, rfl, s49 _ _ (s4 _ _ (s3 _ _ h2))⟩ ⟨p3, rfl, s49 _ _ (s4 _ _ h3)⟩
    have a2 : Acc NumV H9 [.ref p5, .ref p7, .ref p8] [plusF g a c, lessF g a c, timesF g a c] 3 := acc3 ⟨p5, rfl, s9 _ _ (s8 _ _ (s7 _ _ (s6 _ _ h5)))⟩ ⟨p7, rfl, s9 _ _ (s8 _ _ h7)⟩ ⟨p8, rfl, s9 _ _ h8⟩
    have h49 := s49 _ _ h4
    refine w_neNums h49 h9 a1 a2 ?_
    walk_at "go"
    refine ⟨L4, rfl, ⟨_, SqL.of h49⟩, fun D hD => ?_⟩
    have ht := nums_true (g := g) a1 (fun z hz => by
      simp only [List.mem_cons, List.not_mem_nil, or_false] at hz
      rcases hz with rfl | rfl | rfl
      · exact (tn_plus hg ha hc (by decide)).num
      · exact (tn_less hg ha hc (by decide)).num
      · exact (tn_times hg ha hc (by decide)).num)
    refine lc_list (xs := [V.ref p1, V.ref p2, V.ref p3]) (fun n H'' => Same H9 H'' ∧ H'' D = some (.lst ((List.replicate n true).map V.bl))) ⟨Same.updD (Same.refl H9) hD, upd_same⟩ (fun n H'' _ hP => SqL.of (hP.1 _ _ h49)) (fun n z H'' hz hP => ?_) (fun J2 hP => ?_)
    · obtain ⟨sn, hD'⟩ := hP
      have hn3 : n < 3 := (List.getElem?_eq_some_iff.mp hz).1
      have hzm := List.mem_of_getElem? hz
      have hzt : Th H9 z := by
        simp only [List.mem_cons, List.not_mem_nil, or_false] at hzm
        rcases hzm with rfl | rfl | rfl
        · exact Th.tup (s49 _ _ (s4 _ _ (s3 _ _ (s2 _ _ h1)))) rfl
        · exact Th.tup (s49 _ _ (s4 _ _ (s3 _ _ h2))) rfl
        · exact Th.tup (s49 _ _ (s4 _ _ h3)) rfl
      walk_at "go"
      refine ⟨rfl, ?_⟩
      walk_at "go"
      refine ⟨g, z, rfl, hg0, hzt.sm sn, fun H9 s9 => ?_⟩
      rw [numOf_kd hzt (Kd.of sn), ht z hzm]
      refine ⟨_, s9 _ _ hD', ?_, Same.updD (sn.trans s9) hD, ?_⟩
      · rw [List.length_map, List.length_replicate]
        exact small1000 (by omega)
      · rw [upd_same, List.replicate_succ', List.map_append]
        rfl
    · obtain ⟨k2, hD'⟩ := hP
      walk_at "go"
      refine ⟨D, _, rfl, SqL.of hD', ?_⟩
      rw [all_true]
      walk_at "go"
      refine iteF ?_
      walk_at "go"
      refine w_new (by simp) fun p10 G0 hp10 t10 g10 => ?_
      have s110 := s19.trans (k2.trans t10)
      have hyG := hy.kt (Kt.of s110)
      have hxG := hx.kt (Kt.of s110)
      refine w_eqNum (b := (0, 1)) hyG ⟨p10, rfl, g10⟩ ?_
      walk_at "go"
      refine w_ite (fun hz => ?_) (fun hz => ?_)
      · walk_at "go"
        have x1 : Sx T H G0 := Sx.same hT s110
        refine ⟨x1.2, fun R3 f3 t3 => ?_⟩
        have x3 : Sx T G0 R3 := ⟨f3, t3⟩
        refine ⟨.int g, rfl, x, rfl, y, rfl, g, x, y, a, c, 2900, 2900, rfl, hg, hxG.kt x3.kt, hyG.kt x3.kt, ha, hc, by decide, by decide, by decide, by decide, fun z => absurd (by rw [hz]) z, fun _ dd R4 hdd r4 j4 => ⟨dd, _, _, rfl, rfl, j4, rfl, sz1, fun t5 ht5 => ?_⟩⟩
        have s5 := same_upd (o := HO.tup [x]) ht5
        have i5 : (upd R4 t5 (.tup [x])) t5 = some (.tup [x]) := upd_same
        generalize upd R4 t5 (.tup [x]) = R5 at s5 i5 ⊢
        walk_at "go"
        refine w_new (by simp) fun p6 R6 hp6 r6 i6 => ?_
        have x6 : Sx T R3 R6 := Sx.same t3 (r4.trans (s5.trans r6))
        have hx6 := (hxG.kt x3.kt).kt x6.kt
        refine w_eqRow (sqv1 (r6 _ _ i5) hx6) (sqv1 i6 hx6) ?_
        exact q _ (x1.trans (x3.trans x6))
      · have zc : c.1 ≠ 0 := fun z => hz (hc.zero.mp z)
        walk_at "go"
        refine ⟨g, x, y, a, c, 2900, 2900, rfl, hg, hxG, hyG, ha, hc, by decide, by decide, by decide, by decide, fun _ p11 G1 hp11 t11 g11 => ?_, fun z => absurd z zc⟩
        have hx1 := hxG.kt (Kt.of t11)
        have hy1 := hyG.kt (Kt.of t11)
        walk_at "go"
        refine ⟨g, x, y, a, c, rfl, hg0, hg13, hx1, hy1, pa, pc, zc, fun p12 G2 hp12 t12 g12 => ?_⟩
        refine w_eqNum ⟨p11, rfl, t12 _ _ g11⟩ ⟨p12, rfl, g12⟩ ?_
        rw [decide_eq_true rfl]
        walk_at "go"
        refine ⟨g, x, y, a, c, 2900, 2900, rfl, hg, hx1.kt (Kt.of t12), hy1.kt (Kt.of t12), ha, hc, by decide, by decide, by decide, by decide, fun _ p13 G3 hp13 t13 g13 => ?_, fun z => absurd z zc⟩
        walk_at "go"
        refine ⟨g, .ref p13, rfl, hg0, Th.tup g13 rfl, fun G4 t14 => ?_⟩
        rw [numOf_tup g13, (tn_ovr hg ha hc (by decide) zc).num]
        exact q _ (Sx.same hT (s110.trans (t11.trans (t12.trans (t13.trans t14)))))
theorem ok_law {f : Addr} {fd : FuncData} (F : FnP K "law" s_law f fd)
    {f__law_bag : Addr} {fd__law_bag : FuncData} (F__law_bag : FnP K "_law_bag" s__law_bag f__law_bag fd__law_bag) (b__law_bag : Binds K fd__law_bag ["_law_script", "_law_at"] []) (g__law_bag : mg "_law_bag" = some (.ref f__law_bag)) (G__law_bag : FnOk P w K mg base CX0 1 f__law_bag fd__law_bag ["_law_script", "_law_at"] (sp__law_bag K))
    {f__law_long_pair : Addr} {fd__law_long_pair : FuncData} (F__law_long_pair : FnP K "_law_long_pair" s__law_long_pair f__law_long_pair fd__law_long_pair) (b__law_long_pair : Binds K fd__law_long_pair ["_law_bag_here", "_law_rows"] []) (g__law_long_pair : mg "_law_long_pair" = some (.ref f__law_long_pair)) (G__law_long_pair : FnOk P w K mg base CX0 2 f__law_long_pair fd__law_long_pair ["_law_bag_here", "_law_rows"] (sp__law_long_pair K))
    {f__law_ground : Addr} {fd__law_ground : FuncData} (F__law_ground : FnP K "_law_ground" s__law_ground f__law_ground fd__law_ground) (b__law_ground : Binds K fd__law_ground ["_law_bag_here"] []) (g__law_ground : mg "_law_ground" = some (.ref f__law_ground)) (G__law_ground : FnOk P w K mg base CX0 2 f__law_ground fd__law_ground ["_law_bag_here"] (sp__law_ground K))
    {f__law_odd : Addr} {fd__law_odd : FuncData} (F__law_odd : FnP K "_law_odd" s__law_odd f__law_odd fd__law_odd) (b__law_odd : Binds K fd__law_odd ["_law_bag_here"] []) (g__law_odd : mg "_law_odd" = some (.ref f__law_odd)) (G__law_odd : FnOk P w K mg base CX0 2 f__law_odd fd__law_odd ["_law_bag_here"] (sp__law_odd K))
    {f__law_refusal : Addr} {fd__law_refusal : FuncData} (F__law_refusal : FnP K "_law_refusal" s__law_refusal f__law_refusal fd__law_refusal) (b__law_refusal : Binds K fd__law_refusal ["_law_deed"] []) (g__law_refusal : mg "_law_refusal" = some (.ref f__law_refusal))
    {f_number : Addr} {fd_number : FuncData} (F_number : FunD K "number" "number" (defArgs s_number) (defBody s_number) (defScope s_number) [.int 1] [] f_number fd_number) (b_number : Binds K fd_number ["ground", "top", "bottom"] []) {ds_number : List Value} (hd_number : Vals [.int 1] ds_number) (bd_number : Binds K fd_number ["ground", "top", "bottom"] ds_number) (kb_number_0_ground_top_bottom : L2.KBn K fd_number ["ground", "top", "bottom"] 0 ["ground", "top", "bottom"] (fun us ws => us ++ ws) (fun us ws => us ++ ws)) (g_number : mg "number" = some (.ref f_number)) (G_number : FnOk P w K mg base (L2N.CX P w) 3 f_number fd_number ["ground", "top", "bottom"] (sp_number K))
    {f__law_whole_draw : Addr} {fd__law_whole_draw : FuncData} (F__law_whole_draw : FnP K "_law_whole_draw" s__law_whole_draw f__law_whole_draw fd__law_whole_draw) (b__law_whole_draw : Binds K fd__law_whole_draw ["_law_bag_here"] []) (g__law_whole_draw : mg "_law_whole_draw" = some (.ref f__law_whole_draw)) (G__law_whole_draw : FnOk P w K mg base CX0 2 f__law_whole_draw fd__law_whole_draw ["_law_bag_here"] (sp__law_whole_draw K))
    {f__law_low : Addr} {fd__law_low : FuncData} (F__law_low : FnP K "_law_low" s__law_low f__law_low fd__law_low) (b__law_low : Binds K fd__law_low ["_law_g", "_law_up", "_law_down"] []) (g__law_low : mg "_law_low" = some (.ref f__law_low)) (G__law_low : FnOk P w K mg base CX0 2 f__law_low fd__law_low ["_law_g", "_law_up", "_law_down"] (sp__law_low K))
    {f__law_any_number : Addr} {fd__law_any_number : FuncData} (F__law_any_number : FnP K "_law_any_number" s__law_any_number f__law_any_number fd__law_any_number) (b__law_any_number : Binds K fd__law_any_number ["_law_bag_here", "_law_g"] []) (g__law_any_number : mg "_law_any_number" = some (.ref f__law_any_number)) (G__law_any_number : FnOk P w K mg base CX0 3 f__law_any_number fd__law_any_number ["_law_bag_here", "_law_g"] (sp__law_any_number K))
    {f__law_take : Addr} {fd__law_take : FuncData} (F__law_take : FnP K "_law_take" s__law_take f__law_take fd__law_take) (b__law_take : Binds K fd__law_take ["_law_bag_here", "_law_many"] []) (g__law_take : mg "_law_take" = some (.ref f__law_take)) (G__law_take : FnOk P w K mg base CX0 1 f__law_take fd__law_take ["_law_bag_here", "_law_many"] (sp__law_take K))
    {f__law_is_made : Addr} {fd__law_is_made : FuncData} (F__law_is_made : FnP K "_law_is_made" s__law_is_made f__law_is_made fd__law_is_made) (b__law_is_made : Binds K fd__law_is_made ["_law_g", "_law_up", "_law_down"] []) (g__law_is_made : mg "_law_is_made" = some (.ref f__law_is_made)) (G__law_is_made : FnOk P w K mg base CX0 6 f__law_is_made fd__law_is_made ["_law_g", "_law_up", "_law_down"] (sp__law_is_made K T))
    {f__law_minus : Addr} {fd__law_minus : FuncData} (F__law_minus : FnP K "_law_minus" s__law_minus f__law_minus fd__law_minus) (b__law_minus : Binds K fd__law_minus ["_law_g", "_law_x"] []) (g__law_minus : mg "_law_minus" = some (.ref f__law_minus)) (G__law_minus : FnOk P w K mg base CX0 3 f__law_minus fd__law_minus ["_law_g", "_law_x"] (sp__law_minus K))
    {f__law_is_right : Addr} {fd__law_is_right : FuncData} (F__law_is_right : FnP K "_law_is_right" s__law_is_right f__law_is_right fd__law_is_right) (b__law_is_right : Binds K fd__law_is_right ["_law_g", "_law_x", "_law_y"] []) (g__law_is_right : mg "_law_is_right" = some (.ref f__law_is_right)) (G__law_is_right : FnOk P w K mg base CX0 6 f__law_is_right fd__law_is_right ["_law_g", "_law_x", "_law_y"] (sp__law_is_right K T))
    {f__law_is_whole : Addr} {fd__law_is_whole : FuncData} (F__law_is_whole : FnP K "_law_is_whole" s__law_is_whole f__law_is_whole fd__law_is_whole) (b__law_is_whole : Binds K fd__law_is_whole ["_law_thing"] []) (g__law_is_whole : mg "_law_is_whole" = some (.ref f__law_is_whole)) (G__law_is_whole : FnOk P w K mg base CX0 1 f__law_is_whole fd__law_is_whole ["_law_thing"] (sp__law_is_whole K))
    {c P' : Addr} (FC : CodeAt K f c) (TB : LamX.TabB base mg c P') (hmT : (P', ((envOfC "law" (defScope s_law) 0 0 .none).qual ++ "<lambda>")) ∈ T) (hu : ∀ p ∈ T, p.1 = P' → p.2 = ((envOfC "law" (defScope s_law) 0 0 .none).qual ++ "<lambda>"))  (MG : MirG K mg) (TO : TopC K mg) (MC_NoGround : MirC K (He.ga K "NoGround") "NoGround") (m_range : mg "range" = none) (m_max : mg "max" = none) (m_min : mg "min" = none) (m_len : mg "len" = none) :
    FnOk P w K mg base CX0 7 f fd ["_law_script"] (sp_law K T) := by
  refine okC F FC sc_law (fun vs H Q E h => ?_) (fun A outer s H vs Q E hr h => ?_)
  · obtain ⟨a, ns, rfl, hA, hT, q⟩ := h
    rfl
  · obtain ⟨a, ns, rfl, hA, hT, q⟩ := h
    refine ⟨_, PSs.nox (pss_cons (ps_for PassesOwn.never rfl (pi_range1 (by rfl) m_range (pa_cons (pe_callB (call_max2 rfl) (by rfl) m_max (by decide +kernel) (pa_cons pe_int (pa_cons (pe_callB (call_min2 rfl) (by rfl) m_min (by decide +kernel) (pa_cons pe_int (pa_cons (pe_callB call_len_seq (by rfl) m_len (by decide +kernel) (pa_cons (pv 0) pa_nil)) pa_nil))) pa_nil))) pa_nil)) (pg_name (i := 1) sc_law.nd rfl (.inl rfl)) (pss_cons (ps_set (i := 2) sc_law.nd rfl (.inl rfl) (pe_call G__law_bag (hr.mono (by decide)) (by rfl) g__law_bag F__law_bag.kp b__law_bag .nil pass0 (pa_cons (pv 0) (pa_cons (pv 1) pa_nil))))
        (pss_one (ps_for PassesOwn.never rfl (pi_range1 (by rfl) m_range (pa_cons pe_int pa_nil)) (pg_name (i := 3) sc_law.nd rfl (.inl rfl)) (pss_cons (ps_set (i := 4) sc_law.nd rfl (.inl rfl) (pe_call G__law_ground (hr.mono (by decide)) (by rfl) g__law_ground F__law_ground.kp b__law_ground .nil pass0 (pa_cons (pv 2) pa_nil)))
        (pss_cons (ps_asg (pe_tup (pa_cons (pe_call G__law_whole_draw (hr.mono (by decide)) (by rfl) g__law_whole_draw F__law_whole_draw.kp b__law_whole_draw .nil pass0 (pa_cons (pv 2) pa_nil)) (pa_cons (pe_call G__law_whole_draw (hr.mono (by decide)) (by rfl) g__law_whole_draw F__law_whole_draw.kp b__law_whole_draw .nil pass0 (pa_cons (pv 2) pa_nil)) pa_nil))) (pg_tup rfl (pgs_cons (pg_name (i := 9) sc_law.nd rfl (.inr rfl)) (pgs_cons (pg_name (i := 7) sc_law.nd rfl (.inr rfl)) pgs_nil))))
        (pss_cons (ps_if (PW.pt (pw_or (pt_not (pt_val (pe_call G__law_is_made hr (by rfl) g__law_is_made F__law_is_made.kp b__law_is_made .nil pass0 (pa_cons (pv 4) (pa_cons (pv 9) (pa_cons (pv 7) pa_nil)))))) (pw_or1 (pt_not (pt_val (pe_call G__law_is_made hr (by rfl) g__law_is_made F__law_is_made.kp b__law_is_made .nil pass0 (pa_cons (pv 4) (pa_cons (pv 7) (pa_cons (pv 9) pa_nil))))))))) (pss_one (ps_ret pe_bl)) pss_nil)
        (pss_cons (ps_if (pt_cmpR (op_neD hr.units) (pe_call G_number (hr.mono (by decide)) (by rfl) g_number F_number.kp bd_number hd_number passLN (pa_cons (pv 4) (pa_cons (pv 9) pa_nil))) (pe_call G__law_low (hr.mono (by decide)) (by rfl) g__law_low F__law_low.kp b__law_low .nil pass0 (pa_cons (pv 4) (pa_cons (pv 9) (pa_cons pe_int pa_nil)))) (nomark _)) (pss_one (ps_ret pe_bl)) pss_nil)
        (pss_cons (ps_par (i := 5) (j := 6) (by rfl) sc_law.nd rfl rfl (by decide) rfl rfl (pa_cons (pe_call G__law_any_number (hr.mono (by decide)) (by rfl) g__law_any_number F__law_any_number.kp b__law_any_number .nil pass0 (pa_cons (pv 2) (pa_cons (pv 4) pa_nil))) (pa_cons (pe_call G__law_any_number (hr.mono (by decide)) (by rfl) g__law_any_number F__law_any_number.kp b__law_any_number .nil pass0 (pa_cons (pv 2) (pa_cons (pv 4) pa_nil))) pa_nil)) (by rfl))
        (pss_cons (ps_set (i := 6) sc_law.nd rfl (.inl rfl) (pe_ix ix_list (pe_lst (pa_cons (pv 6) (pa_cons (pv 6) (pa_cons (pv 6) (pa_cons (pv 5) (pa_cons (pe_call G__law_minus (hr.mono (by decide)) (by rfl) g__law_minus F__law_minus.kp b__law_minus .nil pass0 (pa_cons (pv 4) (pa_cons (pv 5) pa_nil))) (pa_cons (pe_tup (pa_cons pe_int (pa_cons pe_int pa_nil))) (pa_cons (pe_tup (pa_cons pe_int (pa_cons pe_int pa_nil))) (pa_cons (pv 6) pa_nil))))))))) (pe_call G__law_take (hr.mono (by decide)) (by rfl) g__law_take F__law_take.kp b__law_take .nil pass0 (pa_cons (pv 2) (pa_cons pe_int pa_nil))) (fun _ _ => rfl)))
        (pss_cons (ps_if (PW.pt (pw_or (pt_not (pt_val (pe_call G__law_is_right hr (by rfl) g__law_is_right F__law_is_right.kp b__law_is_right .nil pass0 (pa_cons (pv 4) (pa_cons (pv 5) (pa_cons (pv 6) pa_nil)))))) (pw_or (pt_not (pt_val (pe_call G__law_is_right hr (by rfl) g__law_is_right F__law_is_right.kp b__law_is_right .nil pass0 (pa_cons (pv 4) (pa_cons (pv 6) (pa_cons (pv 5) pa_nil)))))) (pw_or1 (pt_not (pt_val (pe_call G__law_is_right hr (by rfl) g__law_is_right F__law_is_right.kp b__law_is_right .nil pass0 (pa_cons pe_int (pa_cons (pe_tup (pa_cons pe_int (pa_cons pe_int pa_nil))) (pa_cons (pe_tup (pa_cons pe_int (pa_cons pe_int pa_nil))) pa_nil)))))))))) (pss_one (ps_ret pe_bl)) pss_nil)
        (pss_cons (ps_set (i := 8) sc_law.nd rfl (.inr rfl) (pe_call G__law_odd (hr.mono (by decide)) (by rfl) g__law_odd F__law_odd.kp b__law_odd .nil pass0 (pa_cons (pv 2) pa_nil)))
        (pss_one (ps_if (PW.pt (pw_or (pt_not (pt_val (pe_call G__law_is_whole (hr.mono (by decide)) (by rfl) g__law_is_whole F__law_is_whole.kp b__law_is_whole .nil pass0 (pa_cons (pv 8) pa_nil)))) (pw_or1 (pt_cmpR op_ne (pv 8) pe_int (nomark _))))) (pss_one (ps_if (pt_cmpR op_ne (pe_lamF (T := T) (TT := (TTref K)) (k := 3) F__law_refusal b__law_refusal (by rfl) g__law_refusal sc__law_refusal rfl (.inl rfl) (fun _ => refusal_gives MG) TB rfl hmT hu (hr.mono (by decide)) (LamX.lamS_by (sc := defScope s_law) (by decide +kernel)) rfl (fun _ _ _ _ _ => rfl) (fun _ _ _ _ _ _ _ hr2 => (pe_callS G_number hr2 (by rfl) g_number F_number.kp b_number (fun σ => L2N.passAt lamN_takes σ) (pa_cons (pv 8) (pa_cons (pv 9) (pa_cons (pv 7) pa_nil)))))) pe_str (nomark _)) (pss_one (ps_ret pe_bl)) pss_nil)) pss_nil))))))))))))))
        (pss_cons (ps_for PassesOwn.never rfl (pi_range1 (by rfl) m_range (pa_cons (pe_callB (call_max2 rfl) (by rfl) m_max (by decide +kernel) (pa_cons pe_int (pa_cons (pe_callB (call_min2 rfl) (by rfl) m_min (by decide +kernel) (pa_cons pe_int (pa_cons (pe_callB call_len_seq (by rfl) m_len (by decide +kernel) (pa_cons (pv 0) pa_nil)) pa_nil))) pa_nil))) pa_nil)) (pg_name (i := 1) sc_law.nd rfl (.inl rfl)) (pss_cons (ps_set (i := 2) sc_law.nd rfl (.inl rfl) (pe_call G__law_bag (hr.mono (by decide)) (by rfl) g__law_bag F__law_bag.kp b__law_bag .nil pass0 (pa_cons (pv 0) (pa_cons (pv 1) pa_nil))))
        (pss_cons (ps_asg (pe_call G__law_long_pair (hr.mono (by decide)) (by rfl) g__law_long_pair F__law_long_pair.kp b__law_long_pair .nil pass0 (pa_cons (pv 2) (pa_cons pe_int pa_nil))) (pg_tup rfl (pgs_cons (pg_name (i := 9) sc_law.nd rfl (.inr rfl)) (pgs_cons (pg_name (i := 7) sc_law.nd rfl (.inr rfl)) pgs_nil))))
        (pss_cons (ps_if (PW.pt (pw_or (pt_not (pt_val (pe_call G__law_is_made hr (by rfl) g__law_is_made F__law_is_made.kp b__law_is_made .nil pass0 (pa_cons pe_int (pa_cons (pv 9) (pa_cons (pv 7) pa_nil)))))) (pw_or (pt_not (pt_val (pe_call G__law_is_made hr (by rfl) g__law_is_made F__law_is_made.kp b__law_is_made .nil pass0 (pa_cons pe_int (pa_cons (pe_op op_sub pe_int (pv 7)) (pa_cons (pv 9) pa_nil)))))) (pw_or1 (pt_not (pt_val (pe_call G__law_is_made hr (by rfl) g__law_is_made F__law_is_made.kp b__law_is_made .nil pass0 (pa_cons pe_int (pa_cons (pv 9) (pa_cons (pv 7) pa_nil)))))))))) (pss_one (ps_ret pe_bl)) pss_nil)
        (pss_cons (ps_asg (pe_call G__law_long_pair (hr.mono (by decide)) (by rfl) g__law_long_pair F__law_long_pair.kp b__law_long_pair .nil pass0 (pa_cons (pv 2) (pa_cons (pe_op op_add pe_int (pe_call G__law_take (hr.mono (by decide)) (by rfl) g__law_take F__law_take.kp b__law_take .nil pass0 (pa_cons (pv 2) (pa_cons pe_int pa_nil)))) pa_nil))) (pg_tup rfl (pgs_cons (pg_name (i := 9) sc_law.nd rfl (.inr rfl)) (pgs_cons (pg_name (i := 7) sc_law.nd rfl (.inr rfl)) pgs_nil))))
        (pss_one (ps_for PassesOwn.never rfl (pi_list (pe_lst (pa_cons (pe_tup (pa_cons pe_int (pa_cons pe_int pa_nil))) (pa_cons (pe_tup (pa_cons (pv 9) (pa_cons (pv 7) pa_nil))) (pa_cons (pe_tup (pa_cons (pv 7) (pa_cons (pv 9) pa_nil))) pa_nil))))) (pg_name (i := 6) sc_law.nd rfl (.inl rfl)) (pss_one (ps_if (PW.pt (pw_or (pt_not (pt_val (pe_call G__law_is_right hr (by rfl) g__law_is_right F__law_is_right.kp b__law_is_right .nil pass0 (pa_cons pe_int (pa_cons (pe_tup (pa_cons (pv 9) (pa_cons (pv 7) pa_nil))) (pa_cons (pv 6) pa_nil)))))) (pw_or1 (pt_not (pt_val (pe_call G__law_is_right hr (by rfl) g__law_is_right F__law_is_right.kp b__law_is_right .nil pass0 (pa_cons pe_int (pa_cons (pv 6) (pa_cons (pe_tup (pa_cons (pe_op op_sub pe_int (pv 9)) (pa_cons (pv 7) pa_nil))) pa_nil))))))))) (pss_one (ps_ret pe_bl)) pss_nil)))))))))
        (pss_cons (ps_if (PW.pt (pw_or (pt_cmpR op_ne (pe_lamF (T := T) (TT := (TTref K)) (k := 3) F__law_refusal b__law_refusal (by rfl) g__law_refusal sc__law_refusal rfl (.inl rfl) (fun _ => refusal_gives MG) TB rfl hmT hu (hr.mono (by decide)) (LamX.lamS_by (sc := defScope s_law) (by decide +kernel)) rfl (fun _ _ _ _ _ => rfl) (fun _ _ _ _ _ _ _ hr2 => (pe_callS G_number hr2 (by rfl) g_number F_number.kp b_number (fun σ => L2N.passAt lamN_takes σ) (pa_cons pe_int (pa_cons pe_int (pa_cons pe_int pa_nil)))))) pe_str (nomark _)) (pw_or1 (pt_cmpR (op_neD hr.units) (pe_call G_number (hr.mono (by decide)) (by rfl) g_number F_number.kp b_number .nil passLN (pa_cons pe_int (pa_cons (pe_un un_neg pe_int) (pa_cons (pe_un un_neg pe_int) pa_nil)))) (pe_tup (pa_cons pe_int (pa_cons pe_int pa_nil))) (nomark _))))) (pss_one (ps_ret pe_bl)) pss_nil)
        (pss_one (ps_ret (pe_and (pe_cmpR (op_eqD hr.units) (pe_call G_number (hr.mono (by decide)) (by rfl) g_number F_number.kp b_number .nil passLN (pa_cons pe_int (pa_cons pe_int (pa_cons pe_int pa_nil)))) (pe_tup (pa_cons pe_int (pa_cons pe_int pa_nil))) (nomark _)) (pe_one (pe_cmpR (op_eqD hr.units) (pe_callN0 G_number (hr.mono (by decide)) (by rfl) g_number F_number.kp kb_number_0_ground_top_bottom passLN (pk_cons pe_int (pk_cons pe_int (pk_cons (pe_un un_neg pe_int) pk_nil)))) (pe_tup (pa_cons pe_int (pa_cons pe_int pa_nil))) (nomark _))))))))), ?_⟩
    walk_at "go"
    refine ⟨a, _, rfl, .inl hA, ?_⟩
    walk_at "go"
    refine ⟨by split <;> (try split) <;> omega, by split <;> (try split) <;> omega, ?_⟩
    refine for_range (fun i σ H' => (∃ y1 y2 y3 y4 y5 y6 y7 y8 y9, σ = [some (.ref a), y1, y2, y3, y4, y5, y6, y7, y8, y9]) ∧ Sx T H H') ⟨⟨_, _, _, _, _, _, _, _, _, rfl⟩, Sx.refl hT⟩ (fun i σ H' hi hP => ?_) (fun σ H' hP => ?_)
    · have hi6 : i < 6 := by
        revert hi
        split <;> (try split) <;> omega
      clear hi
      obtain ⟨⟨y1, y2, y3, y4, y5, y6, y7, y8, y9, rfl⟩, sm⟩ := hP
      walk_at "go"
      refine ⟨a, ns, 0 + i, rfl, sql_ext hA sm, by omega, by omega, fun b H2 hb0 s2 hb2 => ?_⟩
      have x2 : Sx T H' H2 := Sx.same sm.2 s2
      walk_at "go"
      refine ⟨by decide, by decide, ?_⟩
      refine for_range (fun n σ H3 => (∃ y1 y3 y4 y5 y6 y7 y8 y9, σ = [some (.ref a), y1, some (.ref b), y3, y4, y5, y6, y7, y8, y9]) ∧ Sx T H' H3 ∧ Bag H3 b) ⟨⟨_, _, _, _, _, _, _, _, rfl⟩, x2, hb2⟩ (fun n σ H3 hn hP => ?_) (fun σ H3 hP => ?_)
      · obtain ⟨⟨y1, y3, y4, y5, y6, y7, y8, y9, rfl⟩, x3, hb3⟩ := hP
        walk_at "go"
        refine ⟨b, rfl, hb3, fun H4 g hgr m4 hb4 => ?_⟩
        have hg : g = 0 ∨ Gr5 g := by
          unfold Gr at hgr
          unfold Gr5
          omega
        have ⟨hg0, hg13⟩ := grb hg
        have x4 := x3.mv hb0 hb3 m4
        walk_at "go"
        refine ⟨b, rfl, hb4, fun H5 up hup m5 hb5 => ?_⟩
        have x5 := x4.mv hb0 hb4 m5
        walk_at "go"
        refine ⟨b, rfl, hb5, fun H6 dn hdn m6 hb6 => ?_⟩
        have x6 := x5.mv hb0 hb5 m6
        walk_at "go"
        refine w_new (by simp) fun p7 H7 hp7 s7 h7 => ?_
        have x7 := x6.trans (Sx.same x6.2 s7)
        have hb7 := hb6.same s7
        have up3 : up.natAbs < 2 ^ 3000 := Nat.lt_of_lt_of_le hup (Nat.pow_le_pow_right (by decide) (by decide))
        have dn3 : dn.natAbs < 2 ^ 3000 := Nat.lt_of_lt_of_le hdn (Nat.pow_le_pow_right (by decide) (by decide))
        have up8 : up.natAbs < 2 ^ 8000 := Nat.lt_of_lt_of_le hup (Nat.pow_le_pow_right (by decide) (by decide))
        have dn8 : dn.natAbs < 2 ^ 8000 := Nat.lt_of_lt_of_le hdn (Nat.pow_le_pow_right (by decide) (by decide))
        walk_at "go"
        refine ⟨g, up, dn, rfl, hg, up3, dn3, x7.2, fun H8 x78 => ?_⟩
        walk_at "go"
        refine iteF ?_
        walk_at "go"
        refine ⟨g, dn, up, rfl, hg, dn3, up3, x78.2, fun H9 x89 => ?_⟩
        walk_at "go"
        refine iteF ?_
        walk_at "go"
        have x9 := x7.trans (x78.trans x89)
        have hb9 := x89.bag (x78.bag hb7)
        refine num_pre hg up8 (by decide) (ngt_one hg) fun p10 H10 hp10 s10 h10 => ?_
        walk_at "go"
        refine ⟨g, up, 1, rfl, hg0, hg13, by decide, by decide, fun p11 H11 hp11 s11 h11 => ?_⟩
        refine w_neNum ⟨p10, rfl, s11 _ _ h10⟩ ⟨p11, rfl, h11⟩ ?_
        rw [decide_eq_true rfl]
        walk_at "go"
        refine iteF ?_
        walk_at "go"
        have x11 := x9.trans (Sx.same x9.2 (s10.trans s11))
        have hb11 := hb9.same (s10.trans s11)
        refine ⟨b, g, rfl, hgr, hb11, fun H12 vx ax hvx tx m12 hb12 => ?_⟩
        have x12 := x11.mv hb0 hb11 m12
        walk_at "go"
        refine ⟨b, g, rfl, hgr, hb12, fun H13 vy ay hvy ty m13 hb13 => ?_⟩
        have x13 := x12.mv hb0 hb12 m13
        have hvx13 := hvx.kt (m13.kt hb12)
        walk_at "go"
        refine ⟨g, vx, ax, rfl, hg0, hg13, hvx13, Nat.lt_of_lt_of_le tx.2.2 (Nat.pow_le_pow_right (by decide) (by decide)), (by have := tx.pos; omega), fun p14 H14 hp14 s14 h14 => ?_⟩
        walk_at "go"
        refine w_new (by simp) fun p15 H15 hp15 s15 h15 => ?_
        walk_at "go"
        refine w_new (by simp) fun p16 H16 hp16 s16 h16 => ?_
        walk_at "go"
        refine w_new (by simp) fun p17 H17 hp17 s17 h17 => ?_
        walk_at "go"
        have s37 := s14.trans (s15.trans (s16.trans s17))
        refine ⟨b, 8, rfl, by decide, by decide, hb13.same s37, fun H18 d18 h180 h181 m18 hb18 => ?_⟩
        have n17 : p17 ≠ b := bag_ne hb13 (Same.free (s14.trans (s15.trans s16)) hp17)
        have x18 := (x13.trans (Sx.same x13.2 s37)).mv hb0 (hb13.same s37) m18
        have k1 : Kt H13 H18 := (Kt.of s37).trans (m18.kt (hb13.same s37))
        have k17 : Kt H17 H18 := m18.kt (hb13.same s37)
        have hm := tn_minus hg tx (by decide)
        obtain ⟨vw, aw, ew, hvw, tw⟩ := pick8 (g := g) (k := 320) h180 h181 (hvy.kt k1) ty (hvx13.kt k1) tx (NumV.kt ⟨p14, rfl, s17 _ _ (s16 _ _ (s15 _ _ h14))⟩ k17) hm (NumV.kt (a := (0, 1)) ⟨p15, rfl, s17 _ _ (s16 _ _ h15)⟩ k17) ((tn_zero hg).mono (by decide)) (NumV.kt (a := (1, 1)) ⟨p16, rfl, s17 _ _ h16⟩ k17) ((tn_one hg).mono (by decide))
        refine w_ixL (m18 _ _ n17 h17) ew ?_
        walk_at "go"
        have hvx18 := hvx13.kt k1
        have tx' := tx.mono (show 320 ≤ 2900 by decide)
        have tw' := tw.mono (show 320 ≤ 2900 by decide)
        refine ⟨g, vx, vw, ax, aw, rfl, hg, hvx18, hvw, tx', tw', x18.2, fun H19 x19 => ?_⟩
        walk_at "go"
        refine iteF ?_
        walk_at "go"
        refine ⟨g, vw, vx, aw, ax, rfl, hg, hvw.kt x19.kt, hvx18.kt x19.kt, tw', tx', x19.2, fun H20 x20 => ?_⟩
        walk_at "go"
        refine iteF ?_
        walk_at "go"
        refine w_new (by simp) fun p21 H21 hp21 s21 h21 => ?_
        walk_at "go"
        refine w_new (by simp) fun p22 H22 hp22 s22 h22 => ?_
        walk_at "go"
        have x20' := x18.trans (x19.trans x20)
        have x22 := x20'.trans (Sx.same x20'.2 (s21.trans s22))
        have hb22 : Bag H22 b := (x20.bag (x19.bag hb18)).same (s21.trans s22)
        have g3 : (3 : Int) = 0 ∨ Gr5 3 := .inr (.inl rfl)
        refine ⟨3, .ref p21, .ref p22, (2, 1), (1, 1), rfl, g3, ⟨p21, rfl, s22 _ _ h21⟩, ⟨p22, rfl, h22⟩, ⟨.inr ⟨by decide, by decide, by decide, rfl⟩, Nat.lt_of_lt_of_le (show (2 : Int).natAbs < 2 ^ 4 by decide) (Nat.pow_le_pow_right (by decide) (by decide)), Nat.lt_of_lt_of_le (show (1 : Int).natAbs < 2 ^ 4 by decide) (Nat.pow_le_pow_right (by decide) (by decide))⟩, (tn_one g3).mono (by decide), x22.2, fun H23 x23 => ?_⟩
        walk_at "go"
        refine iteF ?_
        walk_at "go"
        have hb23 := x23.bag hb22
        have x23' := x22.trans x23
        refine ⟨b, rfl, hb23, fun H24 od hod hgd m24 hb24 => ?_⟩
        have x24 := x23'.mv hb0 hb23 m24
        walk_at "go"
        refine ⟨od, rfl, hod, ?_⟩
        walk_at "go"
        refine w_iteBN (fun hw => ?a) (fun hw => ?b)
        case' b =>
          obtain ⟨io, rfl⟩ := whole_int hw
          walk_at "go"
          refine w_iteN (fun hc => ?c) (fun hc => ?d)
        case' d =>
          walk_at "go"
          exact ⟨⟨_, _, _, _, _, _, _, _, rfl⟩, x24, hb24⟩
        case' c =>
          have hz : grdB (.int io) = false := hgd.resolve_left (fun e => hc (by cases e; rfl))
        case' a =>
          have hz : grdB od = false := grd_whole hw
        all_goals
          walk_at "go"
          refine ⟨x24.2, fun R2 f2 t2 => ?_⟩
          have xr : Sx T H24 R2 := ⟨f2, t2⟩
          refine ⟨_, rfl, .int up, rfl, .int dn, rfl, _, up, dn, rfl, hod.kd (Kd.sx xr), up8, dn8, fun _ => .inl ⟨_, "NoGround", rfl, rfl, MC_NoGround, fun R4 r4 => ?_⟩, fun g' e h5 _ => (by rw [e, grd_of h5] at hz; cases hz), fun g' e h5 _ => (by rw [e, grd_of h5] at hz; cases hz)⟩
          walk_at "go"
          refine w_neSame rfl ?_
          walk_at "go"
          have x4' := xr.trans (Sx.same t2 r4)
          exact ⟨⟨_, _, _, _, _, _, _, _, rfl⟩, x24.trans x4', x4'.bag hb24⟩
      · obtain ⟨⟨y1, y3, y4, y5, y6, y7, y8, y9, rfl⟩, x3, hb3⟩ := hP
        walk_at "go"
        exact ⟨⟨_, _, _, _, _, _, _, _, _, rfl⟩, sm.trans x3⟩
    · obtain ⟨⟨y1, y2, y3, y4, y5, y6, y7, y8, y9, rfl⟩, sm⟩ := hP
      walk_at "go"
      refine ⟨a, _, rfl, .inl (sql_ext hA sm), ?_⟩
      walk_at "go"
      refine ⟨by split <;> (try split) <;> omega, by split <;> (try split) <;> omega, ?_⟩
      refine for_range (fun i σ H' => (∃ y1 y2 y3 y4 y5 y6 y7 y8 y9, σ = [some (.ref a), y1, y2, y3, y4, y5, y6, y7, y8, y9]) ∧ Sx T H H') ⟨⟨_, _, _, _, _, _, _, _, _, rfl⟩, sm⟩ (fun i σ H' hi hP => ?_) (fun σ H' hP => ?_)
      · have hi6 : i < 2 := by
          revert hi
          split <;> (try split) <;> omega
        clear hi
        obtain ⟨⟨y1, y2, y3, y4, y5, y6, y7, y8, y9, rfl⟩, sm⟩ := hP
        walk_at "go"
        refine ⟨a, ns, 0 + i, rfl, sql_ext hA sm, by omega, by omega, fun b H2 hb0 s2 hb2 => ?_⟩
        have x2 : Sx T H' H2 := Sx.same sm.2 s2
        walk_at "go"
        refine ⟨b, 16, rfl, by decide, by decide, hb2, fun p3 H3 up dn m3 hb3 h3 hgc hd1 hu1 hup hdn => ?_⟩
        have x3 := x2.mv hb0 hb2 m3
        have up3 : up.natAbs < 2 ^ 3000 := Nat.lt_of_lt_of_le hup (Nat.pow_le_pow_right (by decide) (by decide))
        have dn3 : dn.natAbs < 2 ^ 3000 := Nat.lt_of_lt_of_le hdn (Nat.pow_le_pow_right (by decide) (by decide))
        have z0 : (0 : Int) = 0 ∨ Gr5 0 := .inl rfl
        have g11 : (11 : Int) = 0 ∨ Gr5 11 := .inr (.inr (.inr (.inr (.inl rfl))))
        walk_at "go"
        refine ⟨0, up, dn, rfl, z0, up3, dn3, x3.2, fun H4 x4 => ?_⟩
        walk_at "go"
        refine iteF ?_
        walk_at "go"
        refine ⟨0, 0 - dn, up, rfl, z0, by rw [Int.zero_sub, Int.natAbs_neg]; exact dn3, up3, x4.2, fun H5 x5 => ?_⟩
        walk_at "go"
        refine iteF ?_
        walk_at "go"
        refine ⟨11, up, dn, rfl, g11, up3, dn3, x5.2, fun H6 x6 => ?_⟩
        walk_at "go"
        refine iteF ?_
        walk_at "go"
        have x36 := x4.trans (x5.trans x6)
        have hb6 := x36.bag hb3
        have x6' := x3.trans x36
        refine ⟨b, 19, rfl, by decide, by decide, hb6, fun H7 d7 h70 h71 m7 hb7 => ?_⟩
        have x7 := x6'.mv hb0 hb6 m7
        walk_at "go"
        refine ⟨b, 80 + d7, rfl, by omega, by omega, hb7, fun p8 H8 u2 d2 m8 hb8 h8 hgc2 hd12 hu12 hup2 hdn2 => ?_⟩
        have x8 := x7.mv hb0 hb7 m8
        walk_at "go"
        refine w_new (by simp) fun p9 H9 hp9 s9 h9 => ?_
        walk_at "go"
        refine w_new (by simp) fun p10 H10 hp10 s10 h10 => ?_
        walk_at "go"
        refine w_new (by simp) fun p11 H11 hp11 s11 h11 => ?_
        walk_at "go"
        refine w_new (by simp) fun L12 H12 hL12 s12 h12 => ?_
        walk_at "go"
        refine ⟨L12, rfl, ⟨_, SqL.of h12⟩, ?_⟩
        have x12 := x8.trans (Sx.same x8.2 (s9.trans (s10.trans (s11.trans s12))))
        have tp := tn_pair hgc2 hd12 hup2 hdn2
        have tq := tn_pair (u := d2) (d := u2) (by rw [Int.gcd_comm]; exact hgc2) hu12 hdn2 hup2
        have tm : TN 0 2900 (0 - u2, d2) := by
          refine tn_pair ?_ hd12 ?_ hdn2
          · rw [Int.zero_sub, Int.neg_gcd]; exact hgc2
          · rw [Int.zero_sub, Int.natAbs_neg]; exact hup2
        have hys : ∀ z ∈ [V.ref p9, V.ref p10, V.ref p11], ∃ c, NumV H12 z c ∧ TN 0 2900 c := fun z hz => by
          simp only [List.mem_cons, List.not_mem_nil, or_false] at hz
          rcases hz with rfl | rfl | rfl
          · exact ⟨(1, 1), ⟨p9, rfl, s12 _ _ (s11 _ _ (s10 _ _ h9))⟩, (tn_one z0).mono (by decide)⟩
          · exact ⟨(u2, d2), ⟨p10, rfl, s12 _ _ (s11 _ _ h10)⟩, tp⟩
          · exact ⟨(d2, u2), ⟨p11, rfl, s12 _ _ h11⟩, tq⟩
        refine for_list (xs := [V.ref p9, V.ref p10, V.ref p11]) (fun n σ H'' => (∃ y1 y2 y3 y4 y5 y6 y8, σ = [some (.ref a), y1, y2, y3, y4, y5, y6, some (.int d2), y8, some (.int u2)]) ∧ Sx T H12 H'') ⟨⟨_, _, _, _, _, _, _, rfl⟩, Sx.refl x12.2⟩ (fun n σ H'' _ hP => SqL.of (hP.2.lst h12)) (fun n v σ H13 hv hP => ?_) (fun σ H13 hP => ?_)
        · obtain ⟨⟨y1, y2, y3, y4, y5, y6, y8, rfl⟩, x13⟩ := hP
          obtain ⟨c, hvc, tc⟩ := hys v (List.mem_of_getElem? hv)
          have hvc13 := hvc.kt x13.kt
          walk_at "go"
          refine w_new (by simp) fun p14 H14 hp14 s14 h14 => ?_
          walk_at "go"
          refine ⟨0, .ref p14, v, (u2, d2), c, rfl, z0, ⟨p14, rfl, h14⟩, hvc13.kt (Kt.of s14), tp, tc, tabs_sm x13.2 s14, fun H15 x15 => ?_⟩
          walk_at "go"
          refine iteF ?_
          walk_at "go"
          refine w_new (by simp) fun p16 H16 hp16 s16 h16 => ?_
          walk_at "go"
          have x1316 : Sx T H13 H16 := (Sx.same x13.2 s14).trans (x15.trans (Sx.same x15.2 s16))
          refine ⟨0, v, .ref p16, c, (0 - u2, d2), rfl, z0, hvc13.kt x1316.kt, ⟨p16, rfl, h16⟩, tc, tm, x1316.2, fun H17 x17 => ?_⟩
          walk_at "go"
          refine iteF ?_
          walk_at "go"
          exact ⟨⟨_, _, _, _, _, _, _, rfl⟩, x13.trans (x1316.trans x17)⟩
        · obtain ⟨⟨y1, y2, y3, y4, y5, y6, y8, rfl⟩, x13⟩ := hP
          walk_at "go"
          exact ⟨⟨_, _, _, _, _, _, _, _, _, rfl⟩, sm.trans (x12.trans x13)⟩
      · obtain ⟨⟨y1, y2, y3, y4, y5, y6, y7, y8, y9, rfl⟩, sm⟩ := hP
        have z0 : (0 : Int) = 0 ∨ Gr5 0 := .inl rfl
        have g7 : (7 : Int) = 0 ∨ Gr5 7 := .inr (.inr (.inr (.inl rfl)))
        walk_at "go"
        refine ⟨sm.2, fun R2 f2 t2 => ?_⟩
        refine ⟨.int 0, 5, 0, rfl, .inl rfl, by decide, by decide, fun z => (no_grd z0 z).elim, fun g' e h5 hn' p4 dd R4 r4 i4 j4 => .inr (.inl ⟨_, rfl, TO.nom, TO.exm, ?_⟩), fun g' e h5 hn' => (ngt_no (show nghtOn 0 0 = true from rfl) e hn').elim⟩
        walk_at "go"
        refine w_neSame rfl ?_
        walk_at "go"
        refine num_pre z0 (by decide) (by decide) (by decide) fun p5 H5 hp5 s5 h5 => ?_
        walk_at "go"
        refine w_new (by simp) fun p6 H6 hp6 s6 h6 => ?_
        refine w_neNum (b := (3, 2)) ⟨p5, rfl, s6 _ _ h5⟩ ⟨p6, rfl, h6⟩ ?_
        rw [decide_eq_true (show lowF 0 (-6) (-4) = (3, 2) by decide +kernel)]
        walk_at "go"
        refine iteF ?_
        walk_at "go"
        refine num_pre g7 (by decide) (by decide) (by decide) fun p7 H7 hp7 s7 h7 => ?_
        walk_at "go"
        refine w_new (by simp) fun p8 H8 hp8 s8 h8 => ?_
        refine w_eqNum (b := (5, 1)) ⟨p7, rfl, s8 _ _ h7⟩ ⟨p8, rfl, h8⟩ ?_
        rw [decide_eq_true (show lowF 7 1 3 = (5, 1) by decide +kernel)]
        walk_at "go"
        refine w_callN0 ?_
        walk_at "go"
        refine ⟨rfl, num_pre z0 (by decide) (by decide) (by decide) fun p9 H9 hp9 s9 h9 => ?_⟩
        walk_at "go"
        refine w_new (by simp) fun p10 H10 hp10 s10 h10 => ?_
        refine w_eqNum (b := (0, 1)) ⟨p9, rfl, s10 _ _ h9⟩ ⟨p10, rfl, h10⟩ ?_
        rw [decide_eq_true (show lowF 0 0 (-9) = (0, 1) by decide +kernel)]
        exact q _

def d_is_whole : He.DefD := ⟨("is_whole", none), "is_whole", "is_whole", defArgs (topS 21), defBody (topS 21), defScope (topS 21), [], []⟩
def d_common_divisor : He.DefD := ⟨("common_divisor", none), "common_divisor", "common_divisor", defArgs (topS 22), defBody (topS 22), defScope (topS 22), [], []⟩
def d_is_ground : He.DefD := ⟨("is_ground", none), "is_ground", "is_ground", defArgs (topS 25), defBody (topS 25), defScope (topS 25), [], []⟩
def d_number : He.DefD := ⟨("number", none), "number", "number", defArgs (topS 26), defBody (topS 26), defScope (topS 26), [.int 1], []⟩
def d_is_nought_on : He.DefD := ⟨("is_nought_on", none), "is_nought_on", "is_nought_on", defArgs (topS 27), defBody (topS 27), defScope (topS 27), [], []⟩
def d_lowest : He.DefD := ⟨("lowest", none), "lowest", "lowest", defArgs (topS 28), defBody (topS 28), defScope (topS 28), [], []⟩
def d_wheel_back : He.DefD := ⟨("wheel_back", none), "wheel_back", "wheel_back", defArgs (topS 29), defBody (topS 29), defScope (topS 29), [], []⟩
def d_plus : He.DefD := ⟨("plus", none), "plus", "plus", defArgs (topS 30), defBody (topS 30), defScope (topS 30), [], []⟩
def d_less : He.DefD := ⟨("less", none), "less", "less", defArgs (topS 31), defBody (topS 31), defScope (topS 31), [], []⟩
def d_times : He.DefD := ⟨("times", none), "times", "times", defArgs (topS 32), defBody (topS 32), defScope (topS 32), [], []⟩
def d_over : He.DefD := ⟨("over", none), "over", "over", defArgs (topS 33), defBody (topS 33), defScope (topS 33), [], []⟩
def d__law_low : He.DefD := ⟨("_law_low", none), "_law_low", "_law_low", defArgs (topS 35), defBody (topS 35), defScope (topS 35), [], []⟩
def d__law_shared : He.DefD := ⟨("_law_shared", none), "_law_shared", "_law_shared", defArgs (topS 36), defBody (topS 36), defScope (topS 36), [], []⟩
def d__law_is_number : He.DefD := ⟨("_law_is_number", none), "_law_is_number", "_law_is_number", defArgs (topS 37), defBody (topS 37), defScope (topS 37), [], []⟩
def d__law_is_whole : He.DefD := ⟨("_law_is_whole", none), "_law_is_whole", "_law_is_whole", defArgs (topS 38), defBody (topS 38), defScope (topS 38), [], []⟩
def d__law_plus : He.DefD := ⟨("_law_plus", none), "_law_plus", "_law_plus", defArgs (topS 39), defBody (topS 39), defScope (topS 39), [], []⟩
def d__law_minus : He.DefD := ⟨("_law_minus", none), "_law_minus", "_law_minus", defArgs (topS 40), defBody (topS 40), defScope (topS 40), [], []⟩
def d__law_times : He.DefD := ⟨("_law_times", none), "_law_times", "_law_times", defArgs (topS 41), defBody (topS 41), defScope (topS 41), [], []⟩
def d__law_over : He.DefD := ⟨("_law_over", none), "_law_over", "_law_over", defArgs (topS 42), defBody (topS 42), defScope (topS 42), [], []⟩
def d__law_bag : He.DefD := ⟨("_law_bag", none), "_law_bag", "_law_bag", defArgs (topS 43), defBody (topS 43), defScope (topS 43), [], []⟩
def d__law_ground : He.DefD := ⟨("_law_ground", none), "_law_ground", "_law_ground", defArgs (topS 44), defBody (topS 44), defScope (topS 44), [], []⟩
def d__law_take : He.DefD := ⟨("_law_take", none), "_law_take", "_law_take", defArgs (topS 45), defBody (topS 45), defScope (topS 45), [], []⟩
def d__law_whole_draw : He.DefD := ⟨("_law_whole_draw", none), "_law_whole_draw", "_law_whole_draw", defArgs (topS 46), defBody (topS 46), defScope (topS 46), [], []⟩
def d__law_any_number : He.DefD := ⟨("_law_any_number", none), "_law_any_number", "_law_any_number", defArgs (topS 47), defBody (topS 47), defScope (topS 47), [], []⟩
def d__law_odd : He.DefD := ⟨("_law_odd", none), "_law_odd", "_law_odd", defArgs (topS 48), defBody (topS 48), defScope (topS 48), [], []⟩
def d__law_refusal : He.DefD := ⟨("_law_refusal", none), "_law_refusal", "_law_refusal", defArgs (topS 49), defBody (topS 49), defScope (topS 49), [], []⟩
def d__law_top_of : He.DefD := ⟨("_law_top_of", none), "_law_top_of", "_law_top_of", defArgs (topS 50), defBody (topS 50), defScope (topS 50), [], []⟩
def d__law_is_made : He.DefD := ⟨("_law_is_made", none), "_law_is_made", "_law_is_made", defArgs (topS 51), defBody (topS 51), defScope (topS 51), [], []⟩
def d__law_is_right : He.DefD := ⟨("_law_is_right", none), "_law_is_right", "_law_is_right", defArgs (topS 52), defBody (topS 52), defScope (topS 52), [], []⟩
def d__law_long_pair : He.DefD := ⟨("_law_long_pair", none), "_law_long_pair", "_law_long_pair", defArgs (topS 53), defBody (topS 53), defScope (topS 53), [], []⟩
def d_law : He.DefD := ⟨("law", none), "law", "law", defArgs (topS 54), defBody (topS 54), defScope (topS 54), [], []⟩
def fn : List He.DefD := [d_is_whole, d_common_divisor, d_is_ground, d_number, d_is_nought_on, d_lowest, d_wheel_back, d_plus, d_less, d_times, d_over, d__law_low, d__law_shared, d__law_is_number, d__law_is_whole, d__law_plus, d__law_minus, d__law_times, d__law_over, d__law_bag, d__law_ground, d__law_take, d__law_whole_draw, d__law_any_number, d__law_odd, d__law_refusal, d__law_top_of, d__law_is_made, d__law_is_right, d__law_long_pair, d_law]
def fa : List He.Fa := [.glo "is_whole", .glo "common_divisor", .glo "is_ground", .glo "number", .glo "is_nought_on", .glo "lowest", .glo "wheel_back", .glo "plus", .glo "less", .glo "times", .glo "over", .glo "_law_low", .glo "_law_shared", .glo "_law_is_number", .glo "_law_is_whole", .glo "_law_plus", .glo "_law_minus", .glo "_law_times", .glo "_law_over", .glo "_law_bag", .glo "_law_ground", .glo "_law_take", .glo "_law_whole_draw", .glo "_law_any_number", .glo "_law_odd", .glo "_law_refusal", .glo "_law_top_of", .glo "_law_is_made", .glo "_law_is_right", .glo "_law_long_pair", .glo "law", .free "isinstance", .free "int", .free "bool", .free "abs", .free "range", .free "tuple", .free "len", .free "all", .free "ValueError", .free "max", .free "min", .free "super", .glo "GROUNDS", .glo "MirrorError", .glo "NoGround", .glo "NoNumber", .glo "NoRow", .glo "NoTable", .glo "NoForm", .glo "NoKeeper", .glo "NoWorth", .glo "NoSeat", .glo "NoFour", .glo "NoPlace", .glo "NoClaim", .glo "NoText", .glo "NoSaying", .glo "TooMany", .glo "NotKept", .glo "OverNought", .glo "Flat", .glo "NoName", .exc "NoGround"]
def tf : List He.Defn := [("_law_is_made", none), ("_law_is_right", none), ("law", none)]
abbrev PP : Program := (PySem.Challenge.rw_fewmirrors_k02_numbers_reckoned).prog
def clsB0 : Stmt → List Stmt
  | .ClassDef (body := b) .. => b
  | _ => []
def initS : Stmt := (clsB0 (topS 17)).getD 0 (.Pass ⟨0, 0, 0, 0⟩)
def ivs : List IW := [some (("__init__" : Str), ("OverNought.__init__" : Str), defArgs initS, FuncBody.stmts (defBody initS), defScope initS, mainGlobals, ([("__class__" : Str)] : List Str), builtinsNs)]
def exB (M : PySem.W.Frag) : Bool := mirB M "NoGround" && He.tupB M "GROUNDS" [.int 0, .int 3, .int 5, .int 7, .int 11, .int 13] && ovB M (He.ga M "OverNought") PP.main.file "ZeroDivisionError.__new__" ["ZeroDivisionError", "ArithmeticError", "Exception", "BaseException", "object"] "top" && decide (PySem.W.exmOne M (.ref (He.ga M "OverNought")) (.ref (He.ga M "OverNought")) = some true) && decide (PySem.W.exmOne M (.ref (He.ga M "OverNought")) (.ref (He.ga M "MirrorError")) = some false) && xfB M (He.ga M "OverNought") && He.eqO (PySem.W.findIn M (.ref (He.ga M "OverNought")) "top") (some none) && decide ((He.cT M ("_law_is_right", none)).2 ≠ (He.cT M ("_law_is_made", none)).2) && decide ((He.cT M ("law", none)).2 ≠ (He.cT M ("_law_is_made", none)).2) && decide ((He.cT M ("law", none)).2 ≠ (He.cT M ("_law_is_right", none)).2)
def lamTabs (K : PySem.W.Frag) : List (Addr × Str) := [((He.cT K ("_law_is_made", none)).2, ((envOfC "_law_is_made" (defScope s__law_is_made) 0 0 .none).qual ++ "<lambda>")), ((He.cT K ("_law_is_right", none)).2, ((envOfC "_law_is_right" (defScope s__law_is_right) 0 0 .none).qual ++ "<lambda>")), ((He.cT K ("law", none)).2, ((envOfC "law" (defScope s_law) 0 0 .none).qual ++ "<lambda>"))]
abbrev R : PySem.W.OpenRow := PySem.W.OpenLaw.row PySem.Challenge.rw_fewmirrors_k02_numbers_reckoned
def hk : PySem.W.Hook := hookY fa fn [] tf exB ["OverNought"] ivs
def ob (s : PySem.W.SharedT) : AlY := obsY fa fn [] tf exB ["OverNought"] (HandSHeadRun.getT s)
theorem ob_eq (s : PySem.W.SharedT) : ob s = hk.obs s.abs := obsY_eq (vs := ivs) (HandSHeadRun.getT_eq s)
def loose : List PySem.Str := (["MirrorError", "NoGround", "NoNumber", "NoRow", "NoTable", "NoForm", "NoKeeper", "NoWorth", "NoSeat", "NoFour", "NoPlace", "NoClaim", "NoText", "NoSaying", "TooMany", "NotKept", "OverNought", "Flat", "NoName", "GROUNDS"] : List PySem.Str) ++ (["is_whole", "common_divisor", "is_ground", "number", "is_nought_on", "lowest", "wheel_back", "plus", "less", "times", "over", "_law_low", "_law_shared", "_law_is_number", "_law_is_whole", "_law_plus", "_law_minus", "_law_times", "_law_over", "_law_bag"] : List PySem.Str) ++ (["_law_ground", "_law_take", "_law_whole_draw", "_law_any_number", "_law_odd", "_law_refusal", "_law_top_of", "_law_is_made", "_law_is_right", "_law_long_pair"] : List PySem.Str)
theorem run (w : World) : HandSHeadRun.RunEq R (PySem.W.view R.prog [54]) hk ob 8000 loose w := by
  intro os
  kernel_rfl
theorem facts {w : World} {K : PySem.W.Frag} {h : Heap} {mg : Str → Option Value} {f : Addr} (X : K.In h) (G : h.Ns mainGlobals mg) (hfa : mg ("law" : Str) = some (.ref f)) (c2 : SaysY fa fn [] tf exB ["OverNought"] ivs w h K) :
    ∃ fd : FuncData, (∀ (s : Shared) (v : Value), BindsTo s fd ⟨[v], []⟩ [("_law_script", v)]) ∧ ∀ base : Heap, K.In base → base.Ns mainGlobals mg → (∀ p ∈ tf.map (He.cT K), LamX.TabB base mg p.1 p.2) → FnOk PP w K mg base CX0 7 f fd ["_law_script"] (sp_law K (lamTabs K)) := by
  have c : He.SaysD fa fn K := c2.x.t.d
  have cm : exB K = true := c2.x.more
  obtain ⟨fd_is_whole, F_is_whole⟩ := c.def_ 0 (d := d_is_whole) rfl
  have g_is_whole := He.glo_ok X G (c.fact 0 (f := .glo "is_whole") rfl)
  have b_is_whole : L2.Binds K fd_is_whole ["thing"] [] := FunD.bindsN (ps := ["thing"]) F_is_whole fun _ _ _ _ _ _ us hl => match us, hl with | [_], _ => rfl
  obtain ⟨fd_common_divisor, F_common_divisor⟩ := c.def_ 1 (d := d_common_divisor) rfl
  have g_common_divisor := He.glo_ok X G (c.fact 1 (f := .glo "common_divisor") rfl)
  have b_common_divisor : L2.Binds K fd_common_divisor ["a", "b"] [] := FunD.bindsN (ps := ["a", "b"]) F_common_divisor fun _ _ _ _ _ _ us hl => match us, hl with | [_, _], _ => rfl
  obtain ⟨fd_is_ground, F_is_ground⟩ := c.def_ 2 (d := d_is_ground) rfl
  have g_is_ground := He.glo_ok X G (c.fact 2 (f := .glo "is_ground") rfl)
  have b_is_ground : L2.Binds K fd_is_ground ["thing"] [] := FunD.bindsN (ps := ["thing"]) F_is_ground fun _ _ _ _ _ _ us hl => match us, hl with | [_], _ => rfl
  obtain ⟨fd_number, F_number⟩ := c.def_ 3 (d := d_number) rfl
  have g_number := He.glo_ok X G (c.fact 3 (f := .glo "number") rfl)
  obtain ⟨ds_number, hd_number, bd_number⟩ := FunD.binds1 (ps := ["ground", "top", "bottom"]) F_number 2 0 (fun e => nomatch (show ([.int 1] : List V) = [] from e)) rfl fun T kV doc pm an cdv ct us its hu hi => match us, hu, its, hi with | [_, _], _, [_], _ => ⟨_, rfl, rfl⟩
  have b_number : L2.Binds K fd_number ["ground", "top", "bottom"] [] := bnd_of (ps := ["ground", "top", "bottom"]) F_number 3 (fun e => nomatch (show ([.int 1] : List V) = [] from e)) rfl fun _ _ _ _ _ _ _ us its hu hi => match us, hu, its, hi with | [_, _, _], _, [_], _ => ⟨_, rfl, rfl⟩
  have kb_number_2_bottom : L2.KBn K fd_number ["ground", "top", "bottom"] 2 ["bottom"] (fun us ws => us ++ ws) (fun us ws => us ++ ws) := kbn_of (ps := ["ground", "top", "bottom"]) F_number (fun e => nomatch (show ([.int 1] : List V) = [] from e)) (fun _ _ _ _ _ _ _ us ws its l1 l2 l3 => match us, l1, ws, l2, its, l3 with | [_, _], _, [_], _, [_], _ => ⟨_, rfl, rfl⟩) (fun r1 r2 => r1.append r2)
  have kb_number_0_bottom_ground_top : L2.KBn K fd_number ["ground", "top", "bottom"] 0 ["bottom", "ground", "top"] (fun _ ws => kq_number_0_bottom_ground_top ws) (fun _ ws => kq_number_0_bottom_ground_top ws) := kbn_of (ps := ["ground", "top", "bottom"]) F_number (fun e => nomatch (show ([.int 1] : List V) = [] from e)) (fun _ _ _ _ _ _ _ us ws its l1 l2 l3 => match us, l1, ws, l2, its, l3 with | [], _, [_, _, _], _, [_], _ => ⟨_, rfl, rfl⟩) (fun r1 r2 => kq_rel r2)
  have kb_number_0_ground_top_bottom : L2.KBn K fd_number ["ground", "top", "bottom"] 0 ["ground", "top", "bottom"] (fun us ws => us ++ ws) (fun us ws => us ++ ws) := kbn_of (ps := ["ground", "top", "bottom"]) F_number (fun e => nomatch (show ([.int 1] : List V) = [] from e)) (fun _ _ _ _ _ _ _ us ws its l1 l2 l3 => match us, l1, ws, l2, its, l3 with | [], _, [_, _, _], _, [_], _ => ⟨_, rfl, rfl⟩) (fun r1 r2 => r1.append r2)
  obtain ⟨fd_is_nought_on, F_is_nought_on⟩ := c.def_ 4 (d := d_is_nought_on) rfl
  have g_is_nought_on := He.glo_ok X G (c.fact 4 (f := .glo "is_nought_on") rfl)
  have b_is_nought_on : L2.Binds K fd_is_nought_on ["ground", "whole"] [] := FunD.bindsN (ps := ["ground", "whole"]) F_is_nought_on fun _ _ _ _ _ _ us hl => match us, hl with | [_, _], _ => rfl
  obtain ⟨fd_lowest, F_lowest⟩ := c.def_ 5 (d := d_lowest) rfl
  have g_lowest := He.glo_ok X G (c.fact 5 (f := .glo "lowest") rfl)
  have b_lowest : L2.Binds K fd_lowest ["ground", "top", "bottom"] [] := FunD.bindsN (ps := ["ground", "top", "bottom"]) F_lowest fun _ _ _ _ _ _ us hl => match us, hl with | [_, _, _], _ => rfl
  obtain ⟨fd_wheel_back, F_wheel_back⟩ := c.def_ 6 (d := d_wheel_back) rfl
  have g_wheel_back := He.glo_ok X G (c.fact 6 (f := .glo "wheel_back") rfl)
  have b_wheel_back : L2.Binds K fd_wheel_back ["wheel", "whole"] [] := FunD.bindsN (ps := ["wheel", "whole"]) F_wheel_back fun _ _ _ _ _ _ us hl => match us, hl with | [_, _], _ => rfl
  obtain ⟨fd_plus, F_plus⟩ := c.def_ 7 (d := d_plus) rfl
  have g_plus := He.glo_ok X G (c.fact 7 (f := .glo "plus") rfl)
  have b_plus : L2.Binds K fd_plus ["ground", "x", "y"] [] := FunD.bindsN (ps := ["ground", "x", "y"]) F_plus fun _ _ _ _ _ _ us hl => match us, hl with | [_, _, _], _ => rfl
  obtain ⟨fd_less, F_less⟩ := c.def_ 8 (d := d_less) rfl
  have g_less := He.glo_ok X G (c.fact 8 (f := .glo "less") rfl)
  have b_less : L2.Binds K fd_less ["ground", "x", "y"] [] := FunD.bindsN (ps := ["ground", "x", "y"]) F_less fun _ _ _ _ _ _ us hl => match us, hl with | [_, _, _], _ => rfl
  obtain ⟨fd_times, F_times⟩ := c.def_ 9 (d := d_times) rfl
  have g_times := He.glo_ok X G (c.fact 9 (f := .glo "times") rfl)
  have b_times : L2.Binds K fd_times ["ground", "x", "y"] [] := FunD.bindsN (ps := ["ground", "x", "y"]) F_times fun _ _ _ _ _ _ us hl => match us, hl with | [_, _, _], _ => rfl
  obtain ⟨fd_over, F_over⟩ := c.def_ 10 (d := d_over) rfl
  have g_over := He.glo_ok X G (c.fact 10 (f := .glo "over") rfl)
  have b_over : L2.Binds K fd_over ["ground", "x", "y"] [] := FunD.bindsN (ps := ["ground", "x", "y"]) F_over fun _ _ _ _ _ _ us hl => match us, hl with | [_, _, _], _ => rfl
  obtain ⟨fd__law_low, F__law_low⟩ := c.def_ 11 (d := d__law_low) rfl
  have g__law_low := He.glo_ok X G (c.fact 11 (f := .glo "_law_low") rfl)
  have b__law_low : L2.Binds K fd__law_low ["_law_g", "_law_up", "_law_down"] [] := FunD.bindsN (ps := ["_law_g", "_law_up", "_law_down"]) F__law_low fun _ _ _ _ _ _ us hl => match us, hl with | [_, _, _], _ => rfl
  obtain ⟨fd__law_shared, F__law_shared⟩ := c.def_ 12 (d := d__law_shared) rfl
  have g__law_shared := He.glo_ok X G (c.fact 12 (f := .glo "_law_shared") rfl)
  have b__law_shared : L2.Binds K fd__law_shared ["_law_one", "_law_other"] [] := FunD.bindsN (ps := ["_law_one", "_law_other"]) F__law_shared fun _ _ _ _ _ _ us hl => match us, hl with | [_, _], _ => rfl
  obtain ⟨fd__law_is_number, F__law_is_number⟩ := c.def_ 13 (d := d__law_is_number) rfl
  have g__law_is_number := He.glo_ok X G (c.fact 13 (f := .glo "_law_is_number") rfl)
  have b__law_is_number : L2.Binds K fd__law_is_number ["_law_g", "_law_thing"] [] := FunD.bindsN (ps := ["_law_g", "_law_thing"]) F__law_is_number fun _ _ _ _ _ _ us hl => match us, hl with | [_, _], _ => rfl
  obtain ⟨fd__law_is_whole, F__law_is_whole⟩ := c.def_ 14 (d := d__law_is_whole) rfl
  have g__law_is_whole := He.glo_ok X G (c.fact 14 (f := .glo "_law_is_whole") rfl)
  have b__law_is_whole : L2.Binds K fd__law_is_whole ["_law_thing"] [] := FunD.bindsN (ps := ["_law_thing"]) F__law_is_whole fun _ _ _ _ _ _ us hl => match us, hl with | [_], _ => rfl
  obtain ⟨fd__law_plus, F__law_plus⟩ := c.def_ 15 (d := d__law_plus) rfl
  have g__law_plus := He.glo_ok X G (c.fact 15 (f := .glo "_law_plus") rfl)
  have b__law_plus : L2.Binds K fd__law_plus ["_law_g", "_law_x", "_law_y"] [] := FunD.bindsN (ps := ["_law_g", "_law_x", "_law_y"]) F__law_plus fun _ _ _ _ _ _ us hl => match us, hl with | [_, _, _], _ => rfl
  obtain ⟨fd__law_minus, F__law_minus⟩ := c.def_ 16 (d := d__law_minus) rfl
  have g__law_minus := He.glo_ok X G (c.fact 16 (f := .glo "_law_minus") rfl)
  have b__law_minus : L2.Binds K fd__law_minus ["_law_g", "_law_x"] [] := FunD.bindsN (ps := ["_law_g", "_law_x"]) F__law_minus fun _ _ _ _ _ _ us hl => match us, hl with | [_, _], _ => rfl
  obtain ⟨fd__law_times, F__law_times⟩ := c.def_ 17 (d := d__law_times) rfl
  have g__law_times := He.glo_ok X G (c.fact 17 (f := .glo "_law_times") rfl)
  have b__law_times : L2.Binds K fd__law_times ["_law_g", "_law_x", "_law_y"] [] := FunD.bindsN (ps := ["_law_g", "_law_x", "_law_y"]) F__law_times fun _ _ _ _ _ _ us hl => match us, hl with | [_, _, _], _ => rfl
  obtain ⟨fd__law_over, F__law_over⟩ := c.def_ 18 (d := d__law_over) rfl
  have g__law_over := He.glo_ok X G (c.fact 18 (f := .glo "_law_over") rfl)
  have b__law_over : L2.Binds K fd__law_over ["_law_g", "_law_x", "_law_y"] [] := FunD.bindsN (ps := ["_law_g", "_law_x", "_law_y"]) F__law_over fun _ _ _ _ _ _ us hl => match us, hl with | [_, _, _], _ => rfl
  obtain ⟨fd__law_bag, F__law_bag⟩ := c.def_ 19 (d := d__law_bag) rfl
  have g__law_bag := He.glo_ok X G (c.fact 19 (f := .glo "_law_bag") rfl)
  have b__law_bag : L2.Binds K fd__law_bag ["_law_script", "_law_at"] [] := FunD.bindsN (ps := ["_law_script", "_law_at"]) F__law_bag fun _ _ _ _ _ _ us hl => match us, hl with | [_, _], _ => rfl
  obtain ⟨fd__law_ground, F__law_ground⟩ := c.def_ 20 (d := d__law_ground) rfl
  have g__law_ground := He.glo_ok X G (c.fact 20 (f := .glo "_law_ground") rfl)
  have b__law_ground : L2.Binds K fd__law_ground ["_law_bag_here"] [] := FunD.bindsN (ps := ["_law_bag_here"]) F__law_ground fun _ _ _ _ _ _ us hl => match us, hl with | [_], _ => rfl
  obtain ⟨fd__law_take, F__law_take⟩ := c.def_ 21 (d := d__law_take) rfl
  have g__law_take := He.glo_ok X G (c.fact 21 (f := .glo "_law_take") rfl)
  have b__law_take : L2.Binds K fd__law_take ["_law_bag_here", "_law_many"] [] := FunD.bindsN (ps := ["_law_bag_here", "_law_many"]) F__law_take fun _ _ _ _ _ _ us hl => match us, hl with | [_, _], _ => rfl
  obtain ⟨fd__law_whole_draw, F__law_whole_draw⟩ := c.def_ 22 (d := d__law_whole_draw) rfl
  have g__law_whole_draw := He.glo_ok X G (c.fact 22 (f := .glo "_law_whole_draw") rfl)
  have b__law_whole_draw : L2.Binds K fd__law_whole_draw ["_law_bag_here"] [] := FunD.bindsN (ps := ["_law_bag_here"]) F__law_whole_draw fun _ _ _ _ _ _ us hl => match us, hl with | [_], _ => rfl
  obtain ⟨fd__law_any_number, F__law_any_number⟩ := c.def_ 23 (d := d__law_any_number) rfl
  have g__law_any_number := He.glo_ok X G (c.fact 23 (f := .glo "_law_any_number") rfl)
  have b__law_any_number : L2.Binds K fd__law_any_number ["_law_bag_here", "_law_g"] [] := FunD.bindsN (ps := ["_law_bag_here", "_law_g"]) F__law_any_number fun _ _ _ _ _ _ us hl => match us, hl with | [_, _], _ => rfl
  obtain ⟨fd__law_odd, F__law_odd⟩ := c.def_ 24 (d := d__law_odd) rfl
  have g__law_odd := He.glo_ok X G (c.fact 24 (f := .glo "_law_odd") rfl)
  have b__law_odd : L2.Binds K fd__law_odd ["_law_bag_here"] [] := FunD.bindsN (ps := ["_law_bag_here"]) F__law_odd fun _ _ _ _ _ _ us hl => match us, hl with | [_], _ => rfl
  obtain ⟨fd__law_refusal, F__law_refusal⟩ := c.def_ 25 (d := d__law_refusal) rfl
  have g__law_refusal := He.glo_ok X G (c.fact 25 (f := .glo "_law_refusal") rfl)
  have b__law_refusal : L2.Binds K fd__law_refusal ["_law_deed"] [] := FunD.bindsN (ps := ["_law_deed"]) F__law_refusal fun _ _ _ _ _ _ us hl => match us, hl with | [_], _ => rfl
  obtain ⟨fd__law_top_of, F__law_top_of⟩ := c.def_ 26 (d := d__law_top_of) rfl
  have g__law_top_of := He.glo_ok X G (c.fact 26 (f := .glo "_law_top_of") rfl)
  have b__law_top_of : L2.Binds K fd__law_top_of ["_law_deed"] [] := FunD.bindsN (ps := ["_law_deed"]) F__law_top_of fun _ _ _ _ _ _ us hl => match us, hl with | [_], _ => rfl
  obtain ⟨fd__law_is_made, F__law_is_made⟩ := c.def_ 27 (d := d__law_is_made) rfl
  have g__law_is_made := He.glo_ok X G (c.fact 27 (f := .glo "_law_is_made") rfl)
  have b__law_is_made : L2.Binds K fd__law_is_made ["_law_g", "_law_up", "_law_down"] [] := FunD.bindsN (ps := ["_law_g", "_law_up", "_law_down"]) F__law_is_made fun _ _ _ _ _ _ us hl => match us, hl with | [_, _, _], _ => rfl
  obtain ⟨fd__law_is_right, F__law_is_right⟩ := c.def_ 28 (d := d__law_is_right) rfl
  have g__law_is_right := He.glo_ok X G (c.fact 28 (f := .glo "_law_is_right") rfl)
  have b__law_is_right : L2.Binds K fd__law_is_right ["_law_g", "_law_x", "_law_y"] [] := FunD.bindsN (ps := ["_law_g", "_law_x", "_law_y"]) F__law_is_right fun _ _ _ _ _ _ us hl => match us, hl with | [_, _, _], _ => rfl
  obtain ⟨fd__law_long_pair, F__law_long_pair⟩ := c.def_ 29 (d := d__law_long_pair) rfl
  have g__law_long_pair := He.glo_ok X G (c.fact 29 (f := .glo "_law_long_pair") rfl)
  have b__law_long_pair : L2.Binds K fd__law_long_pair ["_law_bag_here", "_law_rows"] [] := FunD.bindsN (ps := ["_law_bag_here", "_law_rows"]) F__law_long_pair fun _ _ _ _ _ _ us hl => match us, hl with | [_, _], _ => rfl
  obtain ⟨fd_law, F_law⟩ := c.def_ 30 (d := d_law) rfl
  have g_law := He.glo_ok X G (c.fact 30 (f := .glo "law") rfl)
  have m_isinstance := He.free_ok X G (c.fact 31 (f := .free "isinstance") rfl)
  have m_int := He.free_ok X G (c.fact 32 (f := .free "int") rfl)
  have m_bool := He.free_ok X G (c.fact 33 (f := .free "bool") rfl)
  have m_abs := He.free_ok X G (c.fact 34 (f := .free "abs") rfl)
  have m_range := He.free_ok X G (c.fact 35 (f := .free "range") rfl)
  have m_tuple := He.free_ok X G (c.fact 36 (f := .free "tuple") rfl)
  have m_len := He.free_ok X G (c.fact 37 (f := .free "len") rfl)
  have m_all := He.free_ok X G (c.fact 38 (f := .free "all") rfl)
  have m_ValueError := He.free_ok X G (c.fact 39 (f := .free "ValueError") rfl)
  have m_max := He.free_ok X G (c.fact 40 (f := .free "max") rfl)
  have m_min := He.free_ok X G (c.fact 41 (f := .free "min") rfl)
  have m_super := He.free_ok X G (c.fact 42 (f := .free "super") rfl)
  have mg_GROUNDS := He.glo_ok X G (c.fact 43 (f := .glo "GROUNDS") rfl)
  have gc_MirrorError := He.glo_ok X G (c.fact 44 (f := .glo "MirrorError") rfl)
  have gc_NoGround := He.glo_ok X G (c.fact 45 (f := .glo "NoGround") rfl)
  have gc_NoNumber := He.glo_ok X G (c.fact 46 (f := .glo "NoNumber") rfl)
  have gc_NoRow := He.glo_ok X G (c.fact 47 (f := .glo "NoRow") rfl)
  have gc_NoTable := He.glo_ok X G (c.fact 48 (f := .glo "NoTable") rfl)
  have gc_NoForm := He.glo_ok X G (c.fact 49 (f := .glo "NoForm") rfl)
  have gc_NoKeeper := He.glo_ok X G (c.fact 50 (f := .glo "NoKeeper") rfl)
  have gc_NoWorth := He.glo_ok X G (c.fact 51 (f := .glo "NoWorth") rfl)
  have gc_NoSeat := He.glo_ok X G (c.fact 52 (f := .glo "NoSeat") rfl)
  have gc_NoFour := He.glo_ok X G (c.fact 53 (f := .glo "NoFour") rfl)
  have gc_NoPlace := He.glo_ok X G (c.fact 54 (f := .glo "NoPlace") rfl)
  have gc_NoClaim := He.glo_ok X G (c.fact 55 (f := .glo "NoClaim") rfl)
  have gc_NoText := He.glo_ok X G (c.fact 56 (f := .glo "NoText") rfl)
  have gc_NoSaying := He.glo_ok X G (c.fact 57 (f := .glo "NoSaying") rfl)
  have gc_TooMany := He.glo_ok X G (c.fact 58 (f := .glo "TooMany") rfl)
  have gc_NotKept := He.glo_ok X G (c.fact 59 (f := .glo "NotKept") rfl)
  have gc_OverNought := He.glo_ok X G (c.fact 60 (f := .glo "OverNought") rfl)
  have gc_Flat := He.glo_ok X G (c.fact 61 (f := .glo "Flat") rfl)
  have gc_NoName := He.glo_ok X G (c.fact 62 (f := .glo "NoName") rfl)
  have R_NoGround := raiseC_of gc_NoGround (c.fact 63 (f := .exc "NoGround") rfl)
  have MG : MirG K mg := ⟨gc_MirrorError, gc_NoGround, gc_NoNumber, gc_NoRow, gc_NoTable, gc_NoForm, gc_NoKeeper, gc_NoWorth, gc_NoSeat, gc_NoFour, gc_NoPlace, gc_NoClaim, gc_NoText, gc_NoSaying, gc_TooMany, gc_NotKept, gc_OverNought, gc_Flat, gc_NoName, m_isinstance, m_len, m_ValueError⟩
  obtain ⟨cm9, ce9⟩ := He.ba cm
  obtain ⟨cm8, ce8⟩ := He.ba cm9
  obtain ⟨cm7, ce7⟩ := He.ba cm8
  obtain ⟨cm6, ce6⟩ := He.ba cm7
  obtain ⟨cm5, ce5⟩ := He.ba cm6
  obtain ⟨cm4, ce4⟩ := He.ba cm5
  obtain ⟨cm3, ce3⟩ := He.ba cm4
  obtain ⟨cm2, ce2⟩ := He.ba cm3
  obtain ⟨cm1, ce1⟩ := He.ba cm2
  have MC_NoGround := mirB_ok (nm := "NoGround") cm1 (by decide +kernel)
  have gr_GROUNDS := fun H : Hp => He.tupB_ok (K := K) (x := "GROUNDS") (vs := [.int 0, .int 3, .int 5, .int 7, .int 11, .int 13]) ce1 H
  have TO : TopC K mg := ⟨gc_OverNought, of_decide_eq_true ce3, xfB_ok ce5, He.eqO_ok ce6, of_decide_eq_true ce4⟩
  have e := hfa.symm.trans g_law
  cases e
  have b := FunD.bindsA (ps := ["_law_script"]) F_law fun _ _ _ _ _ _ us hl => match us, hl with | [_], _ => rfl
  refine ⟨fd_law, fun s v => b s [v] rfl, fun base _ _ hTB => ?_⟩
  have hiw : iw K (He.ga K "OverNought") = _ := (List.cons.inj c2.i).1
  obtain ⟨fd_I, O_OverNought⟩ := over_of (P := PP) (w := w) (base := base) (prm := defArgs initS) (scp := defScope initS) ce2 hiw gc_OverNought m_super (by decide +kernel) rfl rfl (by decide +kernel) (by decide +kernel) (by decide +kernel) (by decide +kernel) rfl (by decide +kernel) rfl rfl (fun _ _ _ _ _ _ _ _ us hl => match us, hl with | [_, _], _ => rfl) (fun _ _ _ _ _ _ _ _ _ _ _ => rfl)
  have FC__law_is_made := codeAt_of (p := ("_law_is_made", none)) F__law_is_made
  have TB__law_is_made : LamX.TabB base mg (He.codeOf K ("_law_is_made", none)) (He.cT K ("_law_is_made", none)).2 := hTB (He.cT K ("_law_is_made", none)) (List.mem_map.mpr ⟨_, List.mem_cons_self, rfl⟩)
  have hm__law_is_made : ((He.cT K ("_law_is_made", none)).2, ((envOfC "_law_is_made" (defScope s__law_is_made) 0 0 .none).qual ++ "<lambda>")) ∈ lamTabs K := by
    unfold lamTabs
    simp
  have hu__law_is_made : ∀ p ∈ lamTabs K, p.1 = (He.cT K ("_law_is_made", none)).2 → p.2 = ((envOfC "_law_is_made" (defScope s__law_is_made) 0 0 .none).qual ++ "<lambda>") := by
    intro p hp e
    unfold lamTabs at hp
    simp only [List.mem_cons, List.not_mem_nil, or_false] at hp
    rcases hp with rfl | rfl | rfl
    · rfl
    · exact absurd e (of_decide_eq_true ce7)
    · exact absurd e (of_decide_eq_true ce8)
  have FC__law_is_right := codeAt_of (p := ("_law_is_right", none)) F__law_is_right
  have TB__law_is_right : LamX.TabB base mg (He.codeOf K ("_law_is_right", none)) (He.cT K ("_law_is_right", none)).2 := hTB (He.cT K ("_law_is_right", none)) (List.mem_map.mpr ⟨_, (by unfold tf; simp), rfl⟩)
  have hm__law_is_right : ((He.cT K ("_law_is_right", none)).2, ((envOfC "_law_is_right" (defScope s__law_is_right) 0 0 .none).qual ++ "<lambda>")) ∈ lamTabs K := by
    unfold lamTabs
    simp
  have hu__law_is_right : ∀ p ∈ lamTabs K, p.1 = (He.cT K ("_law_is_right", none)).2 → p.2 = ((envOfC "_law_is_right" (defScope s__law_is_right) 0 0 .none).qual ++ "<lambda>") := by
    intro p hp e
    unfold lamTabs at hp
    simp only [List.mem_cons, List.not_mem_nil, or_false] at hp
    rcases hp with rfl | rfl | rfl
    · exact absurd e.symm (of_decide_eq_true ce7)
    · rfl
    · exact absurd e (of_decide_eq_true ce9)
  have FC_law := codeAt_of (p := ("law", none)) F_law
  have TB_law : LamX.TabB base mg (He.codeOf K ("law", none)) (He.cT K ("law", none)).2 := hTB (He.cT K ("law", none)) (List.mem_map.mpr ⟨_, (by unfold tf; simp), rfl⟩)
  have hm_law : ((He.cT K ("law", none)).2, ((envOfC "law" (defScope s_law) 0 0 .none).qual ++ "<lambda>")) ∈ lamTabs K := by
    unfold lamTabs
    simp
  have hu_law : ∀ p ∈ lamTabs K, p.1 = (He.cT K ("law", none)).2 → p.2 = ((envOfC "law" (defScope s_law) 0 0 .none).qual ++ "<lambda>") := by
    intro p hp e
    unfold lamTabs at hp
    simp only [List.mem_cons, List.not_mem_nil, or_false] at hp
    rcases hp with rfl | rfl | rfl
    · exact absurd e.symm (of_decide_eq_true ce8)
    · exact absurd e.symm (of_decide_eq_true ce9)
    · rfl
  have G_is_whole : FnOk PP w K mg base CX0 1 _ fd_is_whole ["thing"] (sp_is_whole K) := ok_is_whole F_is_whole m_isinstance m_int m_bool
  have G_common_divisor : FnOk PP w K mg base CX0 1 _ fd_common_divisor ["a", "b"] (sp_common_divisor K) := ok_common_divisor F_common_divisor m_abs
  have G_is_nought_on : FnOk PP w K mg base CX0 1 _ fd_is_nought_on ["ground", "whole"] (sp_is_nought_on K) := ok_is_nought_on F_is_nought_on
  have G_wheel_back : FnOk PP w K mg base CX0 1 _ fd_wheel_back ["wheel", "whole"] (sp_wheel_back K) := ok_wheel_back F_wheel_back
  have G__law_shared : FnOk PP w K mg base CX0 1 _ fd__law_shared ["_law_one", "_law_other"] (sp__law_shared K) := ok__law_shared F__law_shared m_abs
  have G__law_is_whole : FnOk PP w K mg base CX0 1 _ fd__law_is_whole ["_law_thing"] (sp__law_is_whole K) := ok__law_is_whole F__law_is_whole m_isinstance m_int m_bool
  have G__law_bag : FnOk PP w K mg base CX0 1 _ fd__law_bag ["_law_script", "_law_at"] (sp__law_bag K) := ok__law_bag F__law_bag m_len m_abs
  have G__law_take : FnOk PP w K mg base CX0 1 _ fd__law_take ["_law_bag_here", "_law_many"] (sp__law_take K) := ok__law_take F__law_take
  have G_is_ground : FnOk PP w K mg base CX0 2 _ fd_is_ground ["thing"] (sp_is_ground K) := ok_is_ground F_is_ground F_is_whole b_is_whole g_is_whole G_is_whole mg_GROUNDS gr_GROUNDS
  have G_lowest : FnOk PP w K mg base CX0 2 _ fd_lowest ["ground", "top", "bottom"] (sp_lowest K) := ok_lowest F_lowest F_common_divisor b_common_divisor g_common_divisor G_common_divisor F_wheel_back b_wheel_back g_wheel_back G_wheel_back
  have G__law_low : FnOk PP w K mg base CX0 2 _ fd__law_low ["_law_g", "_law_up", "_law_down"] (sp__law_low K) := ok__law_low F__law_low F__law_shared b__law_shared g__law_shared G__law_shared m_range m_int
  have G__law_is_number : FnOk PP w K mg base CX0 2 _ fd__law_is_number ["_law_g", "_law_thing"] (sp__law_is_number K) := ok__law_is_number F__law_is_number F__law_shared b__law_shared g__law_shared G__law_shared F__law_is_whole b__law_is_whole g__law_is_whole G__law_is_whole m_isinstance m_tuple m_len m_all
  have G__law_ground : FnOk PP w K mg base CX0 2 _ fd__law_ground ["_law_bag_here"] (sp__law_ground K) := ok__law_ground F__law_ground F__law_take b__law_take g__law_take G__law_take
  have G__law_whole_draw : FnOk PP w K mg base CX0 2 _ fd__law_whole_draw ["_law_bag_here"] (sp__law_whole_draw K) := ok__law_whole_draw F__law_whole_draw F__law_take b__law_take g__law_take G__law_take m_range
  have G__law_odd : FnOk PP w K mg base CX0 2 _ fd__law_odd ["_law_bag_here"] (sp__law_odd K) := ok__law_odd F__law_odd F__law_take b__law_take g__law_take G__law_take
  have G__law_long_pair : FnOk PP w K mg base CX0 2 _ fd__law_long_pair ["_law_bag_here", "_law_rows"] (sp__law_long_pair K) := ok__law_long_pair F__law_long_pair F__law_take b__law_take g__law_take G__law_take m_range
  have G_number : FnOk PP w K mg base (L2N.CX PP w) 3 _ fd_number ["ground", "top", "bottom"] (sp_number K) := ok_number F_number F_is_nought_on b_is_nought_on g_is_nought_on G_is_nought_on F_lowest b_lowest g_lowest G_lowest F_is_ground b_is_ground g_is_ground G_is_ground R_NoGround O_OverNought
  have G_plus : FnOk PP w K mg base CX0 3 _ fd_plus ["ground", "x", "y"] (sp_plus K) := ok_plus F_plus F_lowest b_lowest g_lowest G_lowest
  have G_less : FnOk PP w K mg base CX0 3 _ fd_less ["ground", "x", "y"] (sp_less K) := ok_less F_less F_lowest b_lowest g_lowest G_lowest
  have G_times : FnOk PP w K mg base CX0 3 _ fd_times ["ground", "x", "y"] (sp_times K) := ok_times F_times F_lowest b_lowest g_lowest G_lowest
  have G_over : FnOk PP w K mg base (L2N.CX PP w) 3 _ fd_over ["ground", "x", "y"] (sp_over K) := ok_over F_over F_lowest b_lowest g_lowest G_lowest O_OverNought
  have G__law_plus : FnOk PP w K mg base CX0 3 _ fd__law_plus ["_law_g", "_law_x", "_law_y"] (sp__law_plus K) := ok__law_plus F__law_plus F__law_low b__law_low g__law_low G__law_low
  have G__law_minus : FnOk PP w K mg base CX0 3 _ fd__law_minus ["_law_g", "_law_x"] (sp__law_minus K) := ok__law_minus F__law_minus F__law_low b__law_low g__law_low G__law_low
  have G__law_times : FnOk PP w K mg base CX0 3 _ fd__law_times ["_law_g", "_law_x", "_law_y"] (sp__law_times K) := ok__law_times F__law_times F__law_low b__law_low g__law_low G__law_low
  have G__law_over : FnOk PP w K mg base CX0 3 _ fd__law_over ["_law_g", "_law_x", "_law_y"] (sp__law_over K) := ok__law_over F__law_over F__law_low b__law_low g__law_low G__law_low
  have G__law_any_number : FnOk PP w K mg base CX0 3 _ fd__law_any_number ["_law_bag_here", "_law_g"] (sp__law_any_number K) := ok__law_any_number F__law_any_number F__law_whole_draw b__law_whole_draw g__law_whole_draw G__law_whole_draw F__law_low b__law_low g__law_low G__law_low
  have G__law_is_made : FnOk PP w K mg base CX0 6 _ fd__law_is_made ["_law_g", "_law_up", "_law_down"] (sp__law_is_made K (lamTabs K)) := ok__law_is_made F__law_is_made F_number b_number kb_number_2_bottom kb_number_0_bottom_ground_top g_number G_number F__law_low b__law_low g__law_low G__law_low F__law_top_of b__law_top_of g__law_top_of F__law_is_number b__law_is_number g__law_is_number G__law_is_number FC__law_is_made TB__law_is_made hm__law_is_made hu__law_is_made TO m_all
  have G__law_is_right : FnOk PP w K mg base CX0 6 _ fd__law_is_right ["_law_g", "_law_x", "_law_y"] (sp__law_is_right K (lamTabs K)) := ok__law_is_right F__law_is_right F_plus b_plus g_plus G_plus F_less b_less g_less G_less F_times b_times g_times G_times F__law_is_number b__law_is_number g__law_is_number G__law_is_number F__law_plus b__law_plus g__law_plus G__law_plus F__law_times b__law_times g__law_times G__law_times F__law_top_of b__law_top_of g__law_top_of F_over b_over g_over G_over F__law_over b__law_over g__law_over G__law_over F__law_minus b__law_minus g__law_minus G__law_minus FC__law_is_right TB__law_is_right hm__law_is_right hu__law_is_right TO m_all
  exact ok_law (T := lamTabs K) F_law F__law_bag b__law_bag g__law_bag G__law_bag F__law_long_pair b__law_long_pair g__law_long_pair G__law_long_pair F__law_ground b__law_ground g__law_ground G__law_ground F__law_odd b__law_odd g__law_odd G__law_odd F__law_refusal b__law_refusal g__law_refusal F_number b_number hd_number bd_number kb_number_0_ground_top_bottom g_number G_number F__law_whole_draw b__law_whole_draw g__law_whole_draw G__law_whole_draw F__law_low b__law_low g__law_low G__law_low F__law_any_number b__law_any_number g__law_any_number G__law_any_number F__law_take b__law_take g__law_take G__law_take F__law_is_made b__law_is_made g__law_is_made G__law_is_made F__law_minus b__law_minus g__law_minus G__law_minus F__law_is_right b__law_is_right g__law_is_right G__law_is_right F__law_is_whole b__law_is_whole g__law_is_whole G__law_is_whole FC_law TB_law hm_law hu_law MG TO MC_NoGround m_range m_max m_min m_len

end Fm
open PySem PySem.W PySem.Calls PyProof.Rows
set_option maxHeartbeats 0 in
theorem PySem.Challenge.cw_fewmirrors_k02_numbers_reckoned_holds : PySem.Challenge.rw_fewmirrors_k02_numbers_reckoned.Holds := by
  w_on; o_law
  refine HandSHeadRun.head_any (r := OpenLaw.row PySem.Challenge.rw_fewmirrors_k02_numbers_reckoned) (q := view (OpenLaw.row PySem.Challenge.rw_fewmirrors_k02_numbers_reckoned).prog [54]) (H := Fm.hk) (ob := Fm.ob) (M := 8000) (loose := Fm.loose) (d := HandSHeadRun.topDef (OpenLaw.row PySem.Challenge.rw_fewmirrors_k02_numbers_reckoned).prog 54) (kwd := []) Fm.ob_eq
    (by kernel_rfl) (fun s => by kernel_rfl) Fm.run (by kernel_rfl) (by kernel_rfl) (by kernel_rfl) (by rfl) (by first | assumption | decide +kernel) (by decide +kernel) ⟨rfl, rfl, rfl, rfl, rfl, by decide +kernel⟩ ?hw ?hc
  case hw => w_witness2
  case hc =>
    refine LamX.walk_ofTsE (l := PySem.Challenge.rw_fewmirrors_k02_numbers_reckoned) (n := 63) (k := 7) (x := "_law_script") (CX := fun _ => L2.CX0) rfl (by decide) (by kernel_rfl) ⟨rfl, by decide, by decide⟩ ?F (fun _ _ _ _ _ z => z)
    intro w mg fa h Y G hmg0
    obtain ⟨K, KX, c⟩ := Y
    have hmg : mg ("law" : PySem.Str) = some (.ref fa) := by
      have e : (HandSHeadRun.topDef (OpenLaw.row PySem.Challenge.rw_fewmirrors_k02_numbers_reckoned).prog 54).name = ("law" : PySem.Str) := by kernel_rfl
      rw [← e]
      exact hmg0
    obtain ⟨fd, hb, hF⟩ := Fm.facts (w := w) KX G hmg c
    refine ⟨K, KX, fd, Fm.tf.map (He.cT K), Fm.sp_law K (Fm.lamTabs K), fun p hp => ?_, fun p hp => ?_, fun p hp => ?_, hb, fun H a ns hl _ hH hS => ?_, fun base h1 h2 h3 => hF base h1 h2 h3⟩
    · obtain ⟨q, hq, rfl⟩ := List.mem_map.mp hp
      exact c.x.empty q hq
    · obtain ⟨q, hq, rfl⟩ := List.mem_map.mp hp
      exact c.x.out q hq
    · obtain ⟨q, hq, rfl⟩ := List.mem_map.mp hp
      exact codeHd_of_K KX (c.x.hd q hq)
    · refine ⟨a, ns, rfl, hS, fun p hp => ?_, fun _ => rfl⟩
      unfold Fm.lamTabs at hp
      simp only [List.mem_cons, List.not_mem_nil, or_false] at hp
      have key : ∀ q ∈ Fm.tf, H (He.cT K q).2 = some (.tbl #[]) := fun q hq => hH _ (List.mem_map.mpr ⟨q, hq, rfl⟩)
      rcases hp with rfl | rfl | rfl <;> exact LamX.TabS.nil (key _ (by unfold Fm.tf; simp))
