import PyProof.Rows.All
import Wide.All
import OpenK.AllK
import Wide.FinOn
import KE.KStateDown
import Lean
import HandS.ForMost
import HandS.Wide
import HandS.FStr
import HandS.IsInst
import HandS.Flow
import HandS.Style
import HandS.Zip
import HandS.Conv
import HandS.Defaults
import HandS.Walk
import HandS.More
import HandS.WordsExc
import HandS.Head0
import HandS.Head1
import HandS.Head2
import HandS.HeadEnd
import HandS.HeadHook1
import HandS.HeadHook2
import HandS.TupAny
import HandS.Hot
import HandS.Comp
import HandS.ExcCtx
import HandS.HotCalls
import HandS.TryMany
import HandS.ExcIs
import HandS.Lambda
import HandS.EndTab
import HandS.HeadHook3
import HandS.HeadHook4
import HandS.HeadWalk
import HandS.WideBits
import HandS.TryOnly
import HandS.ExcSuper
import HandS.ExcInit
import KE.KSuper
import HandS.ExcOwn
import HandS.CallSlots
import HandS.ExcField
import HandS.Codes
import HandS.Strs
import HandS.SetFor
import HandS.SortInts
import PyProof.Rows.SetFrom
import KE.GoesMore
import HandS.Iter
import HandS.MakeKw
import HandS.Deep
import PySem.Challenge.RW_fewmirrors_k18_leading_refused
set_option Elab.async false
set_option linter.all false
set_option maxRecDepth 100000
set_option maxHeartbeats 4000000
namespace Fm
open PySem PySem.Spec PyProof.Rows L2
def CDivZ (_ j : Int) : Prop := j ≠ 0 ∧ j.natAbs.log2 < 9000
theorem op_fdivZ {X : Cx} : OpR X (binaryOp .FloorDiv) (rI CDivZ fun i j => .int (i.fdiv j)) := opI fun _ _ _ _ _ _ _ hc q => floordiv_int hc.1 q (.inl (PyProof.noPylong_of_log2 hc.2))
theorem divZ_small {i j : Int} (h : 0 < j) (h2 : j < 4294967296) : CDivZ i j := ⟨by omega, Nat.lt_of_lt_of_le (PySem.Flt.log2_lt_of (n := j.natAbs) (k := 32) (by decide) (by omega)) (by decide)⟩
theorem divZ_of {i j : Int} {b : Nat} (h : j ≠ 0) (hb : j.natAbs < 2 ^ b) (h0 : 0 < b) (h9 : b ≤ 9000) : CDivZ i j := ⟨h, Nat.lt_of_lt_of_le (PySem.Flt.log2_lt_of h0 hb) h9⟩
theorem fmod_pos (a : Int) {b : Int} (h : 0 < b) : a.fmod b = a % b := Int.fmod_eq_emod_of_nonneg a (by omega)
theorem fdiv_pos (a : Int) {b : Int} (h : 0 < b) : a.fdiv b = a / b := Int.fdiv_eq_ediv_of_nonneg a (by omega)
abbrev FnP (K : PySem.W.Frag) (x : Str) (st : Stmt) (f : Addr) (fd : FuncData) : Prop := FunD K x x (defArgs st) (defBody st) (defScope st) [] [] f fd
/-! ### steps of a reading -/
section
variable {K : PySem.W.Frag} {σ : L2.St} {H : Hp} {Q : VK} {ta tb tc te : TE} {t u : TS} {D : Ends} {g : TG} {i : Nat} {v x y : V} {c : TT} {r : R2} {cA cB : TT} {as : TA}
theorem w_var (h : σ[i]? = some (some v)) (q : Q v H) : tVar i σ H Q := ⟨v, h, q⟩
theorem w_c (q : Q v H) : tC v σ H Q := q
theorem w_seq (h : t { D with nx := u D } σ H) : tSeq t u D σ H := h
theorem w_next (h : D.nx σ H) : tNext D σ H := h
theorem w_asg (h : te σ H fun x H1 => g x σ H1 D.nx) : tAsg te g D σ H := h
theorem w_ret (h : te σ H D.rt) : tRet te D σ H := h
theorem w_drop (h : te σ H fun _ H1 => D.nx σ H1) : tDrop te D σ H := h
theorem w_ifs (h : c σ H fun b H1 => if b = true then t D σ H1 else u D σ H1) : tIfS c t u D σ H := h
theorem w_op (h : ta σ H fun x H1 => tb σ H1 fun y H2 => r x y H2 Q) : tOp r ta tb σ H Q := h
theorem w_un {r : V → Hp → VK → Prop} (h : ta σ H fun x H1 => r x H1 Q) : tUn r ta σ H Q := h
theorem w_name {R : L2.St → Hp → Prop} (h : R (σ.set i (some v)) H) : gName i v σ H R := h
theorem w_sub {to ti : TE} {ts : TSet} {R : L2.St → Hp → Prop} (h : to σ H fun o H1 => ti σ H1 fun i H2 => ts o i v H2 fun H3 => R σ H3) : gSub to ti ts v σ H R := h
theorem w_test {R : Bool → Hp → Prop} (h : te σ H fun x H' => ∃ k, x = .bl k ∧ R k H') : tTest te σ H R := h
theorem w_B {R : Bool → Hp → Prop} (h : te σ H fun x H' => ∃ k, x = .bl k ∧ R k H') : tB te σ H R := h
theorem w_exb {b : Bool} {R : Bool → Prop} (h : R b) : ∃ k, V.bl b = .bl k ∧ R k := ⟨b, rfl, h⟩
theorem w_and {R : Bool → Hp → Prop} (h : cA σ H fun c H1 => if c = true then cB σ H1 R else R false H1) : tAnd cA cB σ H R := h
theorem w_or {R : Bool → Hp → Prop} (h : cA σ H fun c H1 => if c = true then R true H1 else cB σ H1 R) : tOr cA cB σ H R := h
theorem w_not {R : Bool → Hp → Prop} (h : cA σ H fun c H1 => R (!c) H1) : tNot cA σ H R := h
theorem w_andV (h : ta σ H fun x H1 => ∃ c, x = .bl c ∧ if c = true then tb σ H1 Q else Q (.bl false) H1) : tAndV ta tb σ H Q := h
theorem w_orV (h : ta σ H fun x H1 => ∃ c, x = .bl c ∧ if c = true then Q (.bl true) H1 else tb σ H1 Q) : tOrV ta tb σ H Q := h
theorem w_notV (h : ta σ H fun x H1 => ∃ c, x = .bl c ∧ Q (.bl (!c)) H1) : tNotV ta σ H Q := h
theorem w_if (h : c σ H fun b H1 => if b = true then ta σ H1 Q else tb σ H1 Q) : tIf c ta tb σ H Q := h
theorem w_I0 {g : Int → Int → V} {a b : Int} (q : Q (g a b) H) : rI0 g (.int a) (.int b) H Q := ⟨a, b, rfl, rfl, q⟩
theorem w_I {C : Int → Int → Prop} {g : Int → Int → V} {a b : Int} (hc : C a b) (q : Q (g a b) H) : rI C g (.int a) (.int b) H Q := ⟨a, b, rfl, rfl, hc, q⟩
theorem w_U {g : Int → V} {a : Int} (q : Q (g a) H) : rU g (.int a) H Q := ⟨a, rfl, q⟩
theorem w_eqI {a b : Int} (q : Q (.bl (decide (a = b))) H) : rEq (.int a) (.int b) H Q := ⟨rfl, by
  have e : decide (V.int a = V.int b) = decide (a = b) := by
    by_cases h : a = b
    · rw [decide_eq_true h, decide_eq_true (by rw [h])]
    · rw [decide_eq_false h, decide_eq_false (fun z => h (V.int.inj z))]
  rw [e]
  exact q⟩
theorem w_neI {a b : Int} (q : Q (.bl (!decide (a = b))) H) : rNe (.int a) (.int b) H Q := ⟨rfl, by
  have e : decide (V.int a = V.int b) = decide (a = b) := by
    by_cases h : a = b
    · rw [decide_eq_true h, decide_eq_true (by rw [h])]
    · rw [decide_eq_false h, decide_eq_false (fun z => h (V.int.inj z))]
  rw [e]
  exact q⟩
theorem w_nil {R : List V → Hp → Prop} (h : R [] H) : tNil σ H R := h
theorem w_cons {R : List V → Hp → Prop} (h : ta σ H fun x H1 => as σ H1 fun xs H2 => R (x :: xs) H2) : tCons ta as σ H R := h
def NewO (o : HO) (H : Hp) (Q : VK) : Prop := ∀ p, H p = none → Q (.ref p) (upd H p o)
def NewS (mk : List V → HO) (xs : List V) (H : Hp) (Q : VK) : Prop := xs.length ≤ sizeLine ∧ NewO (mk xs) H Q
theorem w_tup (h : as σ H fun xs H1 => NewS .tup xs H1 Q) : tTup as σ H Q := h
theorem w_lst (h : as σ H fun xs H1 => NewS .lst xs H1 Q) : tLst as σ H Q := h
theorem w_for {wi : TI} {tb : TS} (hh : wi σ H fun it h1 => ∃ Inv : Nat → Nat → L2.St → Hp → Prop, (∃ left, Inv 0 left σ h1) ∧ ∀ turn left slots hp, Inv turn left slots hp →
    (it.stop turn hp ∧ D.nx slots hp) ∨ (it.go turn hp ∧ ∃ Nxt : L2.St → Hp → Prop, (∀ slots' hp', Nxt slots' hp' → ∃ left', left' < left ∧ Inv (turn + 1) left' slots' hp') ∧
      ∀ item hp', it.yld turn hp item hp' → g item slots hp' fun slots2 h2 => tb { D with nx := Nxt, ct := Nxt, bk := D.nx } slots2 h2)) : tFor wi g tb D σ H := hh
theorem w_rng1 {ta : TA} {R : It → Hp → Prop} (h : ta σ H fun vs H1 => ∃ j : Int, vs = [.int j] ∧ -(2 ^ 62) ≤ j ∧ j < 2 ^ 62 ∧ R (Itr 0 j.toNat) H1) : iRng1 ta σ H R := h
theorem same_upd {p : Addr} {o : HO} (h : H p = none) : Same H (upd H p o) := fun b x e => by
  rw [upd_ne (ne_of_none e h)]
  exact e
theorem w_new {mk : List V → HO} {xs : List V} (hz : xs.length ≤ 1000) (h : ∀ p H', H p = none → Same H H' → H' p = some (mk xs) → Q (.ref p) H') : NewS mk xs H Q := ⟨Nat.le_of_lt (small1000 hz), fun p hp => h p _ hp (same_upd hp) upd_same⟩
theorem w_newO {o : HO} (h : ∀ p H', H p = none → Same H H' → H' p = some o → Q (.ref p) H') : NewO o H Q := fun p hp => h p _ hp (same_upd hp) upd_same
theorem w_cb {r : List V → Hp → VK → Prop} (h : as σ H fun vs H1 => r vs H1 Q) : tCB r as σ H Q := h
theorem w_call {sp : Sp} {dvs : List V} {E : XK} (h : as σ H fun vs H1 => sp (vs ++ dvs) H1 Q E) : tCall sp dvs E as σ H Q := h
theorem w_ixL {p : Addr} {xs : List V} {i : Int} (h : H p = some (.lst xs)) (e : atI xs i = some v) (q : Q v H) : rIxL K (.ref p) (.int i) H Q := ⟨p, xs, i, v, rfl, rfl, SqL.of h, e, q⟩
theorem w_ixLs {p : Addr} {xs : List V} {i : Int} (h : SqL K H p xs) (e : atI xs i = some v) (q : Q v H) : rIxL K (.ref p) (.int i) H Q := ⟨p, xs, i, v, rfl, rfl, h, e, q⟩
theorem w_ixT {p : Addr} {xs : List V} {i : Int} (h : H p = some (.tup xs)) (e : atI xs i = some v) (q : Q v H) : rIxT K (.ref p) (.int i) H Q := ⟨p, xs, i, v, rfl, rfl, SqT.of h, e, q⟩
theorem w_setL {p : Addr} {xs : List V} {k : Int} {j : Nat} {R : Hp → Prop} (h : H p = some (.lst xs)) (e : ixN xs.length k = some j) (q : R (upd H p (.lst (xs.set j v)))) : rSetL (.ref p) (.int k) v H R := ⟨p, xs, k, j, rfl, rfl, h, e, q⟩
theorem w_par {i j : Nat} (h : as σ H fun vs H1 => ∃ v w, vs = [v, w] ∧ D.nx ((σ.set i (some v)).set j (some w)) H1) : tPar i j as D σ H := h
theorem w_ex2 {a b : V} {R : V → V → Prop} (h : R a b) : ∃ v w, [a, b] = [v, w] ∧ R v w := ⟨a, b, rfl, h⟩
theorem w_ite {p : Prop} [Decidable p] {A B : Prop} (h1 : p → A) (h2 : ¬ p → B) : if decide p = true then A else B := by
  by_cases h : p
  · rw [decide_eq_true h]; exact h1 h
  · rw [decide_eq_false h]; exact h2 h
theorem w_iteN {p : Prop} [Decidable p] {A B : Prop} (h1 : ¬ p → A) (h2 : p → B) : if (!decide p) = true then A else B := by
  by_cases h : p
  · rw [decide_eq_true h]; exact h2 h
  · rw [decide_eq_false h]; exact h1 h
theorem w_t {A B : Prop} (h : A) : if true = true then A else B := h
theorem w_f {A B : Prop} (h : B) : if false = true then A else B := h
end
section
variable {K : PySem.W.Frag} {σ : L2.St} {H : Hp} {Q : VK} {te : TE} {g : TG} {tt : TT} {vs : List Nat}
theorem w_lc {wi : TI} (hh : wi σ H fun it h1 => ∀ new, h1 new = none → ∃ Inv : Nat → Nat → Hp → Prop, (∃ left, Inv 0 left (upd h1 new (.lst []))) ∧ ∀ turn left hp, Inv turn left hp →
    (it.stop turn hp ∧ Q (.ref new) hp) ∨ (it.go turn hp ∧ ∃ Nxt : Hp → Prop, (∀ hp', Nxt hp' → ∃ left', left' < left ∧ Inv (turn + 1) left' hp') ∧
      ∀ item hp', it.yld turn hp item hp' → g item (wipe σ vs) hp' fun slots h2 => wipe slots vs = wipe σ vs ∧ tt slots h2 fun kept h3 =>
        if kept = true then te slots h3 fun made h4 => ∃ sofar, h4 new = some (.lst sofar) ∧ sofar.length < sizeLine ∧ Nxt (upd h4 new (.lst (sofar ++ [made]))) else Nxt h3)) : tLc wi g tt te vs σ H Q := hh
theorem w_yes {R : Bool → Hp → Prop} (h : R true H) : tYes σ H R := h
theorem w_zipA {ta : TA} {R : It → Hp → Prop} (h : ta σ H fun vs H1 => ∃ a b xs ys, vs = [.ref a, .ref b] ∧ ((SqL K H1 a xs ∧ SqL K H1 b ys ∧ R (Itz K a b) H1) ∨ (SqT K H1 a xs ∧ SqT K H1 b ys ∧ R (RZ.ItzT K a b) H1))) : RZ.iZipA K ta σ H R := h
theorem w_itup {tl : TE} {R : It → Hp → Prop} (h : tl σ H fun x H1 => ∃ a, x = .ref a ∧ (∃ xs, SqT K H1 a xs) ∧ R (Itt K a) H1) : iTup K tl σ H R := h
theorem w_ilist {tl : TE} {R : It → Hp → Prop} (h : tl σ H fun x H1 => ∃ a, x = .ref a ∧ (∃ xs, SqL K H1 a xs) ∧ R (Itl K a) H1) : iList K tl σ H R := h
theorem w_gtup {n : Nat} {t : TGs} {a : Addr} {xs : List V} {R : L2.St → Hp → Prop} (h : H a = some (.tup xs)) (hn : xs.length = n) (q : t xs σ H R) : gTup K n t (.ref a) σ H R := ⟨a, xs, rfl, SqT.of h, hn, q⟩
theorem w_gcons {t : TG} {u : TGs} {v : V} {r : List V} {R : L2.St → Hp → Prop} (h : t v σ H fun σ' H' => u r σ' H' R) : gCons t u (v :: r) σ H R := ⟨v, r, rfl, h⟩
theorem w_gnil {R : L2.St → Hp → Prop} (h : R σ H) : gNil [] σ H R := ⟨rfl, h⟩
end
theorem walk_zipT {K : PySem.W.Frag} {a b : Addr} {xs ys : List V} {n : Nat} (hn : n = min xs.length ys.length) : Walk (RZ.ItzT K a b) n (fun H => SqT K H a xs ∧ SqT K H b ys) (YPair (fun i => xs[i]?) (fun i => ys[i]?)) where
  goes := fun turn hp ht both => by
    have lx : turn < xs.length := by omega
    have ly : turn < ys.length := by omega
    exact ⟨xs, ys, _, _, both.1, both.2, List.getElem?_eq_getElem lx, List.getElem?_eq_getElem ly⟩
  stops := fun hp both => ⟨xs, ys, both.1, both.2, by omega⟩
  yields := fun turn hp v hp' ht both got => by
    obtain ⟨pair, one, two, e1, e2, e3, f1, f2⟩ := got
    exact ⟨pair, one, two, e1, e2, e3, f1 _ both.1, f2 _ both.2⟩
section
variable {H : Hp} {Q : VK}
theorem w_e1 {a : Int} {R : Int → Prop} (h : R a) : ∃ i, [V.int a] = [V.int i] ∧ R i := ⟨a, rfl, h⟩
theorem w_e2 {a b : Int} {R : Int → Int → Prop} (h : R a b) : ∃ i j, [V.int a, V.int b] = [V.int i, V.int j] ∧ R i j := ⟨a, b, rfl, h⟩
theorem w_Iv {C : Int → Int → Prop} {g : Int → Int → V} {a b : Int} {z : V} (hc : C a b) (e : g a b = z) (q : Q z H) : rI C g (.int a) (.int b) H Q := ⟨a, b, rfl, rfl, hc, by
  rw [e]
  exact q⟩
end
/-! ### heaps -/
def Mv (b : Addr) (H H' : Hp) : Prop := ∀ p o, p ≠ b → H p = some o → H' p = some o
def Kt (H H' : Hp) : Prop := ∀ p xs, H p = some (.tup xs) → H' p = some (.tup xs)
theorem Kt.refl (H : Hp) : Kt H H := fun _ _ h => h
theorem Kt.trans {H H1 H2 : Hp} (a : Kt H H1) (b : Kt H1 H2) : Kt H H2 := fun p xs h => b p xs (a p xs h)
theorem Kt.of {H H' : Hp} (s : Same H H') : Kt H H' := fun p xs h => s p _ h
theorem Mv.refl (b : Addr) (H : Hp) : Mv b H H := fun _ _ _ h => h
theorem Mv.trans {b : Addr} {H H1 H2 : Hp} (m1 : Mv b H H1) (m2 : Mv b H1 H2) : Mv b H H2 := fun p o n h => m2 p o n (m1 p o n h)
theorem Mv.same {b : Addr} {H H1 : Hp} (s : Same H H1) : Mv b H H1 := fun p o _ h => s p o h
theorem Mv.upd {b : Addr} {H : Hp} {o : HO} : Mv b H (upd H b o) := fun p u n h => by
  rw [upd_ne n]
  exact h
def Bag (H : Hp) (b : Addr) : Prop := ∃ A B : Int, H b = some (.lst [.int A, .int B]) ∧ 0 ≤ A ∧ 0 ≤ B ∧ B < 2147483647
theorem Mv.kt {b : Addr} {H H' : Hp} (m : Mv b H H') (hb : Bag H b) : Kt H H' := fun p xs h => m p _ (fun e => by
  subst e
  obtain ⟨A, B, h2, _⟩ := hb
  rw [h] at h2
  cases h2) h
theorem Bag.same {b : Addr} {H H' : Hp} (hb : Bag H b) (s : Same H H') : Bag H' b := by
  obtain ⟨A, B, h, r⟩ := hb
  exact ⟨A, B, s _ _ h, r⟩
/-- a number: a tuple of two whole numbers, of less than k bits, the second not 0 -/
def NumB (H : Hp) (v : V) (k : Nat) : Prop := ∃ (p : Addr) (x y : Int), v = .ref p ∧ H p = some (.tup [.int x, .int y]) ∧ x.natAbs < 2 ^ k ∧ y.natAbs < 2 ^ k ∧ y ≠ 0
theorem NumB.kt {H H' : Hp} {v : V} {k : Nat} (h : NumB H v k) (s : Kt H H') : NumB H' v k := by
  obtain ⟨p, x, y, e, hp, r⟩ := h
  exact ⟨p, x, y, e, s _ _ hp, r⟩
theorem NumB.mono {H : Hp} {v : V} {k l : Nat} (h : NumB H v k) (hl : k ≤ l) : NumB H v l := by
  obtain ⟨p, x, y, e, hp, h1, h2, h3⟩ := h
  exact ⟨p, x, y, e, hp, Nat.lt_of_lt_of_le h1 (Nat.pow_le_pow_right (by decide) hl), Nat.lt_of_lt_of_le h2 (Nat.pow_le_pow_right (by decide) hl), h3⟩
theorem Kt.updL {H : Hp} {D : Addr} {xs : List V} {o : HO} (h : H D = some (.lst xs)) : Kt H (upd H D o) := fun p ys hp => by
  have n : p ≠ D := fun e => by
    subst e
    rw [h] at hp
    cases hp
  rw [upd_ne n]
  exact hp
theorem bag_ne {H : Hp} {b p : Addr} (hb : Bag H b) (hp : H p = none) : p ≠ b := fun e => by
  subst e
  obtain ⟨A, B, h2, _⟩ := hb
  rw [hp] at h2
  cases h2
theorem Bag.upd {H : Hp} {b D : Addr} {o : HO} (hb : Bag H b) (n : D ≠ b) : Bag (upd H D o) b := by
  obtain ⟨A, B, h, r⟩ := hb
  exact ⟨A, B, (upd_ne n.symm).trans h, r⟩
theorem Mv.updD {b D : Addr} {H H' : Hp} {o : HO} (m : Mv b H H') (hD : H D = none) : Mv b H (L2.upd H' D o) := fun p u n h => by
  rw [upd_ne (ne_of_none h hD)]
  exact m p u n h
theorem Same.updD {D : Addr} {H H' : Hp} {o : HO} (m : Same H H') (hD : H D = none) : Same H (L2.upd H' D o) := fun p u h => by
  rw [upd_ne (ne_of_none h hD)]
  exact m p u h
/-- a row of n numbers -/
def RowB (H : Hp) (v : V) (n k : Nat) : Prop := ∃ (p : Addr) (xs : List V), v = .ref p ∧ H p = some (.tup xs) ∧ xs.length = n ∧ ∀ x ∈ xs, NumB H x k
theorem RowB.kt {H H' : Hp} {v : V} {n k : Nat} (h : RowB H v n k) (s : Kt H H') : RowB H' v n k := by
  obtain ⟨p, xs, e, hp, hl, r⟩ := h
  exact ⟨p, xs, e, s _ _ hp, hl, fun x hx => (r x hx).kt s⟩
theorem RowB.mono {H : Hp} {v : V} {n k l : Nat} (h : RowB H v n k) (hl : k ≤ l) : RowB H v n l := by
  obtain ⟨p, xs, e, hp, hn, r⟩ := h
  exact ⟨p, xs, e, hp, hn, fun x hx => (r x hx).mono hl⟩
/-- a table -/
def TabB (H : Hp) (v : V) (m n k : Nat) : Prop := ∃ (p : Addr) (xs : List V), v = .ref p ∧ H p = some (.tup xs) ∧ xs.length = m ∧ ∀ x ∈ xs, RowB H x n k
theorem TabB.kt {H H' : Hp} {v : V} {m n k : Nat} (h : TabB H v m n k) (s : Kt H H') : TabB H' v m n k := by
  obtain ⟨p, xs, e, hp, hl, r⟩ := h
  exact ⟨p, xs, e, s _ _ hp, hl, fun x hx => (r x hx).kt s⟩
/-! ### the number of two whole numbers -/
def lowI (g u d : Int) : Option Nat := if 0 < g then (List.range g.toNat).find? (fun i => decide (((i : Int) * d).fmod g = u.fmod g)) else none
def lowC (u d : Int) : Int := (Int.gcd u d : Int) * (if d < 0 then -1 else 1)
def lowF (g u d : Int) : Int × Int := match lowI g u d with
  | some i => ((i : Int), 1)
  | none => (u.fdiv (lowC u d), d.fdiv (lowC u d))
theorem lowC_ne {u d : Int} (h : d ≠ 0) : lowC u d ≠ 0 := by
  have h1 : Int.gcd u d ≠ 0 := fun z => h (Int.gcd_eq_zero_iff.mp z).2
  unfold lowC
  split <;> omega
theorem lowC_dvd {u d : Int} : (∃ q, u = lowC u d * q) ∧ ∃ q, d = lowC u d * q := by
  obtain ⟨q1, e1⟩ := Int.gcd_dvd_left u d
  obtain ⟨q2, e2⟩ := Int.gcd_dvd_right u d
  unfold lowC
  split
  · refine ⟨⟨-q1, ?_⟩, ⟨-q2, ?_⟩⟩
    · rw [Int.mul_assoc, Int.neg_mul_neg, Int.one_mul]; exact e1
    · rw [Int.mul_assoc, Int.neg_mul_neg, Int.one_mul]; exact e2
  · refine ⟨⟨q1, ?_⟩, ⟨q2, ?_⟩⟩
    · rw [Int.mul_one]; exact e1
    · rw [Int.mul_one]; exact e2
theorem natAbs_fac {c q : Int} (h : c ≠ 0) : q.natAbs ≤ (c * q).natAbs := by
  rw [Int.natAbs_mul]
  have : 1 ≤ c.natAbs := by omega
  exact Nat.le_mul_of_pos_left _ this
theorem lowC_le {u d : Int} (h : d ≠ 0) : (lowC u d).natAbs ≤ d.natAbs := by
  obtain ⟨_, q, e⟩ := lowC_dvd (u := u) (d := d)
  have hq : q ≠ 0 := fun z => h (by rw [e, z, Int.mul_zero])
  have : (lowC u d).natAbs ≤ (lowC u d * q).natAbs := by
    rw [Int.mul_comm]; exact natAbs_fac hq
  rw [← e] at this
  exact this
theorem low_bd {g u d : Int} {k : Nat} (hg : g ≤ 13) (hd : d ≠ 0) (hk : 4 ≤ k) (h1 : u.natAbs < 2 ^ k) (h2 : d.natAbs < 2 ^ k) : (lowF g u d).1.natAbs < 2 ^ k ∧ (lowF g u d).2.natAbs < 2 ^ k ∧ (lowF g u d).2 ≠ 0 := by
  have hk16 : 16 ≤ 2 ^ k := Nat.le_trans (by decide : 16 ≤ 2 ^ 4) (Nat.pow_le_pow_right (by decide) hk)
  unfold lowF
  cases e : lowI g u d with
  | some i =>
    have hi : i < 13 := by
      unfold lowI at e
      split at e
      · have := List.mem_of_find?_eq_some e
        have := List.mem_range.mp this
        omega
      · cases e
    refine ⟨?_, ?_, fun z => absurd (show (1 : Int) = 0 from z) (by decide)⟩
    · show ((i : Int)).natAbs < 2 ^ k
      omega
    · show (1 : Int).natAbs < 2 ^ k
      omega
  | none =>
    have hc := lowC_ne (u := u) hd
    obtain ⟨⟨q1, e1⟩, q2, e2⟩ := lowC_dvd (u := u) (d := d)
    have f1 : u.fdiv (lowC u d) = q1 := by
      conv => lhs; lhs; rw [e1]
      exact Int.mul_fdiv_cancel_left _ hc
    have f2 : d.fdiv (lowC u d) = q2 := by
      conv => lhs; lhs; rw [e2]
      exact Int.mul_fdiv_cancel_left _ hc
    show (u.fdiv (lowC u d)).natAbs < 2 ^ k ∧ (d.fdiv (lowC u d)).natAbs < 2 ^ k ∧ d.fdiv (lowC u d) ≠ 0
    rw [f1, f2]
    refine ⟨Nat.lt_of_le_of_lt ?_ h1, Nat.lt_of_le_of_lt ?_ h2, fun z => hd ?_⟩
    · have := natAbs_fac (q := q1) hc
      rw [← e1] at this
      exact this
    · have := natAbs_fac (q := q2) hc
      rw [← e2] at this
      exact this
    · rw [e2, z, Int.mul_zero]
end Fm

namespace Fm
open PySem PySem.Spec PyProof.Rows L2
theorem w_js {t : TE} {ts : List TE} {acc : Str} {σ : L2.St} {H : Hp} {R : Str → Hp → Prop} (h : t σ H fun x H1 => ∃ y : Str, x = .str y ∧ (acc ++ y).length ≤ sizeLine ∧ tJs ts (acc ++ y) σ H1 R) : tJs (t :: ts) acc σ H R := h
theorem w_js0 {acc : Str} {σ : L2.St} {H : Hp} {R : Str → Hp → Prop} (h : R acc H) : tJs [] acc σ H R := h
theorem w_fmt {te : TE} {σ : L2.St} {H : Hp} {Q : VK} (h : te σ H fun x H1 => (∃ y : Str, x = .str y ∧ y.length ≤ sizeLine ∧ Q (.str y) H1) ∨ ∃ i : Int, x = .int i ∧ i.natAbs.log2 < 1920 ∧ Q (.str (toString i)) H1) : tFmt te σ H Q := h
theorem w_rep {H : Hp} {Q : VK} {l : Addr} {k : Int} {xs : List V} (h : H l = some (.lst xs)) (h0 : 0 ≤ k) (h1 : k ≤ 100) (hx : xs.length ≤ 100) (q : NewO (.lst (List.replicate k.toNat xs).flatten) H Q) : rRep (.ref l) (.int k) H Q := by
  refine ⟨l, k, xs, rfl, rfl, h, by omega, by omega, ?_, q⟩
  have e : xs.length * k.toNat ≤ 100 * 100 := Nat.mul_le_mul hx (by omega)
  exact Nat.le_trans e (by decide)
theorem w_bm {K : PySem.W.Frag} {T : String} {r : V → List V → Hp → VK → Prop} {to : TE} {t : TA} {σ : L2.St} {H : Hp} {Q : VK} (h : to σ H fun x H1 => tyV K T x H1 ∧ t σ H1 fun xs H2 => r x xs H2 Q) : tBM K T r to t σ H Q := h
theorem w_append {H : Hp} {Q : VK} {l : Addr} {xs : List V} {y : V} (h : H l = some (.lst xs)) (hz : xs.length ≤ 1000) (q : Q .non (upd H l (.lst (xs ++ [y])))) : rAppend (.ref l) [y] H Q := ⟨l, xs, y, rfl, rfl, h, small1000 hz, q⟩
theorem w_cat {H : Hp} {Q : VK} {l b : Addr} {xs zs : List V} (h : H l = some (.lst xs)) (h2 : H b = some (.lst zs)) (hz : xs.length + zs.length ≤ 1000) (q : NewO (.lst (xs ++ zs)) H Q) : rCat (.ref l) (.ref b) H Q := ⟨l, b, xs, zs, rfl, rfl, h, h2, Nat.le_of_lt (small1000 hz), q⟩
theorem w_revL {K : PySem.W.Frag} {te : TE} {σ : L2.St} {H : Hp} {Q : VK} (h : te σ H fun x H1 => ∃ a xs, x = .ref a ∧ SqL K H1 a xs ∧ NewO (.lst xs.reverse) H1 Q) : tRevL K te σ H Q := h
theorem Same.mv {b : Addr} {H0 H H' : Hp} (s : Same H0 H) (hb : H0 b = none) (m : Mv b H H') : Same H0 H' := fun p o h => m p o (ne_of_none h hb) (s p o h)
theorem Same.upd {b : Addr} {H0 H : Hp} {o : HO} (s : Same H0 H) (hb : H0 b = none) : Same H0 (upd H b o) := fun p u h => by
  rw [upd_ne (ne_of_none h hb)]
  exact s p u h
/-! ### data of any depth -/
def Dat (K : PySem.W.Frag) (H : Hp) (v : V) (n : Nat) : Prop := ∃ d, Dp K H v d ∧ d.canLay0 = true ∧ d.depth ≤ n
theorem dat_all {K : PySem.W.Frag} {H : Hp} {n : Nat} : ∀ {xs : List V}, (∀ x ∈ xs, Dat K H x n) → ∃ ds, DpAll K H xs ds ∧ PyData.canLayAll0 ds = true ∧ PyData.depthAll ds ≤ n ∧ ds.length = xs.length
  | [], _ => ⟨[], .nil, by simp [PyData.canLayAll0], by simp [PyData.depthAll], rfl⟩
  | x :: xs, h => by
    obtain ⟨d, h1, h2, h3⟩ := h x (List.mem_cons_self ..)
    obtain ⟨ds, g1, g2, g3, g4⟩ := dat_all (xs := xs) fun y hy => h y (List.mem_cons_of_mem _ hy)
    refine ⟨d :: ds, .cons h1 g1, ?_, ?_, by rw [List.length_cons, List.length_cons, g4]⟩
    · rw [PyData.canLayAll0, h2, g2]; rfl
    · rw [PyData.depthAll]; omega
theorem dat_int {K : PySem.W.Frag} {H : Hp} {i : Int} : Dat K H (.int i) 0 := ⟨.int i, .int i, by simp [PyData.canLay0], by simp [PyData.depth]⟩
theorem dat_tup {K : PySem.W.Frag} {H : Hp} {p : Addr} {xs : List V} {n : Nat} (h : H p = some (.tup xs)) (hx : ∀ x ∈ xs, Dat K H x n) : Dat K H (.ref p) (n + 1) := by
  obtain ⟨ds, g1, g2, g3, g4⟩ := dat_all hx
  exact ⟨.tuple ds, .tup (SqT.of h) g1, by rw [PyData.canLay0]; exact g2, by rw [PyData.depth]; omega⟩
theorem NumB.dat {K : PySem.W.Frag} {H : Hp} {v : V} {k : Nat} (h : NumB H v k) : Dat K H v 1 := by
  obtain ⟨p, x, y, rfl, hp, _⟩ := h
  refine dat_tup hp fun z hz => ?_
  rcases List.mem_cons.mp hz with rfl | hz
  · exact dat_int
  · rw [List.mem_singleton.mp hz]; exact dat_int
theorem RowB.dat {K : PySem.W.Frag} {H : Hp} {v : V} {n k : Nat} (h : RowB H v n k) : Dat K H v 2 := by
  obtain ⟨p, xs, rfl, hp, _, hx⟩ := h
  exact dat_tup hp fun z hz => (hx z hz).dat
theorem shaped_of {d : PyData} (h : d.canLay0 = true) (h2 : d.depth ≤ 64) : SeqAt.shaped d = true := by
  show (d.canLay0 && decide (d.depth ≤ 64)) = true
  rw [h, decide_eq_true h2]
  rfl
/-! ### texts -/
def TxtOk (z : Str) (n : Nat) : Prop := z.length ≤ n ∧ PyData.strOk z = true
theorem TxtOk.mono {a : Str} {n m : Nat} (h : TxtOk a n) (hl : n ≤ m) : TxtOk a m := ⟨Nat.le_trans h.1 hl, h.2⟩
/-- a number's text -/
def numT (a : Int × Int) : Str := if a.2 = 1 then Str.ofString (toString a.1) else Str.ofString (toString a.1) ++ ("/" : Str) ++ Str.ofString (toString a.2)
def Sm (a : Int × Int) : Prop := a.1.natAbs.log2 < 1920 ∧ a.2.natAbs.log2 < 1920
def rowT (r : List (Int × Int)) : Str := Txt.join (" " : Str) (r.map numT)
def tabT (t : List (List (Int × Int))) : Str := Txt.join (" / " : Str) (t.map rowT)
/-! ### numbers, rows, tables by their values -/
def NumV (H : Hp) (v : V) (a : Int × Int) : Prop := ∃ p, v = .ref p ∧ H p = some (.tup [.int a.1, .int a.2])
def SqV {α : Type} (P : Hp → V → α → Prop) (H : Hp) (v : V) (as : List α) : Prop := ∃ p xs, v = .ref p ∧ H p = some (.tup xs) ∧ xs.length = as.length ∧ ∀ (i : Nat) (x : V) (a : α), xs[i]? = some x → as[i]? = some a → P H x a
abbrev RowV := SqV NumV
abbrev TabV := SqV RowV
theorem NumV.kt {H H' : Hp} {v : V} {a : Int × Int} (h : NumV H v a) (s : Kt H H') : NumV H' v a := by
  obtain ⟨p, e, hp⟩ := h
  exact ⟨p, e, s _ _ hp⟩
theorem RowV.kt {H H' : Hp} {v : V} {a : List (Int × Int)} (h : RowV H v a) (s : Kt H H') : RowV H' v a := by
  obtain ⟨p, xs, e, hp, hl, hx⟩ := h
  exact ⟨p, xs, e, s _ _ hp, hl, fun i x b h1 h2 => (hx i x b h1 h2).kt s⟩
theorem TabV.kt {H H' : Hp} {v : V} {a : List (List (Int × Int))} (h : TabV H v a) (s : Kt H H') : TabV H' v a := by
  obtain ⟨p, xs, e, hp, hl, hx⟩ := h
  exact ⟨p, xs, e, s _ _ hp, hl, fun i x b h1 h2 => RowV.kt (hx i x b h1 h2) s⟩
theorem sm_of {x : Int} {k : Nat} (h : x.natAbs < 2 ^ k) (hk : 0 < k) (hk2 : k ≤ 1000) : x.natAbs.log2 < 1920 := Nat.lt_of_lt_of_le (PySem.Flt.log2_lt_of hk h) (by omega)
theorem NumB.val {H : Hp} {v : V} {k : Nat} (h : NumB H v k) (hk : 0 < k) (hk2 : k ≤ 1000) : ∃ a, NumV H v a ∧ Sm a := by
  obtain ⟨p, x, y, e, hp, h1, h2, _⟩ := h
  exact ⟨(x, y), ⟨p, e, hp⟩, sm_of h1 hk hk2, sm_of h2 hk hk2⟩
theorem sq_val {α : Type} {P : Hp → V → α → Prop} {S : α → Prop} {H : Hp} : ∀ {xs : List V}, (∀ x ∈ xs, ∃ a, P H x a ∧ S a) → ∃ as : List α, xs.length = as.length ∧ (∀ a ∈ as, S a) ∧ ∀ (i : Nat) (x : V) (a : α), xs[i]? = some x → as[i]? = some a → P H x a
  | [], _ => ⟨[], rfl, (fun a ha => by cases ha), fun i x a h _ => by simp at h⟩
  | x :: xs, h => by
    obtain ⟨a, h1, h2⟩ := h x (List.mem_cons_self ..)
    obtain ⟨as, g1, g2, g3⟩ := sq_val (xs := xs) fun y hy => h y (List.mem_cons_of_mem _ hy)
    refine ⟨a :: as, by rw [List.length_cons, List.length_cons, g1], fun b hb => ?_, fun i y b e1 e2 => ?_⟩
    · rcases List.mem_cons.mp hb with rfl | hb
      · exact h2
      · exact g2 b hb
    · cases i with
      | zero =>
        cases Option.some.inj e1
        cases Option.some.inj e2
        exact h1
      | succ i => exact g3 i y b e1 e2
theorem RowB.val {H : Hp} {v : V} {n k : Nat} (h : RowB H v n k) (hk : 0 < k) (hk2 : k ≤ 1000) : ∃ r, RowV H v r ∧ r.length = n ∧ ∀ a ∈ r, Sm a := by
  obtain ⟨p, xs, e, hp, hl, hx⟩ := h
  obtain ⟨as, g1, g2, g3⟩ := sq_val (P := NumV) (S := Sm) (H := H) (xs := xs) fun x hx' => (hx x hx').val hk hk2
  exact ⟨as, ⟨p, xs, e, hp, g1, g3⟩, by omega, g2⟩
theorem TabB.val {H : Hp} {v : V} {m n k : Nat} (h : TabB H v m n k) (hk : 0 < k) (hk2 : k ≤ 1000) : ∃ t, TabV H v t ∧ t.length = m ∧ ∀ r ∈ t, (∀ a ∈ r, Sm a) ∧ r.length = n := by
  obtain ⟨p, xs, e, hp, hl, hx⟩ := h
  obtain ⟨as, g1, g2, g3⟩ := sq_val (P := RowV) (S := fun r => (∀ a ∈ r, Sm a) ∧ r.length = n) (H := H) (xs := xs) fun x hx' => by
    obtain ⟨r, h1, h2, h3⟩ := (hx x hx').val hk hk2
    exact ⟨r, h1, h3, h2⟩
  exact ⟨as, ⟨p, xs, e, hp, g1, g3⟩, by omega, g2⟩
/-! ### rows grown -/
def kk (i : Nat) : Nat := 2 ^ (i + 3) - 1
theorem RowB.zeros {H : Hp} {u : Addr} {l : Addr} {n : Nat} (hu : H u = some (.tup [.int 0, .int 1])) (hl : H l = some (.tup (List.replicate n [V.ref u]).flatten)) : RowB H (.ref l) n 7 := by
  rw [List.flatten_replicate_singleton] at hl
  refine ⟨l, _, rfl, hl, List.length_replicate, fun x hx => ?_⟩
  rw [(List.mem_replicate.mp hx).2]
  exact ⟨u, 0, 1, rfl, hu, by decide, by decide, by decide⟩
/-! ### what is looked at together -/
def Tri (H : Hp) (v : V) : Prop := ∃ (p : Addr) (x r t : V), v = .ref p ∧ H p = some (.tup [x, r, t]) ∧ (∃ a, NumV H x a ∧ Sm a) ∧ (∃ rs, RowV H r rs ∧ (∀ a ∈ rs, Sm a) ∧ rs.length ≤ 10) ∧ ∃ ts, TabV H t ts ∧ (∀ r ∈ ts, (∀ a ∈ r, Sm a) ∧ r.length ≤ 10) ∧ ts.length ≤ 10
theorem Tri.kt {H H' : Hp} {v : V} (h : Tri H v) (s : Kt H H') : Tri H' v := by
  obtain ⟨p, x, r, t, e, hp, ⟨a, h1, h2⟩, ⟨rs, h3, h4⟩, ts, h5, h6⟩ := h
  exact ⟨p, x, r, t, e, s _ _ hp, ⟨a, h1.kt s, h2⟩, ⟨rs, RowV.kt h3 s, h4⟩, ts, TabV.kt h5 s, h6⟩
theorem TabB.mono {H : Hp} {v : V} {m n k l : Nat} (h : TabB H v m n k) (hl : k ≤ l) : TabB H v m n l := by
  obtain ⟨p, xs, e, hp, hn, r⟩ := h
  exact ⟨p, xs, e, hp, hn, fun x hx => (r x hx).mono hl⟩
theorem sqv1 {α : Type} {P : Hp → V → α → Prop} {H : Hp} {p : Addr} {x : V} {a : α} (hp : H p = some (.tup [x])) (h1 : P H x a) : SqV P H (.ref p) [a] := ⟨p, [x], rfl, hp, rfl, fun i y b e1 e2 => by
  cases i with
  | zero => cases Option.some.inj e1; cases Option.some.inj e2; exact h1
  | succ i => simp at e1⟩
theorem all_true (n : Nat) : (List.replicate n true).all id = true := by
  rw [List.all_eq_true]
  intro x hx
  rw [(List.mem_replicate.mp hx).2]
  rfl
theorem fresh_of {H : Hp} {p q : Addr} {o : HO} (h : H p = some o) (hq : H q = none) : p ≠ q := fun e => by
  subst e
  rw [h] at hq
  cases hq
end Fm

namespace Fm
open PySem PySem.Spec PyProof.Rows L2
theorem w_chain {r r' : R2} {ta tb tc : TE} {σ : L2.St} {H : Hp} {Q : VK} (h : ta σ H fun x H1 => tb σ H1 fun y H2 => r x y H2 fun z H3 => ∃ k, z = .bl k ∧ (if k = true then tc σ H3 fun w' H4 => r' y w' H4 Q else Q (.bl false) H3)) : tChain r r' ta tb tc σ H Q := h
theorem w_rng2 {ta : TA} {σ : L2.St} {H : Hp} {R : It → Hp → Prop} (h : ta σ H fun vs H1 => ∃ i j : Int, vs = [.int i, .int j] ∧ (-(2 ^ 62) ≤ i ∧ i < 2 ^ 62 ∧ -(2 ^ 62) ≤ j ∧ j < 2 ^ 62) ∧ R (Itr i (j - i).toNat) H1) : iRng2 ta σ H R := h
theorem w_iteB {b : Bool} {A B : Prop} (h1 : b = true → A) (h2 : b = false → B) : if b = true then A else B := by
  cases b with
  | true => exact h1 rfl
  | false => exact h2 rfl
theorem w_iteBN {b : Bool} {A B : Prop} (h1 : b = false → A) (h2 : b = true → B) : if (!b) = true then A else B := by
  cases b with
  | true => exact h2 rfl
  | false => exact h1 rfl
/-! ### any things -/
def Kl (H H' : Hp) : Prop := ∀ p xs, H p = some (.lst xs) → ∃ ys, H' p = some (.lst ys)
def Kd (H H' : Hp) : Prop := Kt H H' ∧ Kl H H'
theorem Kd.refl (H : Hp) : Kd H H := ⟨Kt.refl H, fun _ xs h => ⟨xs, h⟩⟩
theorem Kd.trans {H H1 H2 : Hp} (a : Kd H H1) (b : Kd H1 H2) : Kd H H2 := ⟨a.1.trans b.1, fun p xs h => by
  obtain ⟨ys, h1⟩ := a.2 p xs h
  exact b.2 p ys h1⟩
theorem Kd.of {H H' : Hp} (s : Same H H') : Kd H H' := ⟨Kt.of s, fun p xs h => ⟨xs, s _ _ h⟩⟩
theorem Kd.mv {b : Addr} {H H' : Hp} (m : Mv b H H') (hb : Bag H b) (hb' : Bag H' b) : Kd H H' := ⟨m.kt hb, fun p xs h => by
  by_cases e : p = b
  · subst e
    obtain ⟨A, B, h2, _⟩ := hb'
    exact ⟨_, h2⟩
  · exact ⟨xs, m _ _ e h⟩⟩
theorem Kd.updL {H : Hp} {D : Addr} {xs ys : List V} (h : H D = some (.lst xs)) : Kd H (upd H D (.lst ys)) := ⟨Kt.updL h, fun p zs hp => by
  by_cases e : p = D
  · subst e
    exact ⟨ys, upd_same⟩
  · exact ⟨zs, by rw [upd_ne e]; exact hp⟩⟩
def atomB : V → Bool
  | .non => true
  | .bl _ => true
  | .int _ => true
  | .str _ => true
  | _ => false
/-- any thing: of no parts, a list, a tuple of things of no parts -/
def Th (H : Hp) (v : V) : Prop := atomB v = true ∨ (∃ p xs, v = .ref p ∧ H p = some (.lst xs)) ∨ ∃ p xs, v = .ref p ∧ H p = some (.tup xs) ∧ ∀ x ∈ xs, atomB x = true
theorem Th.kd {H H' : Hp} {v : V} (h : Th H v) (k : Kd H H') : Th H' v := by
  rcases h with h | ⟨p, xs, e, h⟩ | ⟨p, xs, e, h, hx⟩
  · exact .inl h
  · obtain ⟨ys, h2⟩ := k.2 p xs h
    exact .inr (.inl ⟨p, ys, e, h2⟩)
  · exact .inr (.inr ⟨p, xs, e, k.1 _ _ h, hx⟩)
theorem Th.sm {H H' : Hp} {v : V} (h : Th H v) (s : Same H H') : Th H' v := h.kd (Kd.of s)
theorem Th.tup {H : Hp} {p : Addr} {xs : List V} (h : H p = some (.tup xs)) (hx : xs.all atomB = true) : Th H (.ref p) := .inr (.inr ⟨p, xs, rfl, h, fun x m => List.all_eq_true.mp hx x m⟩)
theorem Th.lst {H : Hp} {p : Addr} {xs : List V} (h : H p = some (.lst xs)) : Th H (.ref p) := .inr (.inl ⟨p, xs, rfl, h⟩)
theorem NumB.th {H : Hp} {v : V} {k : Nat} (h : NumB H v k) : Th H v := by
  obtain ⟨p, x, y, rfl, hp, _⟩ := h
  exact Th.tup hp rfl
/-! ### what is told of them -/
def intB : V → Bool
  | .int _ => true
  | .bl _ => true
  | _ => false
def blB : V → Bool
  | .bl _ => true
  | _ => false
def wholeB : V → Bool
  | .int _ => true
  | _ => false
def grdB : V → Bool
  | .int i => decide (i ∈ [0, 3, 5, 7, 11, 13])
  | _ => false
def numOk (g : Int) : List V → Bool
  | [.int t, .int b] => if g = 0 then decide (1 ≤ b) && decide (Int.gcd t b = 1) else (decide (0 ≤ t) && decide (t < g)) && decide (b = 1)
  | _ => false
def numAt (g : Int) : Option HO → Bool
  | some (.tup xs) => numOk g xs
  | _ => false
def numOf (H : Hp) (g : Int) : V → Bool
  | .ref p => numAt g (H p)
  | _ => false
theorem numOf_tup {H : Hp} {g : Int} {p : Addr} {xs : List V} (h : H p = some (.tup xs)) : numOf H g (.ref p) = numOk g xs := by
  show numAt g (H p) = _
  rw [h]
  rfl
theorem numOf_lst {H : Hp} {g : Int} {p : Addr} {xs : List V} (h : H p = some (.lst xs)) : numOf H g (.ref p) = false := by
  show numAt g (H p) = _
  rw [h]
  rfl
theorem whole_eq (v : V) : wholeB v = (intB v && !blB v) := by
  cases v <;> rfl
theorem whole_int {v : V} (h : wholeB v = true) : ∃ i, v = .int i := by
  cases v with
  | int i => exact ⟨i, rfl⟩
  | _ => cases h
theorem beq_comm_int (a b : Int) : (a == b) = decide (b = a) := by
  by_cases h : a = b
  · subst h; simp
  · rw [beq_eq_false_iff_ne.mpr h, decide_eq_false (fun e => h e.symm)]
theorem in_grd (i : Int) : inV (.int i) [.int 0, .int 3, .int 5, .int 7, .int 11, .int 13] = grdB (.int i) := by
  show (((0 : Int) == i) || (((3 : Int) == i) || (((5 : Int) == i) || (((7 : Int) == i) || (((11 : Int) == i) || (((13 : Int) == i) || false)))))) = decide (i ∈ [0, 3, 5, 7, 11, 13])
  rw [beq_comm_int, beq_comm_int, beq_comm_int, beq_comm_int, beq_comm_int, beq_comm_int, Bool.eq_iff_iff]
  simp
theorem numOk_len {g : Int} {xs : List V} (h : xs.length ≠ 2) : numOk g xs = false := by
  match xs, h with
  | [], _ => rfl
  | [x], _ => cases x <;> rfl
  | [x, y], h => exact absurd rfl h
  | x :: y :: z :: r, _ => cases x <;> cases y <;> rfl
theorem numOk_l {g : Int} {x y : V} (h : wholeB x = false) : numOk g [x, y] = false := by
  cases x with
  | int i => cases h
  | _ => cases y <;> rfl
theorem numOk_r {g : Int} {x y : V} (h : wholeB y = false) : numOk g [x, y] = false := by
  cases y with
  | int i => cases h
  | _ => cases x <;> rfl
theorem numOk_0 {t b : Int} : numOk 0 [.int t, .int b] = (decide (1 ≤ b) && decide ((Int.gcd t b : Int) = 1)) := by
  have e : numOk 0 [.int t, .int b] = (decide (1 ≤ b) && decide (Int.gcd t b = 1)) := by simp [numOk]
  rw [e]
  congr 1
  rw [decide_eq_decide]
  omega
theorem numOk_g {g t b : Int} (h : g ≠ 0) : numOk g [.int t, .int b] = ((decide (0 ≤ t) && decide (t < g)) && decide (b = 1)) := by
  simp [numOk, h]
/-! ### isinstance -/
def tyAt : Option HO → String
  | some (.tup _) => "tuple"
  | _ => "list"
def tyN (H : Hp) : V → String
  | .non => "NoneType"
  | .bl _ => "bool"
  | .int _ => "int"
  | .str _ => "str"
  | .ref p => tyAt (H p)
  | _ => ""
theorem Th.ty {K : PySem.W.Frag} {H : Hp} {v : V} (h : Th H v) : TyX K H v (.type (tyN H v)) := by
  rcases h with h | ⟨p, xs, rfl, h⟩ | ⟨p, xs, rfl, h, _⟩
  · cases v with
    | non => exact .base .non
    | bl b => exact .base (.bl b)
    | int i => exact .base (.int i)
    | str z => exact .base (.str z)
    | _ => cases h
  · have e : tyN H (.ref p) = "list" := by show tyAt (H p) = _; rw [h]; rfl
    rw [e]
    exact .base (.lst h)
  · have e : tyN H (.ref p) = "tuple" := by show tyAt (H p) = _; rw [h]; rfl
    rw [e]
    exact .base (.tup h)
theorem isi_is {K : PySem.W.Frag} {H : Hp} {Q : VK} {v : V} {a T : String} {b : Bool} (h : TyX K H v (.type a)) (e : kitB a T = some b) (q : Q (.bl b) H) : rIsi K [v, .ty T] H Q := ⟨v, .ty T, .type a, .type T, b, rfl, .ty T, h, kit_ty e, q⟩
/-! ### common divisors -/
theorem gcd_fmod (x y : Int) : Int.gcd y (x.fmod y) = Int.gcd x y := by
  have e : x.fmod y = x - y * x.fdiv y := Int.fmod_def x y
  rw [e]
  refine Nat.dvd_antisymm ?_ ?_
  · have h1 := Int.gcd_dvd_left y (x - y * x.fdiv y)
    have h2 := Int.gcd_dvd_right y (x - y * x.fdiv y)
    refine Int.dvd_gcd ?_ h1
    have h3 := Int.dvd_add h2 (Int.dvd_mul_of_dvd_left (c := x.fdiv y) h1)
    rw [Int.sub_add_cancel] at h3
    exact h3
  · have h1 := Int.gcd_dvd_left x y
    have h2 := Int.gcd_dvd_right x y
    refine Int.dvd_gcd h2 ?_
    exact Int.dvd_sub h1 (Int.dvd_mul_of_dvd_left h2)
theorem fmod_small (x : Int) {y : Int} (h : y ≠ 0) : (x.fmod y).natAbs < y.natAbs := by
  rcases Int.lt_or_gt_of_ne h with h | h
  · have e : x.fmod y = -((-x).fmod (-y)) := by
      have := Int.neg_fmod_neg x y
      omega
    have h1 := Int.fmod_nonneg_of_pos (-x) (show 0 < -y by omega)
    have h2 := Int.fmod_lt_of_pos (-x) (show 0 < -y by omega)
    omega
  · have h1 := Int.fmod_nonneg_of_pos x h
    have h2 := Int.fmod_lt_of_pos x h
    omega
theorem atI_some {xs : List V} {d : Int} (h0 : 0 ≤ d) (h1 : d < (xs.length : Int)) : ∃ v, atI xs d = some v ∧ v ∈ xs := by
  obtain ⟨v, hv⟩ : ∃ v, xs[d.toNat]? = some v := ⟨_, List.getElem?_eq_getElem (by omega)⟩
  have e := atI_nat hv
  rw [show ((d.toNat : Nat) : Int) = d by omega] at e
  exact ⟨v, e, List.mem_of_getElem? hv⟩
def grds (i : Nat) : List Int := ((List.range i).map fun (j : Nat) => ((-20 : Int) + (j : Int))).filter fun z => grdB (.int z)
end Fm

namespace Fm
open PySem PySem.Spec PyProof.Rows L2
/-! ### fractions in lowest terms -/
def Red (p : Int × Int) : Prop := 0 < p.2 ∧ Int.gcd p.1 p.2 = 1
theorem dvd_cop {c a d : Int} (h : Int.gcd a c = 1) (hd : c ∣ a * d) : c ∣ d := by
  have h1 : c.natAbs ∣ a.natAbs * d.natAbs := by
    rw [← Int.natAbs_mul]
    exact Int.natAbs_dvd_natAbs.mpr hd
  have h2 : Nat.Coprime c.natAbs a.natAbs := by
    rw [Nat.Coprime, Nat.gcd_comm]
    exact h
  exact Int.natAbs_dvd_natAbs.mp (h2.dvd_of_dvd_mul_left h1)
theorem red_uniq {p q : Int × Int} (hp : Red p) (hq : Red q) (h : p.1 * q.2 = q.1 * p.2) : p = q := by
  obtain ⟨a, c⟩ := p
  obtain ⟨b, d⟩ := q
  obtain ⟨hc, h1⟩ := hp
  obtain ⟨hd, h2⟩ := hq
  simp only at hc h1 hd h2 h
  have d1 : c ∣ d := by
    have : c ∣ a * d := ⟨b, by rw [h, Int.mul_comm]⟩
    exact dvd_cop h1 this
  have d2 : d ∣ c := by
    have : d ∣ b * c := ⟨a, by rw [← h, Int.mul_comm]⟩
    exact dvd_cop h2 this
  have e : c = d := Int.le_antisymm (Int.le_of_dvd hd d1) (Int.le_of_dvd hc d2)
  subst e
  have e2 : a = b := Int.eq_of_mul_eq_mul_right (by omega) h
  rw [e2]
theorem low0_eq {u d : Int} (hd : d ≠ 0) : ∃ q1 q2, lowF 0 u d = (q1, q2) ∧ u = lowC u d * q1 ∧ d = lowC u d * q2 := by
  have hI : lowI 0 u d = none := by
    unfold lowI
    rw [if_neg (by decide)]
  have hc := lowC_ne (u := u) hd
  obtain ⟨⟨q1, e1⟩, q2, e2⟩ := lowC_dvd (u := u) (d := d)
  refine ⟨q1, q2, ?_, e1, e2⟩
  have f1 : u.fdiv (lowC u d) = q1 := by
    conv => lhs; lhs; rw [e1]
    exact Int.mul_fdiv_cancel_left _ hc
  have f2 : d.fdiv (lowC u d) = q2 := by
    conv => lhs; lhs; rw [e2]
    exact Int.mul_fdiv_cancel_left _ hc
  unfold lowF
  rw [hI]
  show (u.fdiv (lowC u d), d.fdiv (lowC u d)) = _
  rw [f1, f2]
theorem lowC_abs {u d : Int} : (lowC u d).natAbs = Int.gcd u d := by
  unfold lowC
  split
  · rw [Int.mul_neg, Int.mul_one, Int.natAbs_neg, Int.natAbs_natCast]
  · rw [Int.mul_one, Int.natAbs_natCast]
theorem low0_red {u d : Int} (hd : d ≠ 0) : Red (lowF 0 u d) ∧ (lowF 0 u d).1 * d = u * (lowF 0 u d).2 := by
  obtain ⟨q1, q2, e, e1, e2⟩ := low0_eq (u := u) hd
  have hc := lowC_ne (u := u) hd
  have ha := lowC_abs (u := u) (d := d)
  rw [e]
  refine ⟨⟨?_, ?_⟩, ?_⟩
  · show 0 < q2
    have hg : 0 < Int.gcd u d := by omega
    unfold lowC at e2
    by_cases h : d < 0
    · rw [if_pos h, Int.mul_neg, Int.mul_one] at e2
      rcases Int.lt_trichotomy q2 0 with z | z | z
      · have := Int.mul_nonneg_of_nonpos_of_nonpos (a := -(Int.gcd u d : Int)) (b := q2) (by omega) (by omega)
        omega
      · rw [z, Int.mul_zero] at e2; omega
      · exact z
    · rw [if_neg h, Int.mul_one] at e2
      rcases Int.lt_trichotomy q2 0 with z | z | z
      · have := Int.mul_nonpos_of_nonneg_of_nonpos (a := (Int.gcd u d : Int)) (b := q2) (by omega) (by omega)
        omega
      · rw [z, Int.mul_zero] at e2; omega
      · exact z
  · show Int.gcd q1 q2 = 1
    have h1 : Int.gcd (lowC u d * q1) (lowC u d * q2) = (lowC u d).natAbs * Int.gcd q1 q2 := Int.gcd_mul_left ..
    rw [← e1, ← e2, ha] at h1
    have hg : 0 < Int.gcd u d := by omega
    have h2 : Int.gcd u d * 1 = Int.gcd u d * Int.gcd q1 q2 := by rw [Nat.mul_one]; exact h1
    exact (Nat.eq_of_mul_eq_mul_left hg h2).symm
  · show q1 * d = u * q2
    conv => lhs; rw [e2]
    conv => rhs; rw [e1]
    rw [← Int.mul_assoc, Int.mul_comm q1]
theorem low0_uniq {p : Int × Int} {u d : Int} (hp : Red p) (hd : d ≠ 0) (h : p.1 * d = u * p.2) : lowF 0 u d = p := by
  obtain ⟨hr, he⟩ := low0_red (u := u) hd
  refine red_uniq hr hp ?_
  have : ((lowF 0 u d).1 * p.2) * d = (p.1 * (lowF 0 u d).2) * d := by
    calc ((lowF 0 u d).1 * p.2) * d = ((lowF 0 u d).1 * d) * p.2 := by rw [Int.mul_right_comm]
      _ = (u * (lowF 0 u d).2) * p.2 := by rw [he]
      _ = (u * p.2) * (lowF 0 u d).2 := by rw [Int.mul_right_comm]
      _ = (p.1 * d) * (lowF 0 u d).2 := by rw [h]
      _ = (p.1 * (lowF 0 u d).2) * d := by rw [Int.mul_right_comm]
  exact Int.eq_of_mul_eq_mul_right hd this
/-! ### wheels, over 1 -/
theorem low_one {g u : Int} (hg : 0 < g) : lowF g u 1 = (u.fmod g, 1) := by
  have h0 : 0 ≤ u.fmod g := Int.fmod_nonneg_of_pos u hg
  have h1 : u.fmod g < g := Int.fmod_lt_of_pos u hg
  have e : lowI g u 1 = some (u.fmod g).toNat := by
    unfold lowI
    rw [if_pos hg]
    refine List.find?_range_eq_some.mpr ⟨decide_eq_true ?_, List.mem_range.mpr (by omega), fun j hj => ?_⟩
    · rw [Int.mul_one, show (((u.fmod g).toNat : Nat) : Int) = u.fmod g by omega]
      rw [fmod_pos _ hg, fmod_pos _ hg]
      exact Int.emod_emod_of_dvd _ (Int.dvd_refl g)
    · have : ¬ ((j : Int) * 1).fmod g = u.fmod g := by
        rw [Int.mul_one, fmod_pos _ hg, Int.emod_eq_of_lt (by omega) (by omega)]
        omega
      rw [decide_eq_false this]
      rfl
  unfold lowF
  rw [e]
  show (((u.fmod g).toNat : Int), (1 : Int)) = _
  rw [show (((u.fmod g).toNat : Nat) : Int) = u.fmod g by omega]
/-! ### sums of products -/
def timesF (g : Int) (x y : Int × Int) : Int × Int := lowF g (x.1 * y.1) (x.2 * y.2)
def plusF (g : Int) (x y : Int × Int) : Int × Int := lowF g (x.1 * y.2 + y.1 * x.2) (x.2 * y.2)
theorem times_rel {x z : Int × Int} {t s B U : Int} (hx : x.2 ≠ 0) (hz : z.2 ≠ 0) (ht : t * x.2 = x.1 * B) (hs : s * z.2 = z.1 * U) : (timesF 0 x z).1 * (B * U) = t * s * (timesF 0 x z).2 := by
  have hn : x.2 * z.2 ≠ 0 := Int.mul_ne_zero hx hz
  have h := (low0_red (u := x.1 * z.1) hn).2
  have e : (timesF 0 x z).1 * (x.2 * z.2) = x.1 * z.1 * (timesF 0 x z).2 := h
  generalize timesF 0 x z = y at e
  have : (y.1 * (B * U)) * (x.2 * z.2) = (t * s * y.2) * (x.2 * z.2) := by
    calc (y.1 * (B * U)) * (x.2 * z.2) = (y.1 * (x.2 * z.2)) * (B * U) := by rw [Int.mul_right_comm]
      _ = (x.1 * z.1 * y.2) * (B * U) := by rw [e]
      _ = (x.1 * B) * (z.1 * U) * y.2 := by
        ac_rfl
      _ = (t * x.2) * (s * z.2) * y.2 := by rw [ht, hs]
      _ = (t * s * y.2) * (x.2 * z.2) := by
        ac_rfl
  exact Int.eq_of_mul_eq_mul_right hn this
theorem plus_rel {p y : Int × Int} {S T M : Int} (hp : p.2 ≠ 0) (hy : y.2 ≠ 0) (h1 : p.1 * M = S * p.2) (h2 : y.1 * M = T * y.2) : (plusF 0 p y).1 * M = (S + T) * (plusF 0 p y).2 := by
  have hn : p.2 * y.2 ≠ 0 := Int.mul_ne_zero hp hy
  have e : (plusF 0 p y).1 * (p.2 * y.2) = (p.1 * y.2 + y.1 * p.2) * (plusF 0 p y).2 := (low0_red (u := p.1 * y.2 + y.1 * p.2) hn).2
  generalize plusF 0 p y = z at e
  have : (z.1 * M) * (p.2 * y.2) = ((S + T) * z.2) * (p.2 * y.2) := by
    calc (z.1 * M) * (p.2 * y.2) = (z.1 * (p.2 * y.2)) * M := by rw [Int.mul_right_comm]
      _ = ((p.1 * y.2 + y.1 * p.2) * z.2) * M := by rw [e]
      _ = ((p.1 * M) * y.2 + (y.1 * M) * p.2) * z.2 := by
        rw [Int.mul_right_comm, Int.add_mul, Int.mul_right_comm p.1, Int.mul_right_comm y.1]
      _ = ((S * p.2) * y.2 + (T * y.2) * p.2) * z.2 := by rw [h1, h2]
      _ = ((S + T) * z.2) * (p.2 * y.2) := by
        rw [Int.mul_assoc S, Int.mul_assoc T, Int.mul_comm y.2 p.2, ← Int.add_mul, Int.mul_right_comm]
  exact Int.eq_of_mul_eq_mul_right hn this
/-! ### rows as whole numbers over one bottom -/
def dotF (ts ss : List Int) : Int := (List.zipWith (fun a b => a * b) ts ss).sum
def wrB (r : List (Int × Int)) : Int := r.foldl (fun b x => b.fdiv (Int.gcd b x.2 : Int) * x.2) 1
def wrT (r : List (Int × Int)) : List Int := r.map fun x => x.1 * (wrB r).fdiv x.2
theorem lcm_step {b c : Int} (hb : 0 < b) (hc : 0 < c) : 0 < b.fdiv (Int.gcd b c : Int) * c ∧ b ∣ b.fdiv (Int.gcd b c : Int) * c ∧ c ∣ b.fdiv (Int.gcd b c : Int) * c ∧ ∀ L, b ∣ L → c ∣ L → b.fdiv (Int.gcd b c : Int) * c ∣ L := by
  have hg : 0 < Int.gcd b c := Nat.pos_of_ne_zero fun z => by
    have := (Int.gcd_eq_zero_iff.mp z).2
    omega
  have hg' : (0 : Int) < (Int.gcd b c : Int) := by omega
  obtain ⟨q1, e1⟩ := Int.gcd_dvd_left b c
  obtain ⟨q2, e2⟩ := Int.gcd_dvd_right b c
  have f1 : b.fdiv (Int.gcd b c : Int) = q1 := by
    conv => lhs; lhs; rw [e1]
    exact Int.mul_fdiv_cancel_left _ (by omega)
  rw [f1]
  have hq1 : 0 < q1 := Int.pos_of_mul_pos_right (by rw [← e1]; exact hb) hg'
  have hcop : Int.gcd q1 q2 = 1 := by
    have h1 : Int.gcd ((Int.gcd b c : Int) * q1) ((Int.gcd b c : Int) * q2) = ((Int.gcd b c : Int)).natAbs * Int.gcd q1 q2 := Int.gcd_mul_left ..
    rw [← e1, ← e2, Int.natAbs_natCast] at h1
    have h2 : Int.gcd b c * 1 = Int.gcd b c * Int.gcd q1 q2 := by rw [Nat.mul_one]; exact h1
    exact (Nat.eq_of_mul_eq_mul_left hg h2).symm
  refine ⟨Int.mul_pos hq1 hc, ⟨q2, ?_⟩, ⟨q1, Int.mul_comm _ _⟩, fun L h1 h2 => ?_⟩
  · conv => lhs; rw [e2]
    conv => rhs; rw [e1]
    ac_rfl
  · obtain ⟨k1, hk1⟩ := h1
    obtain ⟨k2, hk2⟩ := h2
    have h3 : q1 * k1 = q2 * k2 := by
      have : (Int.gcd b c : Int) * (q1 * k1) = (Int.gcd b c : Int) * (q2 * k2) := by
        rw [← Int.mul_assoc, ← Int.mul_assoc, ← e1, ← e2, ← hk1, ← hk2]
      exact Int.eq_of_mul_eq_mul_left (by omega) this
    have h4 : q1 ∣ k2 := dvd_cop (a := q2) (by rw [Int.gcd_comm]; exact hcop) ⟨k1, by rw [← h3]⟩
    obtain ⟨k3, hk3⟩ := h4
    exact ⟨k3, by rw [hk2, hk3]; ac_rfl⟩
theorem wr_fold : ∀ (r : List (Int × Int)) (b : Int), 0 < b → (∀ x ∈ r, 0 < x.2) → 0 < r.foldl (fun b x => b.fdiv (Int.gcd b x.2 : Int) * x.2) b ∧ b ∣ r.foldl (fun b x => b.fdiv (Int.gcd b x.2 : Int) * x.2) b ∧ (∀ x ∈ r, x.2 ∣ r.foldl (fun b x => b.fdiv (Int.gcd b x.2 : Int) * x.2) b) ∧ ∀ L, b ∣ L → (∀ x ∈ r, x.2 ∣ L) → r.foldl (fun b x => b.fdiv (Int.gcd b x.2 : Int) * x.2) b ∣ L
  | [], b, hb, _ => ⟨hb, Int.dvd_refl b, fun x hx => (by cases hx), fun L h _ => h⟩
  | x :: r, b, hb, h => by
    obtain ⟨s1, s2, s3, s4⟩ := lcm_step hb (h x (List.mem_cons_self ..))
    obtain ⟨t1, t2, t3, t4⟩ := wr_fold r _ s1 fun y hy => h y (List.mem_cons_of_mem _ hy)
    rw [List.foldl_cons]
    refine ⟨t1, Int.dvd_trans s2 t2, fun y hy => ?_, fun L h1 h2 => ?_⟩
    · rcases List.mem_cons.mp hy with rfl | hy
      · exact Int.dvd_trans s3 t2
      · exact t3 y hy
    · exact t4 L (s4 L h1 (h2 x (List.mem_cons_self ..))) fun y hy => h2 y (List.mem_cons_of_mem _ hy)
theorem wrB_spec {r : List (Int × Int)} (h : ∀ x ∈ r, 0 < x.2) : 0 < wrB r ∧ (∀ x ∈ r, x.2 ∣ wrB r) ∧ ∀ L, (∀ x ∈ r, x.2 ∣ L) → wrB r ∣ L := by
  obtain ⟨h1, _, h3, h4⟩ := wr_fold r 1 (by decide) h
  exact ⟨h1, h3, fun L h => h4 L (Int.one_dvd L) h⟩
def RelL (B : Int) : List (Int × Int) → List Int → Prop
  | [], [] => True
  | x :: xs, t :: ts => (0 < x.2 ∧ t * x.2 = x.1 * B) ∧ RelL B xs ts
  | _, _ => False
theorem rel_of {B : Int} : ∀ {r : List (Int × Int)}, (∀ x ∈ r, 0 < x.2 ∧ x.2 ∣ B) → RelL B r (r.map fun x => x.1 * B.fdiv x.2)
  | [], _ => True.intro
  | x :: r, h => by
    obtain ⟨h1, k, hk⟩ := h x (List.mem_cons_self ..)
    refine ⟨⟨h1, ?_⟩, rel_of fun y hy => h y (List.mem_cons_of_mem _ hy)⟩
    have e : B.fdiv x.2 = k := by
      rw [hk]
      exact Int.mul_fdiv_cancel_left _ (by omega)
    show x.1 * B.fdiv x.2 * x.2 = x.1 * B
    rw [e, hk]
    ac_rfl
theorem wr_rel {r : List (Int × Int)} (h : ∀ x ∈ r, 0 < x.2) : RelL (wrB r) r (wrT r) := rel_of fun x hx => ⟨h x hx, (wrB_spec h).2.1 x hx⟩
def cellF (g : Int) (r s : List (Int × Int)) : Int × Int := (List.zipWith (timesF g) r s).foldl (plusF g) (0, 1)
theorem cell_fold {B U : Int} : ∀ (xs zs : List (Int × Int)) (ts ss : List Int) (p : Int × Int) (S : Int), Red p → p.1 * (B * U) = S * p.2 → RelL B xs ts → RelL U zs ss → Red ((List.zipWith (timesF 0) xs zs).foldl (plusF 0) p) ∧ ((List.zipWith (timesF 0) xs zs).foldl (plusF 0) p).1 * (B * U) = (S + dotF ts ss) * ((List.zipWith (timesF 0) xs zs).foldl (plusF 0) p).2
  | [], zs, ts, ss, p, S, hp, h, h1, _ => by
    cases ts with
    | nil => exact ⟨hp, by simp only [List.zipWith_nil_left, List.foldl_nil, dotF, List.sum_nil, Int.add_zero]; exact h⟩
    | cons t ts => exact h1.elim
  | x :: xs, [], ts, ss, p, S, hp, h, _, h2 => by
    cases ss with
    | nil => exact ⟨hp, by simp only [List.zipWith_nil_right, List.foldl_nil, dotF, List.sum_nil, Int.add_zero]; exact h⟩
    | cons t ts => exact h2.elim
  | x :: xs, z :: zs, [], ss, p, S, hp, h, h1, _ => h1.elim
  | x :: xs, z :: zs, t :: ts, [], p, S, hp, h, _, h2 => h2.elim
  | x :: xs, z :: zs, t :: ts, s :: ss, p, S, hp, h, h1, h2 => by
    obtain ⟨⟨hx, ht⟩, h1⟩ := h1
    obtain ⟨⟨hz, hs⟩, h2⟩ := h2
    have hxz : x.2 * z.2 ≠ 0 := Int.mul_ne_zero (by omega) (by omega)
    have hT := (low0_red (u := x.1 * z.1) hxz).1
    have e1 := times_rel (x := x) (z := z) (t := t) (s := s) (B := B) (U := U) (by omega) (by omega) ht hs
    have hy : 0 < (timesF 0 x z).2 := hT.1
    have e2 := plus_rel (p := p) (y := timesF 0 x z) (M := B * U) (by have := hp.1; omega) (by omega) h e1
    have hR : Red (plusF 0 p (timesF 0 x z)) := (low0_red (Int.mul_ne_zero (by have := hp.1; omega) (by omega))).1
    have ih := cell_fold xs zs ts ss _ _ hR e2 h1 h2
    rw [List.zipWith_cons_cons, List.foldl_cons]
    refine ⟨ih.1, ?_⟩
    rw [ih.2]
    simp only [dotF, List.zipWith_cons_cons, List.sum_cons]
    rw [Int.add_assoc]
theorem cell_zero {r s : List (Int × Int)} (hr : ∀ x ∈ r, 0 < x.2) (hs : ∀ x ∈ s, 0 < x.2) : cellF 0 r s = lowF 0 (dotF (wrT r) (wrT s)) (wrB r * wrB s) := by
  have hB := (wrB_spec hr).1
  have hU := (wrB_spec hs).1
  have h := cell_fold r s (wrT r) (wrT s) (0, 1) 0 ⟨by decide, by decide⟩ (by simp) (wr_rel hr) (wr_rel hs)
  rw [Int.zero_add] at h
  exact (low0_uniq h.1 (Int.mul_ne_zero (by omega) (by omega)) h.2).symm
/-! ### the same on wheels -/
theorem fmod_add {g a b : Int} (hg : 0 < g) : (a.fmod g + b).fmod g = (a + b).fmod g := by
  rw [fmod_pos _ hg, fmod_pos _ hg, fmod_pos _ hg, Int.emod_add_emod]
theorem fmod_add2 {g a b : Int} (hg : 0 < g) : (a + b.fmod g).fmod g = (a + b).fmod g := by
  rw [fmod_pos _ hg, fmod_pos _ hg, fmod_pos _ hg, Int.add_emod_emod]
theorem cell_wheel_fold {g : Int} (hg : 0 < g) : ∀ (xs zs : List (Int × Int)) (S : Int), (∀ x ∈ xs, x.2 = 1) → (∀ x ∈ zs, x.2 = 1) → (List.zipWith (timesF g) xs zs).foldl (plusF g) (S.fmod g, 1) = ((S + dotF (xs.map (·.1)) (zs.map (·.1))).fmod g, 1)
  | [], zs, S, _, _ => by simp [dotF]
  | x :: xs, [], S, _, _ => by simp [dotF]
  | x :: xs, z :: zs, S, h1, h2 => by
    have e1 := h1 x (List.mem_cons_self ..)
    have e2 := h2 z (List.mem_cons_self ..)
    have et : timesF g x z = ((x.1 * z.1).fmod g, 1) := by
      unfold timesF
      rw [e1, e2, Int.mul_one, low_one hg]
    have ep : plusF g (S.fmod g, 1) (timesF g x z) = ((S + x.1 * z.1).fmod g, 1) := by
      unfold plusF
      rw [et]
      show lowF g (S.fmod g * 1 + (x.1 * z.1).fmod g * 1) (1 * 1) = _
      rw [Int.mul_one, Int.mul_one, Int.mul_one, low_one hg, fmod_add hg, fmod_add2 hg]
    rw [List.zipWith_cons_cons, List.foldl_cons, ep, cell_wheel_fold hg xs zs _ (fun y hy => h1 y (List.mem_cons_of_mem _ hy)) (fun y hy => h2 y (List.mem_cons_of_mem _ hy))]
    simp only [dotF, List.map_cons, List.zipWith_cons_cons, List.sum_cons]
    rw [Int.add_assoc]
theorem wrB_one : ∀ {r : List (Int × Int)}, (∀ x ∈ r, x.2 = 1) → wrB r = 1 := by
  intro r
  unfold wrB
  induction r with
  | nil => intro _; rfl
  | cons x r ih =>
    intro h
    rw [List.foldl_cons, h x (List.mem_cons_self ..)]
    show r.foldl _ ((1 : Int).fdiv (Int.gcd 1 1 : Int) * 1) = 1
    have e : (1 : Int).fdiv (Int.gcd 1 1 : Int) * 1 = 1 := by decide
    rw [e]
    exact ih fun y hy => h y (List.mem_cons_of_mem _ hy)
theorem wrT_one {r : List (Int × Int)} (h : ∀ x ∈ r, x.2 = 1) : wrT r = r.map (·.1) := by
  unfold wrT
  rw [wrB_one h]
  refine List.map_congr_left fun x hx => ?_
  rw [h x hx]
  show x.1 * (1 : Int).fdiv 1 = x.1
  rw [show (1 : Int).fdiv 1 = 1 from by decide, Int.mul_one]
theorem cell_eq {g : Int} {r s : List (Int × Int)} (h : (g = 0 ∧ (∀ x ∈ r, 0 < x.2) ∧ ∀ x ∈ s, 0 < x.2) ∨ (0 < g ∧ (∀ x ∈ r, x.2 = 1) ∧ ∀ x ∈ s, x.2 = 1)) : cellF g r s = lowF g (dotF (wrT r) (wrT s)) (wrB r * wrB s) := by
  rcases h with ⟨rfl, h1, h2⟩ | ⟨hg, h1, h2⟩
  · exact cell_zero h1 h2
  · rw [wrB_one h1, wrB_one h2, wrT_one h1, wrT_one h2, Int.mul_one, low_one hg]
    have h := cell_wheel_fold hg r s 0 h1 h2
    have e0 : (0 : Int).fmod g = 0 := by rw [fmod_pos _ hg]; exact Int.zero_emod g
    rw [e0, Int.zero_add] at h
    exact h
end Fm

namespace Fm
open PySem PySem.Spec PyProof.Rows L2
def rTupOf (K : PySem.W.Frag) : List V → Hp → VK → Prop := fun xs H Q => ∃ p ys, xs = [.ref p] ∧ ((SqL K H p ys ∧ ∀ l, H l = none → Q (.ref l) (upd H l (.tup ys))) ∨ (SqT K H p ys ∧ Q (.ref p) H))
theorem call_tupOf {X : Cx} : CallR X (.type "tuple") (rTupOf X.K) := call_tuple_of
theorem w_tupOf2 {K : PySem.W.Frag} {H : Hp} {Q : VK} {p : Addr} {ys : List V} (h : H p = some (.lst ys)) (q : NewO (.tup ys) H Q) : rTupOf K [.ref p] H Q := ⟨p, ys, rfl, .inl ⟨SqL.of h, q⟩⟩
theorem fmod_mul {g a b : Int} (hg : 0 < g) : (a.fmod g * b).fmod g = (a * b).fmod g := by
  rw [fmod_pos _ hg, fmod_pos _ hg, fmod_pos _ hg, Int.mul_emod, Int.emod_emod_of_dvd _ (Int.dvd_refl g), ← Int.mul_emod]
theorem fmod_mul2 {g a b : Int} (hg : 0 < g) : (a * b.fmod g).fmod g = (a * b).fmod g := by
  rw [Int.mul_comm, fmod_mul hg, Int.mul_comm]
theorem fmod_of_lt {g a : Int} (h0 : 0 ≤ a) (h1 : a < g) : a.fmod g = a := by
  rw [fmod_pos _ (by omega), Int.emod_eq_of_lt h0 h1]
/-- over what has a back on the wheel -/
theorem low_inv {g u d f : Int} (hg : 0 < g) (hf : (f * d).fmod g = 1) : lowF g u d = ((u * f).fmod g, 1) := by
  have h0 : 0 ≤ (u * f).fmod g := Int.fmod_nonneg_of_pos _ hg
  have h1 : (u * f).fmod g < g := Int.fmod_lt_of_pos _ hg
  have ee : ∀ z : Int, (z * (f * d)).fmod g = z.fmod g := fun z => by
    rw [← fmod_mul2 hg, hf, Int.mul_one]
  have e : lowI g u d = some ((u * f).fmod g).toNat := by
    unfold lowI
    rw [if_pos hg]
    refine List.find?_range_eq_some.mpr ⟨decide_eq_true ?_, List.mem_range.mpr (by omega), fun j hj => ?_⟩
    · rw [show ((((u * f).fmod g).toNat : Nat) : Int) = (u * f).fmod g by omega, fmod_mul hg, Int.mul_assoc]
      exact ee u
    · have : ¬ ((j : Int) * d).fmod g = u.fmod g := fun z => by
        have h2 : ((j : Int) * d * f).fmod g = (u * f).fmod g := by
          rw [← fmod_mul hg, z, fmod_mul hg]
        have h3 : ((j : Int) * d * f).fmod g = (j : Int) := by
          rw [Int.mul_assoc, Int.mul_comm d f, ee, fmod_of_lt (by omega) (by omega)]
        omega
      rw [decide_eq_false this]
      rfl
  unfold lowF
  rw [e]
  show ((((u * f).fmod g).toNat : Int), (1 : Int)) = _
  rw [show ((((u * f).fmod g).toNat : Nat) : Int) = (u * f).fmod g by omega]
/-- a number of a ground, of less than k bits -/
def OkN (g : Int) (k : Nat) (a : Int × Int) : Prop := a.1.natAbs < 2 ^ k ∧ a.2.natAbs < 2 ^ k ∧ ((g = 0 ∧ 0 < a.2) ∨ (3 ≤ g ∧ g ≤ 13 ∧ a.2 = 1))
theorem OkN.pos {g : Int} {k : Nat} {a : Int × Int} (h : OkN g k a) : 0 < a.2 := by
  rcases h.2.2 with h | h
  · exact h.2
  · omega
theorem step_le {b c : Int} {k m : Nat} (hb : 0 < b) (hc : 0 < c) (h1 : b.natAbs ≤ 2 ^ m) (h2 : c.natAbs < 2 ^ k) : (b.fdiv (Int.gcd b c : Int) * c).natAbs ≤ 2 ^ (m + k) ∧ (b.fdiv (Int.gcd b c : Int)).natAbs ≤ 2 ^ m ∧ (Int.gcd b c : Int) ≠ 0 ∧ ((Int.gcd b c : Int)).natAbs < 2 ^ k := by
  have hg : 0 < Int.gcd b c := Nat.pos_of_ne_zero fun z => by
    have := (Int.gcd_eq_zero_iff.mp z).2
    omega
  have hle : (b.fdiv (Int.gcd b c : Int)).natAbs ≤ b.natAbs := by
    obtain ⟨q, e⟩ := Int.gcd_dvd_left b c
    have f1 : b.fdiv (Int.gcd b c : Int) = q := by
      conv => lhs; lhs; rw [e]
      exact Int.mul_fdiv_cancel_left _ (by omega)
    rw [f1]
    have := natAbs_fac (c := (Int.gcd b c : Int)) (q := q) (by omega)
    rw [← e] at this
    exact this
  have hgc : (Int.gcd b c : Int) ≤ c := Int.le_of_dvd hc (Int.gcd_dvd_right b c)
  refine ⟨?_, Nat.le_trans hle h1, by omega, by omega⟩
  rw [Int.natAbs_mul, Nat.pow_add]
  exact Nat.mul_le_mul (Nat.le_trans hle h1) (Nat.le_of_lt h2)
theorem wrB_take {r : List (Int × Int)} {i : Nat} {x : Int × Int} (h : r[i]? = some x) : wrB (r.take (i + 1)) = (wrB (r.take i)).fdiv (Int.gcd (wrB (r.take i)) x.2 : Int) * x.2 := by
  unfold wrB
  rw [List.take_add_one, h]
  simp [List.foldl_append]
theorem wrB_le {k : Nat} : ∀ (r : List (Int × Int)) (b : Int) (m : Nat), 0 < b → b.natAbs ≤ 2 ^ m → (∀ x ∈ r, 0 < x.2 ∧ x.2.natAbs < 2 ^ k) → (r.foldl (fun b x => b.fdiv (Int.gcd b x.2 : Int) * x.2) b).natAbs ≤ 2 ^ (m + k * r.length)
  | [], b, m, _, h, _ => by simpa using h
  | x :: r, b, m, hb, h, hr => by
    have hx := hr x (List.mem_cons_self ..)
    have s := step_le hb hx.1 h hx.2
    rw [List.foldl_cons]
    have := wrB_le r _ (m + k) (lcm_step hb hx.1).1 s.1 fun y hy => hr y (List.mem_cons_of_mem _ hy)
    rw [show m + k * (x :: r).length = m + k + k * r.length by rw [List.length_cons, Nat.mul_succ]; omega]
    exact this
theorem wrB_bd {k : Nat} {r : List (Int × Int)} (h : ∀ x ∈ r, 0 < x.2 ∧ x.2.natAbs < 2 ^ k) : (wrB r).natAbs ≤ 2 ^ (k * r.length) := by
  have := wrB_le r 1 0 (by decide) (by decide) h
  rw [Nat.zero_add] at this
  exact this
theorem w_aug {i : Nat} {te : TE} {ti : TIp} {D : Ends} {σ : L2.St} {H : Hp} {x : V} (h : σ[i]? = some (some x)) (q : te σ H fun y H1 => ti x y H1 fun z H2 => D.nx (σ.set i (some z)) H2) : tAug i te ti D σ H := ⟨x, h, q⟩
/-- a row as whole numbers over one bottom, as an object -/
def WR (H : Hp) (v : V) (ts : List Int) (B : Int) : Prop := ∃ p L, v = .ref p ∧ H p = some (.tup [.ref L, .int B]) ∧ H L = some (.lst (ts.map V.int))
theorem WR.sm {H H' : Hp} {v : V} {ts : List Int} {B : Int} (h : WR H v ts B) (s : Same H H') : WR H' v ts B := by
  obtain ⟨p, L, e, h1, h2⟩ := h
  exact ⟨p, L, e, s _ _ h1, s _ _ h2⟩
theorem wrT_bd {g : Int} {k : Nat} {r : List (Int × Int)} (h : ∀ x ∈ r, OkN g k x) : ∀ t ∈ wrT r, t.natAbs ≤ 2 ^ (k + k * r.length) := by
  intro t ht
  obtain ⟨x, hx, rfl⟩ := List.mem_map.mp ht
  have hp : ∀ x ∈ r, 0 < x.2 := fun x hx => (h x hx).pos
  have hB := wrB_bd (k := k) (r := r) fun x hx => ⟨hp x hx, (h x hx).2.1⟩
  obtain ⟨q, e⟩ := (wrB_spec hp).2.1 x hx
  have f1 : (wrB r).fdiv x.2 = q := by
    rw [e]
    exact Int.mul_fdiv_cancel_left _ (by have := hp x hx; omega)
  rw [f1, Int.natAbs_mul, Nat.pow_add]
  have h2 := natAbs_fac (c := x.2) (q := q) (by have := hp x hx; omega)
  rw [← e] at h2
  exact Nat.mul_le_mul (Nat.le_of_lt (h x hx).1) (Nat.le_trans h2 hB)
theorem le_lt {a : Int} {k m : Nat} (h : a.natAbs ≤ 2 ^ k) (hk : k < m) : a.natAbs < 2 ^ m := Nat.lt_of_le_of_lt h (Nat.pow_lt_pow_right (by decide) hk)
theorem mulW_le {a b : Int} {k m : Nat} (h1 : a.natAbs ≤ 2 ^ k) (h2 : b.natAbs ≤ 2 ^ m) (hk : k + m ≤ 100000) : CMulW a b := wide_mul (a := k + 1) (b := m + 1) (le_lt h1 (by omega)) (le_lt h2 (by omega)) (by omega) (by omega) (by omega)
/-! ### what is gathered, item by item -/
def Acc {α : Type} (P : Hp → V → α → Prop) (H : Hp) (ys : List V) (as : List α) (i : Nat) : Prop := ys.length = i ∧ ∀ (j : Nat) (x : V) (a : α), ys[j]? = some x → as[j]? = some a → P H x a
theorem Acc.nil {α : Type} {P : Hp → V → α → Prop} {H : Hp} {as : List α} : Acc P H [] as 0 := ⟨rfl, fun j x a h _ => by simp at h⟩
theorem Acc.mono {α : Type} {P : Hp → V → α → Prop} {H H' : Hp} {ys : List V} {as : List α} {i : Nat} (h : Acc P H ys as i) (f : ∀ x a, P H x a → P H' x a) : Acc P H' ys as i := ⟨h.1, fun j x a h1 h2 => f x a (h.2 j x a h1 h2)⟩
theorem Acc.snoc {α : Type} {P : Hp → V → α → Prop} {H : Hp} {ys : List V} {as : List α} {i : Nat} {v : V} {a : α} (h : Acc P H ys as i) (ha : as[i]? = some a) (hv : P H v a) : Acc P H (ys ++ [v]) as (i + 1) := by
  refine ⟨by rw [List.length_append, h.1]; rfl, fun j x b h1 h2 => ?_⟩
  by_cases hj : j < ys.length
  · rw [List.getElem?_append_left hj] at h1
    exact h.2 j x b h1 h2
  · rw [List.getElem?_append_right (by omega)] at h1
    have e : j - ys.length = 0 := by
      have := (List.getElem?_eq_some_iff.mp h1).1
      rw [List.length_singleton] at this
      omega
    rw [e] at h1
    cases Option.some.inj h1
    have e2 : j = i := by have := h.1; omega
    rw [e2, ha] at h2
    cases Option.some.inj h2
    exact hv
theorem Acc.sq {α : Type} {P : Hp → V → α → Prop} {H : Hp} {ys : List V} {as : List α} {i : Nat} {p : Addr} (h : Acc P H ys as i) (hi : i = as.length) (hp : H p = some (.tup ys)) : SqV P H (.ref p) as := ⟨p, ys, rfl, hp, by rw [h.1, hi], h.2⟩
/-- such a row whose list is another one than the one at D -/
def WRn (D : Addr) (H : Hp) (v : V) (s : List (Int × Int)) : Prop := ∃ p L, v = .ref p ∧ L ≠ D ∧ H p = some (.tup [.ref L, .int (wrB s)]) ∧ H L = some (.lst ((wrT s).map V.int))
theorem WRn.sm {D : Addr} {H H' : Hp} {v : V} {s : List (Int × Int)} (h : WRn D H v s) (e : Same H H') : WRn D H' v s := by
  obtain ⟨p, L, e1, n, h1, h2⟩ := h
  exact ⟨p, L, e1, n, e _ _ h1, e _ _ h2⟩
theorem WRn.upd {D : Addr} {H : Hp} {v : V} {s : List (Int × Int)} {xs : List V} {o : HO} (h : WRn D H v s) (hD : H D = some (.lst xs)) : WRn D (upd H D o) v s := by
  obtain ⟨p, L, e1, n, h1, h2⟩ := h
  exact ⟨p, L, e1, n, Kt.updL hD _ _ h1, by rw [upd_ne n]; exact h2⟩
theorem dot_bd {m : Nat} : ∀ {ts ss : List Int}, (∀ t ∈ ts, t.natAbs ≤ 2 ^ m) → (∀ t ∈ ss, t.natAbs ≤ 2 ^ m) → (dotF ts ss).natAbs ≤ ts.length * 2 ^ (m + m)
  | [], ss, _, _ => by simp [dotF]
  | t :: ts, [], _, _ => by simp [dotF]
  | t :: ts, s :: ss, h1, h2 => by
    have ih := dot_bd (ts := ts) (ss := ss) (fun y hy => h1 y (List.mem_cons_of_mem _ hy)) (fun y hy => h2 y (List.mem_cons_of_mem _ hy))
    have e : dotF (t :: ts) (s :: ss) = t * s + dotF ts ss := by simp [dotF]
    have h3 : (t * s).natAbs ≤ 2 ^ (m + m) := by
      rw [Int.natAbs_mul, Nat.pow_add]
      exact Nat.mul_le_mul (h1 t (List.mem_cons_self ..)) (h2 s (List.mem_cons_self ..))
    rw [e, List.length_cons, Nat.succ_mul]
    omega
def turnF (l : Nat) (t : List (List (Int × Int))) : List (List (Int × Int)) := (List.range l).map fun j => t.map fun row => row.getD j (0, 1)
theorem turn_at {l j : Nat} {t : List (List (Int × Int))} (h : j < l) : (turnF l t)[j]? = some (t.map fun row => row.getD j (0, 1)) := by
  unfold turnF
  rw [List.getElem?_map, List.getElem?_range h]
  rfl
theorem wrT_len (r : List (Int × Int)) : (wrT r).length = r.length := by
  unfold wrT
  rw [List.length_map]
theorem cell_is {g : Int} {k : Nat} {r s : List (Int × Int)} (hg : g = 0 ∨ (3 ≤ g ∧ g ≤ 13)) (hr : ∀ x ∈ r, OkN g k x) (hs : ∀ x ∈ s, OkN g k x) : cellF g r s = lowF g (dotF (wrT r) (wrT s)) (wrB r * wrB s) := by
  refine cell_eq ?_
  rcases hg with rfl | ⟨h3, h13⟩
  · exact .inl ⟨rfl, fun x h => (hr x h).pos, fun x h => (hs x h).pos⟩
  · refine .inr ⟨by omega, fun x h => ?_, fun x h => ?_⟩
    · rcases (hr x h).2.2 with z | z
      · omega
      · exact z.2.2
    · rcases (hs x h).2.2 with z | z
      · omega
      · exact z.2.2
end Fm

namespace Fm
open PySem PySem.Spec PyProof.Rows L2
/-! ### things of some depth, their whole numbers of less than k bits -/
def AtB (k : Nat) : V → Prop
  | .int i => i.natAbs < 2 ^ k
  | .non => True
  | .bl _ => True
  | .str _ => True
  | _ => False
theorem AtB.atom {k : Nat} {v : V} (h : AtB k v) : atomB v = true := by
  cases v <;> first | rfl | cases h
def IsL (H : Hp) (v : V) : Prop := ∃ p xs, v = .ref p ∧ H p = some (.lst xs)
def TB (k : Nat) : Nat → Hp → V → Prop
  | 0, H, v => AtB k v ∨ IsL H v
  | n + 1, H, v => AtB k v ∨ IsL H v ∨ ∃ p xs, v = .ref p ∧ H p = some (.tup xs) ∧ xs.length ≤ 100 ∧ ∀ x ∈ xs, TB k n H x
theorem IsL.kd {H H' : Hp} {v : V} (h : IsL H v) (e : Kd H H') : IsL H' v := by
  obtain ⟨p, xs, e1, h1⟩ := h
  obtain ⟨ys, h2⟩ := e.2 p xs h1
  exact ⟨p, ys, e1, h2⟩
theorem TB.kd {k : Nat} {H H' : Hp} (e : Kd H H') : ∀ {n : Nat} {v : V}, TB k n H v → TB k n H' v
  | 0, v, h => by
    rcases h with h | h
    · exact .inl h
    · exact .inr (h.kd e)
  | n + 1, v, h => by
    rcases h with h | h | ⟨p, xs, e1, h1, hz, hx⟩
    · exact .inl h
    · exact .inr (.inl (h.kd e))
    · exact .inr (.inr ⟨p, xs, e1, e.1 _ _ h1, hz, fun x m => TB.kd e (hx x m)⟩)
theorem TB.up {k : Nat} {H : Hp} : ∀ {n : Nat} {v : V}, TB k n H v → TB k (n + 1) H v
  | 0, v, h => by
    rcases h with h | h
    · exact .inl h
    · exact .inr (.inl h)
  | n + 1, v, h => by
    rcases h with h | h | ⟨p, xs, e1, h1, hz, hx⟩
    · exact .inl h
    · exact .inr (.inl h)
    · exact .inr (.inr ⟨p, xs, e1, h1, hz, fun x m => TB.up (hx x m)⟩)
theorem TB.wide {k l : Nat} {H : Hp} (hl : k ≤ l) : ∀ {n : Nat} {v : V}, TB k n H v → TB l n H v
  | 0, v, h => by
    rcases h with h | h
    · left; cases v <;> first | exact Nat.lt_of_lt_of_le h (Nat.pow_le_pow_right (by decide) hl) | exact h
    · exact .inr h
  | n + 1, v, h => by
    rcases h with h | h | ⟨p, xs, e1, h1, hz, hx⟩
    · left; cases v <;> first | exact Nat.lt_of_lt_of_le h (Nat.pow_le_pow_right (by decide) hl) | exact h
    · exact .inr (.inl h)
    · exact .inr (.inr ⟨p, xs, e1, h1, hz, fun x m => TB.wide hl (hx x m)⟩)
theorem TB.tup {k n : Nat} {H : Hp} {p : Addr} {xs : List V} (h : H p = some (.tup xs)) (hz : xs.length ≤ 100) (hx : ∀ x ∈ xs, TB k n H x) : TB k (n + 1) H (.ref p) := .inr (.inr ⟨p, xs, rfl, h, hz, hx⟩)
theorem TB.lst {k n : Nat} {H : Hp} {p : Addr} {xs : List V} (h : H p = some (.lst xs)) : TB k n H (.ref p) := by
  cases n with
  | zero => exact .inr ⟨p, xs, rfl, h⟩
  | succ n => exact .inr (.inl ⟨p, xs, rfl, h⟩)
theorem TB.at {k n : Nat} {H : Hp} {v : V} (h : AtB k v) : TB k n H v := by
  cases n with
  | zero => exact .inl h
  | succ n => exact .inl h
/-- its kind is known -/
def Tv (H : Hp) (v : V) : Prop := atomB v = true ∨ IsL H v ∨ ∃ p xs, v = .ref p ∧ H p = some (.tup xs)
theorem TB.tv {k n : Nat} {H : Hp} {v : V} (h : TB k n H v) : Tv H v := by
  cases n with
  | zero =>
    rcases h with h | h
    · exact .inl h.atom
    · exact .inr (.inl h)
  | succ n =>
    rcases h with h | h | ⟨p, xs, e1, h1, _⟩
    · exact .inl h.atom
    · exact .inr (.inl h)
    · exact .inr (.inr ⟨p, xs, e1, h1⟩)
theorem Tv.ty {K : PySem.W.Frag} {H : Hp} {v : V} (h : Tv H v) : TyX K H v (.type (tyN H v)) := by
  rcases h with h | ⟨p, xs, rfl, h⟩ | ⟨p, xs, rfl, h⟩
  · cases v with
    | non => exact .base .non
    | bl b => exact .base (.bl b)
    | int i => exact .base (.int i)
    | str z => exact .base (.str z)
    | _ => cases h
  · have e : tyN H (.ref p) = "list" := by show tyAt (H p) = _; rw [h]; rfl
    rw [e]
    exact .base (.lst h)
  · have e : tyN H (.ref p) = "tuple" := by show tyAt (H p) = _; rw [h]; rfl
    rw [e]
    exact .base (.tup h)
theorem tv_int {K : PySem.W.Frag} {H : Hp} {Q : VK} {v : V} (h : Tv H v) (q : Q (.bl (intB v)) H) : rIsi K [v, .ty "int"] H Q := by
  refine isi_is h.ty ?_ q
  rcases h with h | ⟨p, xs, rfl, h⟩ | ⟨p, xs, rfl, h⟩
  · cases v with
    | non => show kitB "NoneType" "int" = some false; decide +kernel
    | bl b => show kitB "bool" "int" = some true; decide +kernel
    | int i => show kitB "int" "int" = some true; decide +kernel
    | str z => show kitB "str" "int" = some false; decide +kernel
    | _ => cases h
  · show kitB (tyAt (H p)) _ = _; rw [h]; show kitB "list" "int" = some false; decide +kernel
  · show kitB (tyAt (H p)) _ = _; rw [h]; show kitB "tuple" "int" = some false; decide +kernel
theorem tv_bool {K : PySem.W.Frag} {H : Hp} {Q : VK} {v : V} (h : Tv H v) (q : Q (.bl (blB v)) H) : rIsi K [v, .ty "bool"] H Q := by
  refine isi_is h.ty ?_ q
  rcases h with h | ⟨p, xs, rfl, h⟩ | ⟨p, xs, rfl, h⟩
  · cases v with
    | non => show kitB "NoneType" "bool" = some false; decide +kernel
    | bl b => show kitB "bool" "bool" = some true; decide +kernel
    | int i => show kitB "int" "bool" = some false; decide +kernel
    | str z => show kitB "str" "bool" = some false; decide +kernel
    | _ => cases h
  · show kitB (tyAt (H p)) _ = _; rw [h]; show kitB "list" "bool" = some false; decide +kernel
  · show kitB (tyAt (H p)) _ = _; rw [h]; show kitB "tuple" "bool" = some false; decide +kernel
/-- what is no tuple -/
def NoTup (H : Hp) (v : V) : Prop := ∀ p xs, v = .ref p → H p ≠ some (.tup xs)
theorem tb_tup {K : PySem.W.Frag} {k n : Nat} {H : Hp} {Q : VK} {v : V} (h : TB k (n + 1) H v) (q1 : ∀ p xs, v = .ref p → H p = some (.tup xs) → xs.length ≤ 100 → (∀ x ∈ xs, TB k n H x) → Q (.bl true) H) (q2 : NoTup H v → Q (.bl false) H) : rIsi K [v, .ty "tuple"] H Q := by
  have h' := h.tv
  rcases h with h | ⟨p, xs, rfl, h⟩ | ⟨p, xs, rfl, h, hz, hx⟩
  · have ha := h.atom
    refine isi_is h'.ty (b := false) ?_ (q2 fun p xs e => ?_)
    · cases v with
      | non => show kitB "NoneType" "tuple" = some false; decide +kernel
      | bl b => show kitB "bool" "tuple" = some false; decide +kernel
      | int i => show kitB "int" "tuple" = some false; decide +kernel
      | str z => show kitB "str" "tuple" = some false; decide +kernel
      | _ => cases ha
    · rw [e] at ha
      cases ha
  · refine isi_is h'.ty (b := false) ?_ (q2 fun p' xs' e => ?_)
    · show kitB (tyAt (H p)) _ = _; rw [h]; show kitB "list" "tuple" = some false; decide +kernel
    · cases e
      rw [h]
      intro z
      cases z
  · refine isi_is h'.ty (b := true) ?_ (q1 p xs rfl h hz hx)
    show kitB (tyAt (H p)) _ = _; rw [h]; show kitB "tuple" "tuple" = some true; decide +kernel
theorem numOf_no {H : Hp} {g : Int} {v : V} (h : NoTup H v) : numOf H g v = false := by
  cases v with
  | ref p =>
    show numAt g (H p) = false
    cases e : H p with
    | none => rfl
    | some o =>
      cases o with
      | tup xs => exact absurd e (h p xs rfl)
      | _ => rfl
  | _ => rfl
theorem numOf_tb {k n : Nat} {H H' : Hp} {g : Int} {v : V} (h0 : TB k n H v) (e : Kd H H') : numOf H' g v = numOf H g v := by
  rcases h0.tv with h | ⟨p, xs, rfl, h⟩ | ⟨p, xs, rfl, h⟩
  · cases v <;> first | rfl | cases h
  · obtain ⟨ys, h2⟩ := e.2 p xs h
    rw [numOf_lst h, numOf_lst h2]
  · rw [numOf_tup h, numOf_tup (e.1 _ _ h)]
/-! ### rows and tables among things -/
def rowAt (H : Hp) (g m : Int) : Option HO → Bool
  | some (.tup xs) => decide ((xs.length : Int) = m) && xs.all (numOf H g)
  | _ => false
def rowOf (H : Hp) (g m : Int) : V → Bool
  | .ref p => rowAt H g m (H p)
  | _ => false
theorem rowOf_tup {H : Hp} {g m : Int} {p : Addr} {xs : List V} (h : H p = some (.tup xs)) : rowOf H g m (.ref p) = (decide ((xs.length : Int) = m) && xs.all (numOf H g)) := by
  show rowAt H g m (H p) = _
  rw [h]
  rfl
theorem rowOf_no {H : Hp} {g m : Int} {v : V} (h : NoTup H v) : rowOf H g m v = false := by
  cases v with
  | ref p =>
    show rowAt H g m (H p) = false
    cases e : H p with
    | none => rfl
    | some o =>
      cases o with
      | tup xs => exact absurd e (h p xs rfl)
      | _ => rfl
  | _ => rfl
theorem all_congr {f f' : V → Bool} : ∀ {xs : List V}, (∀ x ∈ xs, f' x = f x) → xs.all f' = xs.all f
  | [], _ => rfl
  | x :: xs, h => by
    rw [List.all_cons, List.all_cons, h x (List.mem_cons_self ..), all_congr fun y hy => h y (List.mem_cons_of_mem _ hy)]
theorem notup_kd {k n : Nat} {H H' : Hp} {v : V} (h0 : TB k n H v) (no : NoTup H v) (e : Kd H H') : NoTup H' v := by
  rcases h0.tv with h | ⟨p, xs, rfl, h⟩ | ⟨p, xs, rfl, h⟩
  · intro p xs z
    rw [z] at h
    cases h
  · obtain ⟨ys, h2⟩ := e.2 p xs h
    intro p' xs' z
    cases z
    rw [h2]
    intro z
    cases z
  · exact absurd h (no p xs rfl)
theorem tb_cases {k n : Nat} {H : Hp} {v : V} (h : TB k (n + 1) H v) : NoTup H v ∨ ∃ p xs, v = .ref p ∧ H p = some (.tup xs) ∧ xs.length ≤ 100 ∧ ∀ x ∈ xs, TB k n H x := by
  rcases h with h | ⟨p, xs, rfl, h⟩ | h
  · left
    intro p xs e
    have ha := h.atom
    rw [e] at ha
    cases ha
  · left
    intro p' xs' e
    cases e
    rw [h]
    intro z
    cases z
  · exact .inr h
theorem rowOf_tb {k n : Nat} {H H' : Hp} {g m : Int} {v : V} (h : TB k (n + 1) H v) (e : Kd H H') : rowOf H' g m v = rowOf H g m v := by
  rcases tb_cases h with no | ⟨p, xs, rfl, hp, hz, hx⟩
  · rw [rowOf_no no, rowOf_no (notup_kd h no e)]
  · rw [rowOf_tup hp, rowOf_tup (e.1 _ _ hp), all_congr fun x m => numOf_tb (hx x m) e]
def tabAt (H : Hp) (g m w : Int) : Option HO → Bool
  | some (.tup xs) => decide ((xs.length : Int) = m) && xs.all (rowOf H g w)
  | _ => false
def tabOf (H : Hp) (g m w : Int) : V → Bool
  | .ref p => tabAt H g m w (H p)
  | _ => false
theorem tabOf_tup {H : Hp} {g m w : Int} {p : Addr} {xs : List V} (h : H p = some (.tup xs)) : tabOf H g m w (.ref p) = (decide ((xs.length : Int) = m) && xs.all (rowOf H g w)) := by
  show tabAt H g m w (H p) = _
  rw [h]
  rfl
theorem tabOf_no {H : Hp} {g m w : Int} {v : V} (h : NoTup H v) : tabOf H g m w v = false := by
  cases v with
  | ref p =>
    show tabAt H g m w (H p) = false
    cases e : H p with
    | none => rfl
    | some o =>
      cases o with
      | tup xs => exact absurd e (h p xs rfl)
      | _ => rfl
  | _ => rfl
theorem all_map {f : V → Bool} {xs : List V} : (xs.map f).all id = xs.all f := by
  rw [List.all_map]
  rfl
end Fm

namespace Fm
open PySem PySem.Spec PyProof.Rows L2
/-! ### drawn numbers and their sums -/
def NG (g : Int) (i : Nat) (a : Int × Int) : Prop := 0 < a.2 ∧ a.2 ∣ 2520 ∧ a.1.natAbs ≤ 64 * 2 ^ i * a.2.natAbs ∧ (g = 0 ∨ (3 ≤ g ∧ g ≤ 13 ∧ a.2 = 1))
theorem NG.mono {g : Int} {i j : Nat} {a : Int × Int} (h : NG g i a) (hj : i ≤ j) : NG g j a :=
  ⟨h.1, h.2.1, Nat.le_trans h.2.2.1 (Nat.mul_le_mul_right _ (Nat.mul_le_mul_left _ (Nat.pow_le_pow_right (by decide) hj))), h.2.2.2⟩
theorem NG.ok {g : Int} {i : Nat} {a : Int × Int} (h : NG g i a) (hi : i ≤ 10) : OkN g 40 a := by
  have h2 : a.2 ≤ 2520 := Int.le_of_dvd (by decide) h.2.1
  have h0 := h.1
  have h3 : a.1.natAbs ≤ 64 * 2 ^ 10 * 2520 := Nat.le_trans h.2.2.1 (Nat.mul_le_mul (Nat.mul_le_mul_left _ (Nat.pow_le_pow_right (by decide) hi)) (by omega))
  refine ⟨Nat.lt_of_le_of_lt h3 (by decide), Nat.lt_of_le_of_lt (show a.2.natAbs ≤ 2520 by omega) (by decide), ?_⟩
  rcases h.2.2.2 with z | z
  · exact .inl ⟨z, h.1⟩
  · exact .inr z
theorem ng_low {u d : Int} (hu : u.natAbs ≤ 64) (hd1 : 1 ≤ d) (hd : d ≤ 9) : NG 0 0 (lowF 0 u d) := by
  have hn : d ≠ 0 := by omega
  obtain ⟨hr, he⟩ := low0_red (u := u) hn
  obtain ⟨q1, q2, e, e1, e2⟩ := low0_eq (u := u) hn
  refine ⟨hr.1, ?_, ?_, .inl rfl⟩
  · have h1 : (lowF 0 u d).2 ∣ d := by
      rw [e]
      exact ⟨lowC u d, by rw [Int.mul_comm]; exact e2⟩
    refine Int.dvd_trans h1 ?_
    rcases (by omega : d = 1 ∨ d = 2 ∨ d = 3 ∨ d = 4 ∨ d = 5 ∨ d = 6 ∨ d = 7 ∨ d = 8 ∨ d = 9) with rfl | rfl | rfl | rfl | rfl | rfl | rfl | rfl | rfl <;> decide
  · have h2 := congrArg Int.natAbs he
    rw [Int.natAbs_mul, Int.natAbs_mul] at h2
    have h3 : (lowF 0 u d).1.natAbs * 1 ≤ (lowF 0 u d).1.natAbs * d.natAbs := Nat.mul_le_mul_left _ (by omega)
    rw [Nat.mul_one, h2] at h3
    refine Nat.le_trans h3 ?_
    rw [Nat.pow_zero, Nat.mul_one]
    exact Nat.mul_le_mul_right _ hu
/-- bounds for the operations -/
def PBd (a : Int × Int) : Prop := a.1.natAbs < 2 ^ 3000 ∧ a.2.natAbs < 2 ^ 3000 ∧ a.2 ≠ 0
def NumG (g : Int) (H : Hp) (v : V) (i : Nat) : Prop := ∃ a, NumV H v a ∧ NG g i a
def RowG (g : Int) (H : Hp) (v : V) (n i : Nat) : Prop := ∃ r, RowV H v r ∧ r.length = n ∧ ∀ a ∈ r, NG g i a
def TabG (g : Int) (H : Hp) (v : V) (m n i : Nat) : Prop := ∃ t, TabV H v t ∧ t.length = m ∧ ∀ r ∈ t, r.length = n ∧ ∀ a ∈ r, NG g i a
theorem NumG.kt {g : Int} {H H' : Hp} {v : V} {i : Nat} (h : NumG g H v i) (s : Kt H H') : NumG g H' v i := by
  obtain ⟨a, h1, h2⟩ := h
  exact ⟨a, h1.kt s, h2⟩
theorem RowG.kt {g : Int} {H H' : Hp} {v : V} {n i : Nat} (h : RowG g H v n i) (s : Kt H H') : RowG g H' v n i := by
  obtain ⟨a, h1, h2⟩ := h
  exact ⟨a, RowV.kt h1 s, h2⟩
theorem RowG.mono {g : Int} {H : Hp} {v : V} {n i j : Nat} (h : RowG g H v n i) (hj : i ≤ j) : RowG g H v n j := by
  obtain ⟨a, h1, h2, h3⟩ := h
  exact ⟨a, h1, h2, fun x hx => (h3 x hx).mono hj⟩
theorem TabG.kt {g : Int} {H H' : Hp} {v : V} {m n i : Nat} (h : TabG g H v m n i) (s : Kt H H') : TabG g H' v m n i := by
  obtain ⟨a, h1, h2⟩ := h
  exact ⟨a, TabV.kt h1 s, h2⟩
theorem rowG_mk {g : Int} {H : Hp} {p : Addr} {xs : List V} {n i : Nat} (hp : H p = some (.tup xs)) (hl : xs.length = n) (hx : ∀ x ∈ xs, NumG g H x i) : RowG g H (.ref p) n i := by
  obtain ⟨as, g1, g2, g3⟩ := sq_val (P := NumV) (S := NG g i) (H := H) (xs := xs) hx
  exact ⟨as, ⟨p, xs, rfl, hp, g1, g3⟩, by omega, g2⟩
theorem RowV.dat {K : PySem.W.Frag} {H : Hp} {v : V} {r : List (Int × Int)} (h : RowV H v r) : Dat K H v 2 := by
  obtain ⟨p, xs, rfl, hp, hl, hx⟩ := h
  refine dat_tup hp fun z hz => ?_
  obtain ⟨i, hi, e⟩ := List.mem_iff_getElem.mp hz
  have e1 : xs[i]? = some z := by rw [List.getElem?_eq_getElem hi, e]
  obtain ⟨q, rfl, hq⟩ := hx i z _ e1 (List.getElem?_eq_getElem (by omega))
  refine dat_tup hq fun w hw => ?_
  rcases List.mem_cons.mp hw with rfl | hw
  · exact dat_int
  · rw [List.mem_singleton.mp hw]; exact dat_int
theorem RowG.zeros {g : Int} {H : Hp} {u : Addr} {l : Addr} {n : Nat} (hg : g = 0 ∨ (3 ≤ g ∧ g ≤ 13)) (hu : H u = some (.tup [.int 0, .int 1])) (hl : H l = some (.tup (List.replicate n [V.ref u]).flatten)) : RowG g H (.ref l) n 0 := by
  rw [List.flatten_replicate_singleton] at hl
  refine rowG_mk hl List.length_replicate fun x hx => ?_
  rw [(List.mem_replicate.mp hx).2]
  refine ⟨(0, 1), ⟨u, rfl, hu⟩, by decide, by decide, by decide, ?_⟩
  rcases hg with z | z
  · exact .inl z
  · exact .inr ⟨z.1, z.2, rfl⟩
end Fm

namespace Fm
open PySem PySem.Spec PyProof.Rows L2
/-! ### bent things -/
def NK (kb : Nat) (H : Hp) (v : V) : Prop := ∃ a : Int × Int, NumV H v a ∧ a.1.natAbs < 2 ^ kb ∧ a.2.natAbs < 2 ^ kb
def RK (kb : Nat) (H : Hp) (v : V) : Prop := ∃ p xs, v = .ref p ∧ H p = some (.tup xs) ∧ 0 < xs.length ∧ xs.length ≤ 10 ∧ ∀ x ∈ xs, NK kb H x
def TK (kb : Nat) (H : Hp) (v : V) : Prop := ∃ p xs, v = .ref p ∧ H p = some (.tup xs) ∧ 0 < xs.length ∧ xs.length ≤ 10 ∧ ∀ x ∈ xs, RK kb H x
theorem NK.kt {kb : Nat} {H H' : Hp} {v : V} (h : NK kb H v) (s : Kt H H') : NK kb H' v := by
  obtain ⟨a, h1, h2⟩ := h
  exact ⟨a, h1.kt s, h2⟩
theorem RK.kt {kb : Nat} {H H' : Hp} {v : V} (h : RK kb H v) (s : Kt H H') : RK kb H' v := by
  obtain ⟨p, xs, e, hp, h1, h2, hx⟩ := h
  exact ⟨p, xs, e, s _ _ hp, h1, h2, fun x m => (hx x m).kt s⟩
theorem TK.kt {kb : Nat} {H H' : Hp} {v : V} (h : TK kb H v) (s : Kt H H') : TK kb H' v := by
  obtain ⟨p, xs, e, hp, h1, h2, hx⟩ := h
  exact ⟨p, xs, e, s _ _ hp, h1, h2, fun x m => (hx x m).kt s⟩
theorem lt_up {a : Int} {k l : Nat} (h : a.natAbs < 2 ^ k) (hl : k ≤ l) : a.natAbs < 2 ^ l := Nat.lt_of_lt_of_le h (Nat.pow_le_pow_right (by decide) hl)
theorem NK.tb {kb l : Nat} {H : Hp} {v : V} (h : NK kb H v) (hl : kb ≤ l) : TB l 1 H v := by
  obtain ⟨a, ⟨p, rfl, hp⟩, h1, h2⟩ := h
  refine TB.tup hp (by simp) fun x hx => ?_
  simp only [List.mem_cons, List.not_mem_nil, or_false] at hx
  rcases hx with rfl | rfl
  · exact .inl (lt_up h1 hl)
  · exact .inl (lt_up h2 hl)
theorem RK.tb {kb l : Nat} {H : Hp} {v : V} (h : RK kb H v) (hl : kb ≤ l) : TB l 2 H v := by
  obtain ⟨p, xs, rfl, hp, _, h2, hx⟩ := h
  exact TB.tup hp (by omega) fun x m => (hx x m).tb hl
theorem TK.tb {kb l : Nat} {H : Hp} {v : V} (h : TK kb H v) (hl : kb ≤ l) : TB l 3 H v := by
  obtain ⟨p, xs, rfl, hp, _, h2, hx⟩ := h
  exact TB.tup hp (by omega) fun x m => (hx x m).tb hl
theorem TB.a {k n : Nat} {H : Hp} {i : Int} (h : i.natAbs < 2 ^ k) : TB k n H (.int i) := TB.at h
theorem TB.tupA {k : Nat} {H : Hp} {p : Addr} {xs : List V} (h : H p = some (.tup xs)) (hz : xs.length ≤ 100) (hx : ∀ x ∈ xs, AtB k x) : TB k 1 H (.ref p) := TB.tup h hz fun x m => TB.at (hx x m)
theorem RowG.rk {g : Int} {H : Hp} {v : V} {n i kb : Nat} (h : RowG g H v n i) (hi : i ≤ 10) (hk : 40 ≤ kb) (hn : 0 < n) (hn2 : n ≤ 10) : RK kb H v := by
  obtain ⟨r, ⟨p, xs, e, hp, hl, hx⟩, hr, hg⟩ := h
  refine ⟨p, xs, e, hp, by omega, by omega, fun x m => ?_⟩
  obtain ⟨j, hj, ej⟩ := List.mem_iff_getElem.mp m
  have e1 : xs[j]? = some x := by rw [List.getElem?_eq_getElem hj, ej]
  have e2 : r[j]? = some (r[j]'(by omega)) := List.getElem?_eq_getElem (by omega)
  have ok := (hg _ (List.getElem_mem (show j < r.length by omega))).ok hi
  exact ⟨_, hx j x _ e1 e2, lt_up ok.1 hk, lt_up ok.2.1 hk⟩
theorem TabG.tk {g : Int} {H : Hp} {v : V} {m n i kb : Nat} (h : TabG g H v m n i) (hi : i ≤ 10) (hk : 40 ≤ kb) (hm : 0 < m) (hm2 : m ≤ 10) (hn : 0 < n) (hn2 : n ≤ 10) : TK kb H v := by
  obtain ⟨t, ⟨p, xs, e, hp, hl, hx⟩, ht, hg⟩ := h
  refine ⟨p, xs, e, hp, by omega, by omega, fun x mm => ?_⟩
  obtain ⟨j, hj, ej⟩ := List.mem_iff_getElem.mp mm
  have e1 : xs[j]? = some x := by rw [List.getElem?_eq_getElem hj, ej]
  have e2 : t[j]? = some (t[j]'(by omega)) := List.getElem?_eq_getElem (by omega)
  have hh := hg _ (List.getElem_mem (show j < t.length by omega))
  exact RowG.rk ⟨_, hx j x _ e1 e2, hh.1, hh.2⟩ hi hk hn hn2
theorem w_sl {r : V → Option Int → Option Int → Hp → VK → Prop} {te : TE} {tl th : TO} {σ : L2.St} {H : Hp} {Q : VK} (h : te σ H fun x H1 => tl σ H1 fun l H2 => th σ H2 fun u H3 => r x l u H3 Q) : tSl r te tl th σ H Q := h
theorem w_part {te : TE} {σ : L2.St} {H : Hp} {R : Option Int → Hp → Prop} (h : te σ H fun x H1 => ∃ i, x = .int i ∧ R (some i) H1) : tPart te σ H R := h
theorem w_nopart {σ : L2.St} {H : Hp} {R : Option Int → Hp → Prop} (h : R none H) : tNoPart σ H R := h
theorem w_exi {a : Int} {R : Int → Prop} (h : R a) : ∃ i, V.int a = .int i ∧ R i := ⟨a, rfl, h⟩
theorem TB.kd' {k n : Nat} {H H' : Hp} {v : V} (h : TB k n H v) (e : Kd H H') : TB k n H' v := TB.kd e h
end Fm

namespace Fm
open PySem PySem.Spec PyProof.Rows L2
/-! ### tables as data -/
def numD (a : Int × Int) : PyData := .tuple [.int a.1, .int a.2]
def rowD (r : List (Int × Int)) : PyData := .tuple (r.map numD)
theorem dpAll_of {α : Type} {K : PySem.W.Frag} {H : Hp} {f : α → PyData} : ∀ {xs : List V} {as : List α}, xs.length = as.length → (∀ (i : Nat) (x : V) (a : α), xs[i]? = some x → as[i]? = some a → Dp K H x (f a)) → DpAll K H xs (as.map f)
  | [], [], _, _ => .nil
  | [], _ :: _, h, _ => by cases h
  | _ :: _, [], h, _ => by cases h
  | x :: xs, a :: as, h, hx => .cons (hx 0 x a rfl rfl) (dpAll_of (by simpa using h) fun i y b h1 h2 => hx (i + 1) y b h1 h2)
theorem NumV.dp {K : PySem.W.Frag} {H : Hp} {v : V} {a : Int × Int} (h : NumV H v a) : Dp K H v (numD a) := by
  obtain ⟨p, rfl, hp⟩ := h
  exact .tup (SqT.of hp) (.cons (.int _) (.cons (.int _) .nil))
theorem RowV.dp {K : PySem.W.Frag} {H : Hp} {v : V} {r : List (Int × Int)} (h : RowV H v r) : Dp K H v (rowD r) := by
  obtain ⟨p, xs, rfl, hp, hl, hx⟩ := h
  exact .tup (SqT.of hp) (dpAll_of hl fun i x a h1 h2 => (hx i x a h1 h2).dp)
theorem TabV.dp {K : PySem.W.Frag} {H : Hp} {v : V} {t : List (List (Int × Int))} (h : TabV H v t) : Dp K H v (.tuple (t.map rowD)) := by
  obtain ⟨p, xs, rfl, hp, hl, hx⟩ := h
  exact .tup (SqT.of hp) (dpAll_of hl fun i x a h1 h2 => RowV.dp (hx i x a h1 h2))
theorem lay_num : ∀ (r : List (Int × Int)), PyData.canLayAll0 (r.map numD) = true ∧ PyData.depthAll (r.map numD) ≤ 1
  | [] => ⟨by simp [PyData.canLayAll0], by simp [PyData.depthAll]⟩
  | a :: r => by
    have ih := lay_num r
    refine ⟨?_, ?_⟩
    · rw [List.map_cons, PyData.canLayAll0, ih.1]
      simp [numD, PyData.canLay0, PyData.canLayAll0]
    · rw [List.map_cons, PyData.depthAll]
      have : (numD a).depth ≤ 1 := by simp [numD, PyData.depth, PyData.depthAll]
      have := ih.2
      omega
theorem lay_row : ∀ (t : List (List (Int × Int))), PyData.canLayAll0 (t.map rowD) = true ∧ PyData.depthAll (t.map rowD) ≤ 2
  | [] => ⟨by simp [PyData.canLayAll0], by simp [PyData.depthAll]⟩
  | r :: t => by
    have ih := lay_row t
    have h := lay_num r
    refine ⟨?_, ?_⟩
    · rw [List.map_cons, PyData.canLayAll0, ih.1]
      simp [rowD, PyData.canLay0, h.1]
    · rw [List.map_cons, PyData.depthAll]
      have : (rowD r).depth ≤ 2 := by rw [rowD, PyData.depth]; have := h.2; omega
      have := ih.2
      omega
theorem turn_len {l : Nat} {t : List (List (Int × Int))} : (turnF l t).length = l := by
  unfold turnF
  rw [List.length_map, List.length_range]
theorem NumV.nk {H : Hp} {v : V} {a : Int × Int} {k : Nat} (h : NumV H v a) (h1 : a.1.natAbs < 2 ^ k) (h2 : a.2.natAbs < 2 ^ k) : TB k 1 H v := NK.tb ⟨a, h, h1, h2⟩ (Nat.le_refl _)
theorem RowV.tb {H : Hp} {v : V} {r : List (Int × Int)} {k : Nat} (h : RowV H v r) (hl : r.length ≤ 100) (hb : ∀ a ∈ r, a.1.natAbs < 2 ^ k ∧ a.2.natAbs < 2 ^ k) : TB k 2 H v := by
  obtain ⟨p, xs, rfl, hp, hlx, hx⟩ := h
  refine TB.tup hp (by omega) fun x m => ?_
  obtain ⟨j, hj, ej⟩ := List.mem_iff_getElem.mp m
  have e1 : xs[j]? = some x := by rw [List.getElem?_eq_getElem hj, ej]
  have e2 : r[j]? = some (r[j]'(by omega)) := List.getElem?_eq_getElem (by omega)
  have b := hb _ (List.getElem_mem (show j < r.length by omega))
  exact (hx j x _ e1 e2).nk b.1 b.2
theorem TabV.tb {H : Hp} {v : V} {t : List (List (Int × Int))} {k : Nat} (h : TabV H v t) (hl : t.length ≤ 100) (hb : ∀ r ∈ t, r.length ≤ 100 ∧ ∀ a ∈ r, a.1.natAbs < 2 ^ k ∧ a.2.natAbs < 2 ^ k) : TB k 3 H v := by
  obtain ⟨p, xs, rfl, hp, hlx, hx⟩ := h
  refine TB.tup hp (by omega) fun x m => ?_
  obtain ⟨j, hj, ej⟩ := List.mem_iff_getElem.mp m
  have e1 : xs[j]? = some x := by rw [List.getElem?_eq_getElem hj, ej]
  have e2 : t[j]? = some (t[j]'(by omega)) := List.getElem?_eq_getElem (by omega)
  have b := hb _ (List.getElem_mem (show j < t.length by omega))
  exact RowV.tb (hx j x _ e1 e2) b.1 b.2
theorem row_true {H : Hp} {v : V} {r : List (Int × Int)} {g m : Int} (h : RowV H v r) (hl : (r.length : Int) = m) (hn : ∀ a ∈ r, numOk g [.int a.1, .int a.2] = true) : rowOf H g m v = true := by
  obtain ⟨p, xs, rfl, hp, hlx, hx⟩ := h
  rw [rowOf_tup hp, decide_eq_true (by omega), Bool.true_and, List.all_eq_true]
  intro x mm
  obtain ⟨j, hj, ej⟩ := List.mem_iff_getElem.mp mm
  have e1 : xs[j]? = some x := by rw [List.getElem?_eq_getElem hj, ej]
  have e2 : r[j]? = some (r[j]'(by omega)) := List.getElem?_eq_getElem (by omega)
  obtain ⟨q, rfl, hq⟩ := hx j x _ e1 e2
  rw [numOf_tup hq]
  exact hn _ (List.getElem_mem (show j < r.length by omega))
theorem tab_true {H : Hp} {v : V} {t : List (List (Int × Int))} {g m w : Int} (h : TabV H v t) (hl : (t.length : Int) = m) (hn : ∀ r ∈ t, (r.length : Int) = w ∧ ∀ a ∈ r, numOk g [.int a.1, .int a.2] = true) : tabOf H g m w v = true := by
  obtain ⟨p, xs, rfl, hp, hlx, hx⟩ := h
  rw [tabOf_tup hp, decide_eq_true (by omega), Bool.true_and, List.all_eq_true]
  intro x mm
  obtain ⟨j, hj, ej⟩ := List.mem_iff_getElem.mp mm
  have e1 : xs[j]? = some x := by rw [List.getElem?_eq_getElem hj, ej]
  have e2 : t[j]? = some (t[j]'(by omega)) := List.getElem?_eq_getElem (by omega)
  have b := hn _ (List.getElem_mem (show j < t.length by omega))
  exact row_true (hx j x _ e1 e2) b.1 b.2
end Fm

namespace Fm
open PySem PySem.Spec PyProof.Rows L2
/-! ### whole roots -/
def RootOf (n r : Nat) : Prop := r * r ≤ n ∧ n < (r + 1) * (r + 1)
theorem root_uniq {n r s : Nat} (h1 : RootOf n r) (h2 : RootOf n s) : r = s := by
  rcases Nat.lt_trichotomy r s with h | h | h
  · have : (r + 1) * (r + 1) ≤ s * s := Nat.mul_le_mul h h
    have := h1.2
    have := h2.1
    omega
  · exact h
  · have : (s + 1) * (s + 1) ≤ r * r := Nat.mul_le_mul h h
    have := h2.2
    have := h1.1
    omega
theorem four_mul (a b : Nat) : 4 * (a * b) ≤ (a + b) * (a + b) := by
  rcases Nat.le_total a b with h | h
  · obtain ⟨d, rfl⟩ := Nat.exists_eq_add_of_le h
    have e : (a + (a + d)) * (a + (a + d)) = 4 * (a * (a + d)) + d * d := by grind
    omega
  · obtain ⟨d, rfl⟩ := Nat.exists_eq_add_of_le h
    have e : (b + d + b) * (b + d + b) = 4 * ((b + d) * b) + d * d := by grind
    omega
/-- a step of Newton's stays above the root -/
theorem newton_ge {n g : Nat} (hg : 0 < g) : n < ((g + n / g) / 2 + 1) * ((g + n / g) / 2 + 1) := by
  have h1 : n < g * (n / g + 1) := Nat.lt_mul_div_succ n hg
  have h2 := four_mul g (n / g + 1)
  generalize n / g = q at h1 h2 ⊢
  have h3 : g + (q + 1) ≤ 2 * ((g + q) / 2 + 1) := by omega
  have h4 : (g + (q + 1)) * (g + (q + 1)) ≤ (2 * ((g + q) / 2 + 1)) * (2 * ((g + q) / 2 + 1)) := Nat.mul_le_mul h3 h3
  generalize (g + q) / 2 + 1 = s at h4 ⊢
  have e : (2 * s) * (2 * s) = 4 * (s * s) := by grind
  omega
/-- where a step does not go down, the root is reached -/
theorem newton_end {n g : Nat} (hg : 0 < g) (h : ¬ (g + n / g) / 2 < g) : g * g ≤ n := by
  have h1 : g ≤ n / g := by omega
  exact (Nat.le_div_iff_mul_le hg).mp h1
end Fm

namespace Fm
open PySem PySem.Spec PyProof.Rows L2
section
variable {prog : Program} {w : World} {A : Around} {E : Value → Shared → Prop} {s : Shared}
/-- no item is left while another exception is handled: StopIteration gets that one as its context -/
theorem stops_hot {α : Type} {x1 : Addr} {Q : α → Shared → Prop} (hot : HotX.HotAt A x1 s.heap)
    (hf : ∀ (e : Addr) (h' : Heap) (o : Obj), h'.get? e = some o → o.cls = .type "StopIteration" → (∀ b u, s.heap.get? b = some u → h'.get? b = some u) → E (.ref e) { s with heap := h' }) :
    wpAny (model prog w) A (newExc (.type "StopIteration") [] >>= fun v => (raiseNew v : Sem α)) Q E s := by
  obtain ⟨hh, o1, v1, g1, d1, c1⟩ := hot
  refine wpAny_bind ?_
  simp only [newExc, newTuple]
  refine wpAny_bind (wpAny_newObj_type ?q1 (by size_fits))
  refine wpAny_bind (m := firstArgMember _ _) (wpAny_of_eq (a := Value.none) (by first | rfl | (simp only [firstArgMember]; rfl)) ?q2)
  refine wpAny_newObj_type ?q3 (by size_fits)
  have up : ∀ (u : Obj) (v : Obj) b z, s.heap.get? b = some z → ((s.heap.push u).push v).get? b = some z := fun u v b z e => Heap.get?_push_of_some v (Heap.get?_push_of_some u e)
  refine HotX.raiseNew_hot ⟨hh, o1, v1, up _ _ _ _ g1, d1, c1⟩ ?ne (Heap.get?_push_size _ rfl) rfl ?sz ?fin
  case ne => exact Nat.ne_of_lt (Heap.lt_size (Heap.get?_push_of_some _ g1))
  case sz => first | (simp; done) | (simp; omega) | (simp only [Array.size_append]; simp; omega)
  case fin =>
    refine hf _ _ _ (Heap.get?_update_self _ (Heap.get?_push_size _ rfl) rfl) rfl fun b u e => ?_
    rw [Heap.get?_update_other _ _ (Nat.ne_of_gt (Heap.lt_size (Heap.get?_push_of_some _ e)))]
    exact up _ _ _ _ e
/-- the list's iterator is at its end, an exception being handled -/
theorem list_end_hot {it l x1 : Addr} {i : Nat} {items : Array Value} {Q : Option Value → Shared → Prop} (hot : HotX.HotAt A x1 s.heap) (ne : x1 ≠ it) (st : s.heap.IsListIter it l i) (hl : s.heap.IsList l items) (out : items[i]? = none)
    (k : ∀ h', Heap.ExtBut it s.heap h' → Q none { s with heap := h' }) : wpAny (model prog w) A (pyNext (.ref it)) Q E s := by
  obtain ⟨oi, gi, ci, di⟩ := id st
  obtain ⟨ol, gl, _, nl, dl⟩ := hl
  obtain ⟨hh, o1, v1, g1, d1, c1⟩ := hot
  have nn : ¬ ((Value.ref l == Value.none) = true) := Bool.false_ne_true
  unfold pyNext
  refine wpAny_bind (wpAny_attempt (wpAny_callSpecial?_slot (name := Str.ofString "__next__") st.typeIs slot_listiter_next (wpAny_call_entry slot_listiter_next st.typeIs entry_listiter_next ?go (args_listiter_next _))))
  show wpAny _ _ (field (.ref it) 0 >>= _) _ _ s
  refine wpAny_bind (wpAny_field gi di (x := .ref l) rfl ?_)
  show wpAny _ _ (if (Value.ref l == Value.none) = true then _ else _) _ _ s
  rw [if_neg nn]
  show wpAny _ _ (field (.ref it) 1 >>= _) _ _ s
  refine wpAny_bind (wpAny_field gi di (x := .int i 0) rfl ?_)
  show wpAny _ _ (seqItems? (.ref l) >>= _) _ _ s
  refine wpAny_bind (wpAny_seqItems gl dl ?_)
  simp only [Int.toNat_natCast, out]
  refine wpAny_bind (wpAny_rule (wpAny_bind (wpAny_setField gi di (by simp) ?_)))
  refine stops_hot (x1 := x1) ⟨hh, o1, v1, (Heap.get?_update_other _ _ (Ne.symm ne)).trans g1, d1, c1⟩ fun e h' o ge ce kp => ?_
  refine wpAny_bind (wpAny_isInstance (T := "StopIteration") (b := true) ⟨o, ge, ce⟩ isSubtype_stop ?_)
  refine wpAny_pure (k h' fun b u hb eb => kp b u ?_)
  exact (Heap.get?_update_other _ _ (Ne.symm hb)).trans eb
/-- the same of a tuple -/
theorem tup_end_hot {it t x1 : Addr} {i : Nat} {items : Array Value} {Q : Option Value → Shared → Prop} (hot : HotX.HotAt A x1 s.heap) (ne : x1 ≠ it) (st : IsTupIter s.heap it t i) (hl : IsTup s.heap t items) (out : items[i]? = none)
    (k : ∀ h', Heap.ExtBut it s.heap h' → Q none { s with heap := h' }) : wpAny (model prog w) A (pyNext (.ref it)) Q E s := by
  obtain ⟨oi, gi, ci, di⟩ := id st
  obtain ⟨ol, gl, _, nl, dl⟩ := hl
  obtain ⟨hh, o1, v1, g1, d1, c1⟩ := hot
  have nn : ¬ ((Value.ref t == Value.none) = true) := Bool.false_ne_true
  unfold pyNext
  refine wpAny_bind (wpAny_attempt (wpAny_callSpecial?_slot (name := Str.ofString "__next__") st.typeIs slot_tupleiter_next (wpAny_call_entry slot_tupleiter_next st.typeIs entry_tupleiter_next ?go (args_tupleiter_next _))))
  show wpAny _ _ (field (.ref it) 0 >>= _) _ _ s
  refine wpAny_bind (wpAny_field gi di (x := .ref t) rfl ?_)
  show wpAny _ _ (if (Value.ref t == Value.none) = true then _ else _) _ _ s
  rw [if_neg nn]
  show wpAny _ _ (field (.ref it) 1 >>= _) _ _ s
  refine wpAny_bind (wpAny_field gi di (x := .int i 0) rfl ?_)
  show wpAny _ _ (seqItems? (.ref t) >>= _) _ _ s
  refine wpAny_bind (wpAny_seqItems gl dl ?_)
  simp only [Int.toNat_natCast, out]
  refine wpAny_bind (wpAny_rule (wpAny_bind (wpAny_setField gi di (by simp) ?_)))
  refine stops_hot (x1 := x1) ⟨hh, o1, v1, (Heap.get?_update_other _ _ (Ne.symm ne)).trans g1, d1, c1⟩ fun e h' o ge ce kp => ?_
  refine wpAny_bind (wpAny_isInstance (T := "StopIteration") (b := true) ⟨o, ge, ce⟩ isSubtype_stop ?_)
  refine wpAny_pure (k h' fun b u hb eb => kp b u ?_)
  exact (Heap.get?_update_other _ _ (Ne.symm hb)).trans eb
/-- a tuple's items come to names, an exception being handled -/
theorem unpack_hot {t x1 : Addr} {items : Array Value} {env : Env} {elts : List Expr} {kk} {pos : Pos} {Q : Unit → Shared → Prop} (hot : HotX.HotAt A x1 s.heap) (hl : IsTup s.heap t items)
    (hn : (assignEach elts env).length = items.size) (hst : (assignEach elts env).findIdx? (·.1) = none)
    (k : ∀ h', Heap.ExtBut s.heap.objs.size s.heap h' → wpAny (model prog w) A (assignInOrder ((assignEach elts env).map (·.2)) items.toList) Q E { s with heap := h' }) :
    wpAny (model prog w) A (assign (.Tuple elts kk pos) env (.ref t)) Q E s := by
  have lt : t ≠ s.heap.objs.size := by
    obtain ⟨o, ho, _⟩ := hl
    exact Nat.ne_of_lt (Heap.lt_size ho)
  obtain ⟨hh, o1, v1, g1, d1, c1⟩ := hot
  have n1 : x1 ≠ s.heap.objs.size := Nat.ne_of_lt (Heap.lt_size g1)
  rw [assign_Tuple]
  refine wpAny_bind (wpAny_standAt ?_)
  unfold unpack
  rw [hn, hst]
  refine wpAny_bind (wpAny_holding ?_)
  unfold unpackItems
  refine wpAny_bind ?_
  unfold notIterableAtAll
  refine wpAny_bind (wpAny_specialOf hl.typeIs slot_tuple_iter.lookup (wpAny_pure ?_))
  simp only [Bool.false_eq_true, if_false]
  refine wpAny_bind (wpAny_holding (iter_tuple hl (wpAny_bind (wpAny_holding (draw_tuple lt items.size 0 _ _ ⟨_, Heap.get?_push_size _ rfl, rfl, rfl⟩ (hl.push _) (by omega) fun h2 st2 sb2 => ?_)))))
  rw [List.drop_zero, List.take_of_length_le (by simp), if_neg (by simp)]
  have ht2 : IsTup h2 t items := (hl.push _).extBut sb2.extBut lt
  have g2 : h2.get? x1 = some o1 := (sb2.2 x1 n1).trans (Heap.get?_push_of_some _ g1)
  refine wpAny_bind (wpAny_holding (tup_end_hot (x1 := x1) ⟨hh, o1, v1, g2, d1, c1⟩ n1 st2 ht2 (by simp) fun h3 e3 => ?_))
  simp only [Option.isSome_none, Bool.false_eq_true, if_false]
  refine wpAny_pure (k h3 fun b o hb e => e3 b o hb (sb2.extBut b o hb (Heap.get?_push_of_some _ e)))
end
end Fm

namespace Fm
open PySem PySem.Spec PyProof.Rows L2
/-- a, b = a pair, while an exception is handled -/
theorem pg_tupH {X : Cx} {es : List Expr} {kk : Nat} {t : TGs} {n : Nat} {pos : Pos} (hc : L2H.HotC X) (h : PGs X es t) (hn : (assignEach es X.env).length = n := by rfl) (hst : (assignEach es X.env).findIdx? (·.1) = none := by rfl) :
    PG X (.Tuple es kk pos) (gTup X.K n t) := by
  refine ⟨fun pins s σ H v u Q I r hw => ?_⟩
  obtain ⟨a, xs, rfl, hq, hl, hw⟩ := hw
  cases r
  obtain ⟨its, rv, ht, _⟩ := I.tuple hq
  obtain ⟨x1, hot⟩ := hc.at I
  refine unpack_hot hot ht (by simp [hn, ← hl, rv.length]) hst fun h' hx => ?_
  exact h.run pins _ σ H xs _ Q (I.kept (t' := s.toks) fun b o e => hx b o (Nat.ne_of_lt (Heap.lt_size e)) e) (by simpa using rv) hw
/-- [elt for target in a list if ..] while an exception is handled: D the new list, W by the turn -/
def tLcH (K : PySem.W.Frag) (ti : TE) (g : TG) (tt : TT) (te : TE) (vs : List Nat) : TE := fun σ H Q => ti σ H fun v H1 => ∃ (a : Addr) (xs : List V), v = .ref a ∧ SqL K H1 a xs ∧ ∀ D, H1 D = none → ∃ W : Nat → Hp → Prop,
  W 0 (upd H1 D (.lst [])) ∧ (∀ i H', W i H' → SqL K H' a xs) ∧ (∀ H', W xs.length H' → Q (.ref D) H') ∧ ∀ i x H', xs[i]? = some x → W i H' → g x (wipe σ vs) H' fun σ2 H2 => wipe σ2 vs = wipe σ vs ∧ tt σ2 H2 fun b H3 =>
    if b = true then te σ2 H3 fun y H4 => ∃ acc, H4 D = some (.lst acc) ∧ acc.length < sizeLine ∧ W (i + 1) (upd H4 D (.lst (acc ++ [y]))) else W (i + 1) H3
/-- the block's context: the handled exception is pinned in it -/
abbrev blkH (X : Cx) (p : Addr × Obj) (s : Shared) (H : Hp) (scope : Scope) (cenv : Env) (fp : List Addr) : Cx := (X.blk s H scope cenv fp).tr [p] (fun _ _ => False)
section
variable {X : Cx}
theorem hot_blk {p : Addr × Obj} {s : Shared} {H : Hp} {scope : Scope} {cenv : Env} {fp : List Addr} (h : L2H.Hot1 X.A p) : L2H.HotC (blkH X p s H scope cenv fp) := ⟨p, h, List.mem_cons_self⟩
theorem lc_hot {pins : List (Addr × Obj)} {s : Shared} {σ : L2.St} {H : Hp} {Q : VK} {elt tg iter : Expr} {ifs : List Expr} {scope : Scope} {own : List (Str × Nat)} {pos pos' : Pos} {ti : TE} {g : TG} {tt : TT} {te : TE} {use : Option (Value → Sem Unit)} {Qf : Value → Shared → Prop} {p : Addr × Obj}
    (hp : L2H.Hot1 X.A p) (hpn : p ∈ X.pn) (hN : X.N.Nodup) (I : Inv X pins σ H s) (hi : PE X iter ti) (ok : BlkOk X.N X.env.scope scope own)
    (hg : ∀ (s : Shared) (H : Hp) (C : Addr) (cl : List (Str × Addr)) (fp : List Addr), PG (blkH X p s H scope (compEnvC scope cl C X.env) fp) tg g)
    (ht : ∀ (s : Shared) (H : Hp) (C : Addr) (cl : List (Str × Addr)) (fp : List Addr), PTs (blkH X p s H scope (compEnvC scope cl C X.env) fp) ifs tt)
    (he : ∀ (s : Shared) (H : Hp) (C : Addr) (cl : List (Str × Addr)) (fp : List Addr), PE (blkH X p s H scope (compEnvC scope cl C X.env) fp) elt te)
    (hs : ∀ x, foldedSetIterable iter X.env x = pure x) (h : tLcH X.K ti g tt te (own.map (·.2)) σ H Q)
    (hRR : ∀ D C s' m H', Inv X pins σ H' s' → Q (.ref D) H' → s'.heap.Ns C m → FpOk X pins H' C → compPost (model X.prog X.w) X.A X.xe use Qf (.ref D) C (.ok .next) s') :
    wpAny (model X.prog X.w) X.A (comprehension (.ListComp elt [⟨tg, iter, ifs, 0⟩] scope pos) scope X.env pos' (newList []) false (eval iter X.env) use) Qf X.xe s := by
  have hfr : ∀ y ∈ scope.names, y.2 = .free → ∃ c, X.env.cells.lookup y.1 = some c := fun y hy e => (ok.free y hy e).elim (fun z => I.ok.has _ (.inl z)) fun z => I.ok.has _ (.inr z)
  refine wpAny_comprehension_free (use := use) rfl hs (closure_ok hfr) ok.kind (fun y hy e => by rw [ok.uniq y hy, e]) (thn (hi.run pins s σ H _ I h) fun xv s1 hx => ?_)
  obtain ⟨v, H1, I1, rv1, a, xs, rfl, hq, hD⟩ := hx
  cases rv1
  obtain ⟨its, rvs, pl, _⟩ := I1.list hq
  have hln := rvs.length
  refine wpAny_pyIter_list pl.isList ?_
  generalize hit : s1.heap.objs.size = it
  generalize hs2 : ({ s1 with heap := s1.heap.push { cls := .type "list_iterator", data := .fields #[.ref a, .int 0 0] } } : Shared) = s2
  have h2 : s2.heap = s1.heap.push { cls := .type "list_iterator", data := .fields #[.ref a, .int 0 0] } := by rw [← hs2]
  have I2 : Inv X pins σ H1 s2 := by
    rw [← hs2]
    exact I1.kept (t' := s1.toks) fun b o e => Heap.get?_push_of_some _ e
  have st2 : s2.heap.IsListIter it a 0 := by
    rw [h2, ← hit]
    exact ⟨_, Heap.get?_push_size _ rfl, rfl, rfl⟩
  have f2 : FpOk X pins H1 it := I1.fpOk (Nat.le_of_eq hit) (I1.hok.fresh (Nat.le_of_eq hit))
  refine wpAny_newObj_type (newEnv_comp ?_) (by show 0 ≤ sizeLine; decide)
  generalize hDD : s2.heap.objs.size = D
  obtain ⟨W, w0, wl, wd, ws⟩ := hD D (I2.hok.fresh (Nat.le_of_eq hDD))
  have ltit : it < s2.heap.objs.size := by rw [h2, Heap.size_push, hit]; exact Nat.lt_succ_self _
  generalize hs3 : ({ s2 with heap := s2.heap.push { cls := .type "list", data := .seq ([] : List Value).toArray } } : Shared) = s3
  have h3 : s3.heap = s2.heap.push { cls := .type "list", data := .seq ([] : List Value).toArray } := by rw [← hs3]
  have I3 : Inv X pins σ (upd H1 D (.lst [])) s3 := by
    rw [← hs3]
    refine I2.laid (t' := s2.toks) (fun b o e => Heap.get?_push_of_some _ e) (Nat.le_of_eq hDD) ⟨Nat.zero_le _, [], 0, .nil, ?_⟩
    rw [← hDD]
    exact Heap.get?_push_size _ rfl
  have nD : it ≠ D := by rw [← hDD]; exact Nat.ne_of_lt ltit
  have f3 : ∀ b ∈ [it], FpOk X pins (upd H1 D (.lst [])) b ∧ b < s3.heap.objs.size := fun b hb => by
    obtain rfl : b = it := by simpa using hb
    refine ⟨⟨?_, f2.2⟩, by rw [h3, Heap.size_push]; exact Nat.lt_succ_of_lt ltit⟩
    rw [upd_ne nD]
    exact f2.1
  have st3 : s3.heap.IsListIter it a 0 := st2.at fun o e => by rw [h3]; exact Heap.get?_push_of_some _ e
  have I4 := block_start I3 ok hN f3
  generalize hcl : cellsFrom (s3.heap.objs.size + 1) scope.names (cloFrom X.env.cells scope.names []) = cl at I4
  show codeAny _ _ (.compStart (.ListComp elt [⟨tg, iter, ifs, 0⟩] scope pos) 0 (.ref it) (.ref D) (compEnvC scope cl s3.heap.objs.size X.env)) (compPost (model X.prog X.w) X.A X.xe use Qf (.ref D) s3.heap.objs.size) { s3 with heap := pushCells (s3.heap.push { cls := .type "dict", data := .dict #[] }) scope.names }
  have pg := hg s3 (upd H1 D (.lst [])) s3.heap.objs.size cl [it]
  have pt := ht s3 (upd H1 D (.lst [])) s3.heap.objs.size cl [it]
  have pe := he s3 (upd H1 D (.lst [])) s3.heap.objs.size cl [it]
  generalize hce : compEnvC scope cl s3.heap.objs.size X.env = ce at I4 pg pt pe ⊢
  have cL : ce.locals = s3.heap.objs.size := by subst hce; rfl
  generalize hs4 : ({ s3 with heap := pushCells (s3.heap.push { cls := .type "dict", data := .dict #[] }) scope.names } : Shared) = s4 at I4 ⊢
  have kp4 : ∀ b o, s3.heap.get? b = some o → s4.heap.get? b = some o := fun b o e => by rw [← hs4]; exact pushCells_keeps _ _ _ _ (Heap.get?_push_of_some _ e)
  have st4 : s4.heap.IsListIter it a 0 := st3.at fun o e => kp4 _ _ e
  obtain ⟨pg3, pn3, pl3, pf3, pc3⟩ := I3.pin p (List.mem_append_left _ hpn)
  have ps3 : p.1 ∉ frs X.stack := fun z => by
    rcases I3.ok.stk with e | ⟨e, ef⟩
    · rw [e] at z
      exact pf3 z
    · rw [e] at z
      obtain ⟨en, hen, q⟩ := List.mem_filterMap.mp z
      rcases List.mem_cons.mp hen with e1 | e1
      · rw [e1, ef] at q
        exact pl3 (Option.some.inj q).symm
      · exact pf3 (List.mem_filterMap.mpr ⟨en, e1, q⟩)
  have hlt3 := Heap.lt_size pg3
  generalize hH3 : upd H1 D (.lst []) = H3 at I3 I4 pg pt pe w0 f3 pn3
  have J4 : Inv (blkH X p s3 H3 scope ce [it]) [] (wipe σ (own.map (·.2))) H3 s4 :=
    ⟨I4.ok.toTry _ _, I4.os, I4.bare, I4.base, I4.loc, I4.cell, I4.free, I4.freeC, fun q hq => by
      obtain rfl : q = p := by simpa using hq
      exact ⟨kp4 _ _ pg3, pn3, by show q.1 ≠ ce.locals; rw [cL]; exact Nat.ne_of_lt hlt3, ps3, pc3⟩, I4.hok, I4.len⟩
  have npit : p.1 ≠ it := f2.2.2.2.2.2 p (List.mem_append_left _ hpn)
  have stat : ∀ {σ' : L2.St} {H' : Hp} {s' : Shared}, Inv (blkH X p s3 H3 scope ce [it]) [] σ' H' s' → H' it = none → ∀ b ∈ [it], FpOk (blkH X p s3 H3 scope ce [it]) [] H' b := fun {σ' H' s'} I' hn b hb => by
    obtain rfl : b = it := by simpa using hb
    refine ⟨hn, (I'.ok.exf b hb).1, I'.ok.exfs b hb, .inl hb, fun x c e => (I'.ok.exf b hb).2 x c e, fun q hq => ?_⟩
    obtain rfl : q = p := by simpa using hq
    exact npit
  have n3 : H3 it = none := (f3 it (by simp)).1.1
  have go : codeAny (model X.prog X.w) X.A (.compLoop (.ListComp elt [⟨tg, iter, ifs, 0⟩] scope pos) 0 (.ref it) (.ref D) ce) (compPost (model X.prog X.w) X.A X.xe use Qf (.ref D) s3.heap.objs.size) s4 := by
    refine compLoop_any (fun n s' => ∃ i H', n = xs.length - i ∧ i ≤ xs.length ∧ Inv (blkH X p s3 H3 scope ce [it]) [] (wipe σ (own.map (·.2))) H' s' ∧ s'.heap.IsListIter it a i ∧ H' it = none ∧ W i H') ?_ xs.length ⟨0, H3, rfl, Nat.zero_le _, J4, st4, n3, w0⟩
    rintro n s5 ⟨i, H5, rfl, hle, I5, st5, n5, w5⟩
    have hq5 := wl i H5 w5
    obtain ⟨its5, rv5, pl5, _⟩ := I5.list hq5
    have hl5 := rv5.length
    obtain ⟨f0, f1, f4, f6, f7, f8⟩ := stat I5 n5 it (by simp)
    by_cases hlt : i < xs.length
    · have hxi : xs[i]? = some xs[i] := List.getElem?_eq_getElem hlt
      obtain ⟨u, hu, ru⟩ := rv5.get hxi
      refine thnF (wpAny_pyNext_list_item (E := fun _ _ => False) st5 pl5.isList (x := u) (by simpa using hu) (Q := fun r s6 => r = some u ∧ ∃ h', s6 = { s5 with heap := h' } ∧ h'.IsListIter it a (i + 1) ∧ Heap.SameBut it s5.heap h') fun h' st' sb => ⟨rfl, h', rfl, st', sb⟩) fun r s6 hr => ?_
      obtain ⟨rfl, h6, rfl, st6, sb6⟩ := hr
      have I6 : Inv (blkH X p s3 H3 scope ce [it]) [] (wipe σ (own.map (·.2))) H5 { s5 with heap := h6 } := I5.turned (t' := s5.toks) (fun b o hb e => (sb6.2 b hb).trans e) f0 f1 f6 f7 f8
      obtain ⟨oi, ei, ci, di⟩ := id st6
      refine go_of (s := { s5 with heap := h6 }) ei ci di (by decide) ?_
      have I7 := I6.pinned (fp := [it]) (stat I6 n5) fun b hb => by
        obtain rfl : b = it := by simpa using hb
        exact ⟨oi, ei, fun v z => by rw [di] at z; cases z⟩
      refine thnF (pg.run _ _ _ H5 xs[i] u _ I7 ru (ws i _ H5 hxi w5)) fun _ s8 hr8 => ?_
      obtain ⟨σ8, H8, I8, hw8, q8⟩ := hr8
      refine thnF (pt.run _ s8 σ8 H8 _ I8 q8) fun b s9 hr9 => ?_
      obtain ⟨H9, I9, q9⟩ := hr9
      have fin : ∀ {s' : Shared} {H' : Hp}, Inv (blkH X p s3 H3 scope ce [it]) ([] ++ pinsAt [it] h6) σ8 H' s' → W (i + 1) H' → ∃ m, m < xs.length - i ∧ ∃ i H', m = xs.length - i ∧ i ≤ xs.length ∧ Inv (blkH X p s3 H3 scope ce [it]) [] (wipe σ (own.map (·.2))) H' s' ∧ s'.heap.IsListIter it a i ∧ H' it = none ∧ W i H' := fun {s' H'} I' w' => by
        have z := I'.pin (it, oi) (List.mem_append_right _ (List.mem_append_right _ (mem_pinsAt (by simp) ei)))
        refine ⟨xs.length - (i + 1), by omega, i + 1, H', rfl, hlt, (I'.unpinned (pins := [])).weak (by rw [← hw8, wipe_length]) (fun j v e => ?_), st6.at fun o e => ?_, z.2.1, w'⟩
        · rw [← hw8] at e
          exact (wipe_some e).1
        · have e' : h6.get? it = some o := e
          rw [ei] at e'
          cases e'
          exact z.1
      cases b with
      | false =>
        simp only [Bool.false_eq_true, if_false] at q9 ⊢
        exact fin I9 q9
      | true =>
        simp only [if_true] at q9 ⊢
        refine thnF (pe.run _ s9 σ8 H9 _ I9 q9) fun z s10 hr10 => ?_
        obtain ⟨yv, H10, I10, r10, acc, hD10, hz10, nx⟩ := hr10
        exact app_ok (X := blkH X p s3 H3 scope ce [it]) I10 hD10 hz10 r10 fun s11 I11 => fin I11 nx
    · have ei : i = xs.length := by omega
      obtain ⟨x1, hot⟩ := (hot_blk (X := X) (p := p) (s := s3) (H := H3) (scope := scope) (cenv := ce) (fp := [it]) hp).at I5
      have hx1 : x1 ≠ it := by
        have e : X.A.handled = some (.ref x1) := hot.1
        rw [hp.1] at e
        cases e
        exact npit
      refine thnF (list_end_hot (E := fun _ _ => False) hot hx1 st5 pl5.isList (by simp; omega) (Q := fun r s6 => r = none ∧ Inv (blkH X p s3 H3 scope ce [it]) [] (wipe σ (own.map (·.2))) H5 s6) fun h' eb => ⟨rfl, I5.turned (t' := s5.toks) (fun b o hb e => eb b o hb e) f0 f1 f6 f7 f8⟩) fun r s6 hr => ?_
      obtain ⟨rfl, I6⟩ := hr
      have I7 : Inv X pins σ H5 s6 := I3.call' (ch := [it]) I6.os I6.base I6.hok I6.bare fun b hb => ⟨(f3 b hb).1.2.2.2.1, (f3 b hb).1.2.1, (f3 b hb).1.2.2.2.2.1, (f3 b hb).1.2.2.2.2.2⟩
      obtain ⟨m, hn, _⟩ := I6.loc
      have hn : s6.heap.Ns ce.locals m := hn
      have nC : H5 ce.locals = none := I6.free
      rw [cL] at hn nC
      rw [ei] at w5
      exact hRR D s3.heap.objs.size s6 m H5 I7 (wd H5 w5) hn (I3.fpOk (Nat.le_refl _) nC)
  exact codeAny_compStart_list go (wpAny_pyIter_listiter st4 go)
end
end Fm

namespace Fm
open PySem PySem.Spec PyProof.Rows L2
section
variable {X : Cx}
/-- name = [..] while an exception is handled -/
theorem ps_setLcH {i : Nat} {y : Str} {py : Pos} {elt tg iter : Expr} {ifs : List Expr} {scope : Scope} {own : List (Str × Nat)} {pos spos : Pos} {ti : TE} {g : TG} {tt : TT} {te : TE} {p : Addr × Obj} (hp : L2H.Hot1 X.A p) (hpn : p ∈ X.pn) (hN : X.N.Nodup) (hy : X.N[i]? = some y) (hyl : X.env.scope.names.lookup y = some .local)
    (hsw : swapsWith (.ListComp elt [⟨tg, iter, ifs, 0⟩] scope pos) (some (.Name y py)) spos.line X.env = pure true) (hi : PE X iter ti) (ok : BlkOk X.N X.env.scope scope own)
    (hg : ∀ (s : Shared) (H : Hp) (C : Addr) (cl : List (Str × Addr)) (fp : List Addr), PG (blkH X p s H scope (compEnvC scope cl C X.env) fp) tg g)
    (ht : ∀ (s : Shared) (H : Hp) (C : Addr) (cl : List (Str × Addr)) (fp : List Addr), PTs (blkH X p s H scope (compEnvC scope cl C X.env) fp) ifs tt)
    (he : ∀ (s : Shared) (H : Hp) (C : Addr) (cl : List (Str × Addr)) (fp : List Addr), PE (blkH X p s H scope (compEnvC scope cl C X.env) fp) elt te)
    (hs : ∀ x, foldedSetIterable iter X.env x = pure x := by intro _; rfl) :
    PS X (.Assign [.Name y py] (.ListComp elt [⟨tg, iter, ifs, 0⟩] scope pos) spos) (tAsg (tLcH X.K ti g tt te (own.map (·.2))) (gName i)) := by
  refine ⟨fun pins s σ H D I h0 => ?_⟩
  have h : tLcH X.K ti g tt te (own.map (·.2)) σ H (fun x H1 => gName i x σ H1 D.nx) := h0
  rw [exec_Assign_Name_used _ _ _ _ hsw]
  refine wpAny_bind (wpAny_standAt (wpAny_bind ?_))
  show wpAny _ X.A (do let _ ← comprehension (.ListComp elt [⟨tg, iter, ifs, 0⟩] scope pos) scope X.env (firstIterPos [⟨tg, iter, ifs, 0⟩] pos) (newList []) false (eval iter X.env) (some (assign (.Name y py) X.env))) _ _ s
  refine wpAny_bind (thn (lc_hot (Qf := fun _ s' => SP X pins D .next s') hp hpn hN I hi ok hg ht he hs h fun L C s' m H' I' q hn f => ?fin) fun _ s' hq => wpAny_pure (wpAny_pure hq))
  obtain ⟨f0, f1, f2, f3, f4, f5⟩ := f
  show wpAny _ _ (assign (.Name y py) X.env (.ref L)) _ _ _
  refine wpAny_assign_Name (store_ok2 (v := V.ref L) I' hN hy (.inl hyl) rfl (fun s2 I2 hx => ?_) (.inr hyl))
  obtain ⟨a, sb, ha⟩ := hx
  have nCa : C ≠ a := ha.elim (fun z => by rw [z]; exact f1) fun z e => f4 y a z e.symm
  exact ⟨m, hn.sameBut sb nCa, fun h3 sb3 => ⟨_, H', I2.turned (t' := s2.toks) (fun b o hb e => (sb3.2 b hb).trans e) f0 f1 f3 f4 f5, q⟩⟩
/-- an exception that came out of a try's body, looked at by its clauses: sI is the state without it -/
structure Gd (X : Cx) (pins : List (Addr × Obj)) (σ : L2.St) (H : Hp) (B : Heap) (sI : Shared) (a : Addr) (cls : Value) (d : Option Addr) (s : Shared) : Prop where
  inv : Inv X pins σ H sI
  nb : ∀ b o, sI.heap.get? b = some o → b ∉ frs X.stack → B.get? b = some o
  up : sI.heap.UpToSlots s.heap
  fl : HandSPX.FlyingZ B (X.env :: X.outer) a (L2N.Zn cls d) s.heap
  na : H a = none
  os : s.os = sI.os
  ag : AllBare s.gens
theorem Gd.at {pins : List (Addr × Obj)} {σ : L2.St} {H : Hp} {B : Heap} {sI s : Shared} {a : Addr} {cls : Value} {d : Option Addr} (G : Gd X pins σ H B sI a cls d s) : Inv X pins σ H s := G.inv.landed G.nb G.fl.1 G.up G.os G.ag
theorem Gd.suite {pins : List (Addr × Obj)} {σ : L2.St} {H : Hp} {B : Heap} {sI s : Shared} {a : Addr} {cls : Value} {d : Option Addr} (hf : X.env.frame = some X.env.locals) (G : Gd X pins σ H B sI a cls d s) :
    ∃ (oe : Obj) (vs : Array Value), s.heap.get? a = some oe ∧ L2N.Zn cls d oe ∧ oe.data = .fields vs ∧ Inv (X.suite a ((a, oe) :: (X.pn ++ pins))) [] σ H s := by
  obtain ⟨oe, vs, ge, ze, de⟩ := G.fl.there
  have nf : a ∉ frs (X.env :: X.outer) := fun hm => by
    obtain ⟨_, o', e', hnf⟩ := G.fl.2.2.1.mem hm
    rw [ge] at e'
    cases e'
    exact hnf _ de
  refine ⟨oe, vs, ge, ze, de, G.at.suite ge de G.na (fun z => nf ?_) fun hm => nf ?_⟩
  · exact List.mem_filterMap.mpr ⟨X.env, List.mem_cons_self, by rw [hf, z]⟩
  · obtain ⟨e, he, q⟩ := List.mem_filterMap.mp hm
    exact List.mem_filterMap.mpr ⟨e, List.mem_cons_of_mem _ he, q⟩
/-- the clause's class, asked of it -/
theorem Gd.ask {pins : List (Addr × Obj)} {σ : L2.St} {H : Hp} {B : Heap} {sI s : Shared} {a : Addr} {cls c : Value} {d : Option Addr} {x : Str} {np : Pos} {b : Bool} {R : Bool → Shared → Prop} {E E' : Value → Shared → Prop} (hf : X.env.frame = some X.env.locals) (G : Gd X pins σ H B sI a cls d s) (hc : Names X x c) (hx : PySem.W.exmOne X.K cls c = some b) (q : R b s) :
    wpAny (model X.prog X.w) (X.A.mark (some (.ref a))) (eval (.Name x np) X.env) (fun v s1 => wpAny (model X.prog X.w) (X.A.mark (some (.ref a))) (excMatches (.ref a) v) R E' s1) E s := by
  obtain ⟨oe, vs, ge, ze, de, S⟩ := G.suite hf
  have LT : PySem.W.Looks (model X.prog X.w) s.heap (typeOf (.ref a)) cls := fun A Q E s k q => wpAny_typeOf_ref (k _ _ ge) (by rw [ze.1]; exact q)
  have LM := PySem.W.exm_one (M := model X.prog X.w) G.at.kIn LT hx
  obtain ⟨hg, hdb, hm | ⟨hm, hv, hnn⟩⟩ := hc
  · exact ld_glob (X := X.suite a ((a, oe) :: (X.pn ++ pins))) S hg hm (LM.here q) hdb
  · exact ld_blt (X := X.suite a ((a, oe) :: (X.pn ++ pins))) S hg hm hv (LM.here q) hnn hdb
theorem Gd.again {pins : List (Addr × Obj)} {σ : L2.St} {H : Hp} {B : Heap} {sI s : Shared} {a : Addr} {cls : Value} {d : Option Addr} {M : Model} {A : Around} {E : Value → Shared → Prop} {Q : Unit → Shared → Prop} (G : Gd X pins σ H B sI a cls d s)
    (k : ∀ h', Gd X pins σ H B sI a cls d { s with heap := h' } → Q () { s with heap := h' }) : wpAny M A (setFlight (.ref a) none) Q E s :=
  HandSPX.lands_againZ G.fl fun h' fl' up' => k h' ⟨G.inv, G.nb, G.up.trans up', fl', G.na, G.os, G.ag⟩
/-- the clauses without a name, one after another -/
theorem Gd.plain {pins : List (Addr × Obj)} {σ : L2.St} {H : Hp} {B : Heap} {sI : Shared} {a : Addr} {cls : Value} {d : Option Addr} {D : Ends} {Wout : WX} (hs : X.stack = X.env :: X.outer) (hf : X.env.frame = some X.env.locals) (tk : L2N.Takes X Wout) :
    ∀ {hds : List ExceptHandler} {l : List (Value × (Addr → Value → Option Addr → TS))}, L2N.HdsOk X hds l → ∀ {s : Shared}, Gd X pins σ H B sI a cls d s → wMany X.K Wout D l cls d σ H → wpAny (model X.prog X.w) X.A (handleBy (.ref a) X.env hds) (SP X pins D) X.xe s := by
  intro hds l hk
  induction hk with
  | nil =>
    intro s G wsh
    refine wpAny_handleBy_nil ?_
    obtain ⟨_, _, _, oe, vs, T, oT, ts', he, hz, hd, h1, _⟩ := id G.fl
    have nT : ¬ ((Value.ref T == Value.none) = true) := by simp
    unfold PySem.passOn
    refine wpAny_bind (wpAny_field he hd h1 ?_)
    rw [if_neg nT]
    have on : wpAny (model X.prog X.w) X.A (setFlight (.ref a) X.env.frame) (fun _ s4 => wpAny (model X.prog X.w) X.A (throw (.ref a) : Sem Flow) (SP X pins D) X.xe s4) X.xe s := by
      rw [hf]
      refine HandSPX.setFlight_upZ G.fl fun h4 hh4 up4 => wpAny_throw (tk _ _ ?_)
      exact ⟨a, B, sI, pins, σ, H, cls, d, rfl, G.inv, G.nb, G.up.trans up4, .inr (.inr (by rw [hs]; exact hh4)), G.na, G.os, G.ag, wsh⟩
    first
      | exact wpAny_bind (wpAny_pure (wpAny_bind on))
      | exact wpAny_bind on
  | cons hc hsu r ih =>
    intro s G wsh
    obtain ⟨b, hb1, hyes, hno⟩ := wsh
    refine wpAny_handleBy_cons (codeAny_handlers_test (G.ask hf hc hb1 ?_)) (by intro q; cases q)
    cases b with
    | true =>
      refine codeAny_handlers_suite (G.again fun h' G' => ?_)
      obtain ⟨oe, vs, ge, ze, de, S⟩ := G'.suite hf
      refine wpAny_mono ((hsu a oe cls d (X.pn ++ pins) ze ⟨_, de⟩).run [] _ _ H _ S (hyes rfl a G.na)) (fun f s6 hsp => ?_) fun _ _ z => z.elim
      have ok := G.inv.ok
      cases f with
      | next => exact (let ⟨σ6, H6, S6, q6⟩ := hsp; ⟨σ6, H6, S6.unsuite ok, q6⟩)
      | brk => exact (let ⟨σ6, H6, S6, q6⟩ := hsp; ⟨σ6, H6, S6.unsuite ok, q6⟩)
      | cont => exact (let ⟨σ6, H6, S6, q6⟩ := hsp; ⟨σ6, H6, S6.unsuite ok, q6⟩)
      | ret u => exact (let ⟨v6, σ6, H6, S6, r6, q6⟩ := hsp; ⟨v6, σ6, H6, S6.unsuite ok, r6, q6⟩)
    | false => exact ih G (hno rfl)
/-- try: body / except x as n: suite / further clauses without a name -/
theorem ps_tryM {x n : Str} {c : Value} {i : Nat} {body suite : List Stmt} {b₀ : Stmt} {hds : List ExceptHandler} {np pos pos' : Pos} {tb : WX → TS} {ts : Addr → Value → Option Addr → TS} {Wout : WX} {l : List (Value × (Addr → Value → Option Addr → TS))}
    (hs : X.stack = X.env :: X.outer) (hf : X.env.frame = some X.env.locals) (hN : X.N.Nodup) (hi : X.N[i]? = some n) (hln : X.env.kindOf n = some .local) (hc : Names X x c) (tk : L2N.Takes X Wout)
    (hb : ∀ (W : WX) (pn : List (Addr × Obj)) (xe : Value → Shared → Prop), L2N.Takes (X.tr pn xe) W → PassesOwn (model X.prog X.w) X.A X.env xe → PSs (X.tr pn xe) body (tb W))
    (hsu : ∀ (a : Addr) (oe : Obj) (cls : Value) (d : Option Addr) (pn : List (Addr × Obj)), L2N.Zn cls d oe → (∃ vs, oe.data = .fields vs) → PSs (X.suite a ((a, oe) :: pn)) (b₀ :: suite) (ts a cls d)) (hh : L2N.HdsOk X hds l) :
    PS X (.Try body (.ExceptHandler (some (.Name x np)) (some n) (b₀ :: suite) pos' :: hds) [] [] pos) (fun D σ H => tb (wAs X.K c i ts (wMany X.K Wout D l) D) D σ H) := by
  refine ⟨fun pins s σ H D I h => ?_⟩
  have ok := I.ok
  have hfr : X.A.frames = some (X.env :: X.outer) := by rw [ok.frames, hs]
  refine wpAny_Try_except (wpAny_mono ((hb (wAs X.K c i ts (wMany X.K Wout D l) D) (X.pn ++ pins) (fun e s1 => wpAny (model X.prog X.w) X.A (noteFrame e X.env) (fun _ s2 => wpAny (model X.prog X.w) X.A (setFlight e none) (fun _ s3 =>
    wpAny (model X.prog X.w) X.A (handleBy e X.env (.ExceptHandler (some (.Name x np)) (some n) (b₀ :: suite) pos' :: hds)) (SP X pins D) X.xe s3) X.xe s2) X.xe s1) (fun u s' xx => ?cat) PassesOwn.looking).run [] s σ H D (I.toTry _) h) (fun f s1 hsp => ?thru) fun e s1 he => he)
  case thru =>
    cases f with
    | next => exact (let ⟨σ', H', J', q⟩ := hsp; wpAny_execs_nil ⟨σ', H', J'.ofTry ok, q⟩)
    | brk => exact (let ⟨σ', H', J', q⟩ := hsp; ⟨σ', H', J'.ofTry ok, q⟩)
    | cont => exact (let ⟨σ', H', J', q⟩ := hsp; ⟨σ', H', J'.ofTry ok, q⟩)
    | ret u => exact (let ⟨v, σ', H', J', r, q⟩ := hsp; ⟨v, σ', H', J'.ofTry ok, r, q⟩)
  case cat =>
    obtain ⟨a, B, sI, pins', σ', H', cls, d, rfl, J', nb, up, sky, na, os, ag, b, hb1, hyes, hno⟩ := xx
    have sky' : Sky B (X.env :: X.outer) a (L2N.Zn cls d) X.env.locals s'.heap := by rw [← hs]; exact sky
    show wpAny (model X.prog X.w) X.A (noteFrame (.ref a) X.env) _ _ _
    refine L2N.Sky.land L2N.Zn.steady hfr hf sky' fun h3 fl3 up3 => ?_
    have G : Gd X pins σ' H' B sI a cls d { s' with heap := h3 } := ⟨J'.ofTry ok, nb, up.trans up3, fl3, na, os, ag⟩
    refine wpAny_handleBy_cons (codeAny_handlers_test (G.ask hf hc hb1 ?_)) (by intro q; cases q)
    cases b with
    | false => exact G.plain hs hf tk hh (hno rfl)
    | true =>
      refine codeAny_handlers_suite_as (G.again fun h4 G4 => ?_)
      obtain ⟨oe, vs, ge, ze, de, S⟩ := G4.suite hf
      refine store_ok (X := X.suite a ((a, oe) :: (X.pn ++ pins))) (v := .ref a) S hN hi (.inl hln) rfl (fun s5 S5 => ?_) (.inr hln)
      refine wpAny_mono ((hsu a oe cls d (X.pn ++ pins) ze ⟨_, de⟩).run [] s5 _ H' _ S5 (hyes rfl a na)) (fun f s6 hsp => ?_) fun _ _ z => z.elim
      have goes : ∀ {σ6 : L2.St} {H6 : Hp} {Q : Shared → Prop}, Inv (X.suite a ((a, oe) :: (X.pn ++ pins))) [] σ6 H6 s6 → (∀ s7, Inv X pins (σ6.set i none) H6 s7 → Q s7) →
          wpAny (model X.prog X.w) X.A (do bindName X.env n .none; unbindBehindTheSuite X.env n pos') (fun _ s7 => Q s7) X.xe s6 := fun S6 hq => gone_ok (S6.unsuite ok) hN hi hln hq
      cases f with
      | next => exact (let ⟨σ6, H6, S6, q6⟩ := hsp; goes S6 fun s7 J7 => ⟨_, _, J7, q6⟩)
      | brk => exact (let ⟨σ6, H6, S6, q6⟩ := hsp; goes S6 fun s7 J7 => ⟨_, _, J7, q6⟩)
      | cont => exact (let ⟨σ6, H6, S6, q6⟩ := hsp; goes S6 fun s7 J7 => ⟨_, _, J7, q6⟩)
      | ret u => exact (let ⟨v6, σ6, H6, S6, r6, q6⟩ := hsp; goes S6 fun s7 J7 => ⟨_, _, _, J7, r6, q6⟩)
end
end Fm

namespace Fm
open PySem PySem.Spec PyProof.Rows L2
/-- what is wanted of an exception that leaves a lambda's frame -/
abbrev lamX (X : Cx) (A : Around) (outer : List Env) (s : Shared) (H : Hp) (E : XK) (scope : Scope) (f c : Addr) : Value → Shared → Prop := fun e s' =>
  wpAny (model X.prog X.w) (A.deeper (LamX.lamEnv X scope s.heap.objs.size f c)) (leaving (LamX.lamEnv X scope s.heap.objs.size f c) e) (fun _ s2 => L2N.CX X.prog X.w outer H s E e s2) (fun e' s2 => L2N.CX X.prog X.w outer H s E e' s2) s'
/-- the context of a lambda's body -/
abbrev lamN (X : Cx) (A : Around) (outer : List Env) (s : Shared) (H : Hp) (E : XK) (scope : Scope) (f c : Addr) : Cx := (LamX.lamCx X A outer s H E scope f c).wish (lamX X A outer s H E scope f c)
/-- what a lambda's body may let out is taken -/
theorem lamN_takes {X : Cx} {A : Around} {outer : List Env} {s : Shared} {H : Hp} {E : XK} {scope : Scope} {f c : Addr} : L2N.Takes (lamN X A outer s H E scope f c) (fun cls d _ H' => E cls d H') :=
  L2N.takes_of (X := lamN X A outer s H E scope f c) (E₁ := fun e' s2 => L2N.CX X.prog X.w outer H s E e' s2) rfl rfl rfl rfl
section
variable {X : Cx}
/-- a(), in the def that got the lambda (made in X at s): what it raises has no context -/
theorem pe_actN {CXg : CXT} {Eg : XK} {Ng : List Str} {qg : Str} {sg : Scope} {g f c : Addr} {cdg pm ctv : Value} {params : Arguments} {body : Expr} {scope : Scope} {k i : Nat} {a : Str} {pn : List (Addr × Obj)} {xe : Value → Shared → Prop} {W : WX} {E : XK} {tb : TE} {p1 p2 : Pos} {pins : List (Addr × Obj)} {σ : L2.St} {H : Hp} {s : Shared}
    (I : Inv X pins σ H s) (L : LamX.LamS X.env.scope scope) (of0 : s.heap.get? f = some (PySem.W.kla_obj "<lambda>" (X.env.qual ++ "<lambda>") params body scope (cloFrom X.env.cells scope.names []) pm c ctv)) (nf : H f = none) (nfr : f ∉ frs X.stack)
    (bnd : bindArgs (PySem.W.kla_fn "<lambda>" (X.env.qual ++ "<lambda>") params body scope (cloFrom X.env.cells scope.names []) pm (.ref c) ctv) ⟨[], []⟩ = pure [])
    (tk : L2N.Takes ((cxOf CXg X.prog X.w X.K X.mg X.base Ng qg sg g cdg X.A X.stack s H Eg).tr pn xe) W) (hr : Room (k + 1) (X.A.deeper (envOfC qg sg s.heap.objs.size g cdg)))
    (hbody : ∀ (A : Around) (outer : List Env) (s : Shared) (H : Hp), Room k (A.deeper (LamX.lamEnv X scope s.heap.objs.size f c)) → PE (lamN X A outer s H E scope f c) body tb)
    (hN : Ng[i]? = some a) (hv : Vis sg a) (hd : (a == ("__debug__" : Str)) = false) (hcd : (a == ("__classdict__" : Str)) = false) :
    PE ((cxOf CXg X.prog X.w X.K X.mg X.base Ng qg sg g cdg X.A X.stack s H Eg).tr pn xe) (.Call (.Name a p1) [] [] p2) (fun σZ HZ Q => (∀ cls d H', E cls d H' → W cls d σZ H') ∧ σZ[i]? = some (some (.ref f)) ∧ HZ c = some (LamX.CodeO c (X.env.qual ++ "<lambda>")) ∧ tb σ HZ Q) := by
  refine ⟨fun pinsZ sZ σZ HZ Q IZ hh => ?_⟩
  obtain ⟨hW, hs, hc, ht⟩ := hh
  refine wpAny_Call_Name_kw (thn ((pe_var (pos := p1) (i := i) hN hv hd hcd).run pinsZ sZ σZ HZ (fun v H1 => v = .ref f ∧ H1 = HZ) IZ ⟨.ref f, hs, rfl, rfl⟩) fun u s1 hu => ?_)
  obtain ⟨v, H1, I1, r1, rfl, rfl⟩ := hu
  obtain rfl : u = Value.ref f := r1
  have of1 := I1.base.keep f _ of0 nf nfr (fun z => nomatch (show f ∈ ([] : List Addr) from z))
  refine PySem.W.callWith_F0 ⟨_, _, _, _, of1⟩ ?_
  obtain ⟨⟨oc, vs, t, hoc, hdc, hvc⟩, _, _⟩ := I1.hok c _ hc
  have rc : codeAny (model X.prog X.w) (X.A.deeper (envOfC qg sg s.heap.objs.size g cdg)) (.call (.ref f) ⟨[], []⟩) (CR (L2N.CX X.prog X.w) (envOfC qg sg s.heap.objs.size g cdg :: X.stack) X.prog X.w H1 s1 Q E) s1 := by
    refine PySem.W.kla_callFunE hr.depth of1 rfl L.co L.gen rfl ⟨c, oc, vs, t, rfl, hoc, hdc, hvc⟩ ?_
    rw [bnd]
    refine wpAny_pure (wpAny_newFunctionEnv (fun y hy => (L.own y hy).2) (fun y hy => absurd hy (by simp)) (fun h₁ hns hsb => ⟨I1.nolimit.fresh _ hsb, ?_⟩) L.kind)
    show codeAny _ _ (.expr body (LamX.lamEnv X scope s1.heap.objs.size f c)) _ _
    have J := LamX.lam_start2 (E := E) (f := f) (c' := c) (tk := s1.toks + ([] : List (Str × Value)).length) I L I1.env0 hr.hd I1.base hns fun b o e => hsb.extBut b o (Nat.ne_of_lt (Heap.lt_size e)) (Heap.get?_push_of_some _ e)
    refine PySem.W.kla_codeExpr (wpAny_mono ((hbody _ _ s1 H1 (hr.deeper _)).run [] _ _ H1 Q (J.wish _) ht) (fun v s' hq => ?_) fun e s' hq => hq)
    obtain ⟨w', H', J', rv, q⟩ := hq
    exact ⟨w', H', J'.os, J'.bare, J'.base, J'.hok, rv, q⟩
  refine wpAny_call (codeAny_mono rc fun r s' hq => ?_)
  cases r with
  | error e => exact tk e s' (L2N.XE.of_call I1 hW hq)
  | ok fl =>
    cases fl with
    | ret u => exact I1.after hq
    | next => exact hq.elim
    | brk => exact hq.elim
    | cont => exact hq.elim
/-- the def that calls what it got: TT is what it makes of the lambda's reading -/
def GivesN (X : Cx) (Ng : List Str) (x : Str) (sg : Scope) (g : Addr) (cdg : Value) (bg : List Stmt) (a : Str) (q : Str) (TT : (XK → Hp → VK → Prop) → Hp → VK → Prop) : Prop :=
  ∀ (f c : Addr) (s : Shared) (H : Hp) (Q : VK) (tl : XK → Hp → VK → Prop), Room 1 (X.A.deeper (envOfC x sg s.heap.objs.size g cdg)) →
    (∀ (W : WX) (pn : List (Addr × Obj)) (xe : Value → Shared → Prop) (E : XK) (p1 p2 : Pos), L2N.Takes ((cxOf C8.CX0 X.prog X.w X.K X.mg X.base Ng x sg g cdg X.A X.stack s H C8.E0).tr pn xe) W →
      PE ((cxOf C8.CX0 X.prog X.w X.K X.mg X.base Ng x sg g cdg X.A X.stack s H C8.E0).tr pn xe) (.Call (.Name a p1) [] [] p2) (fun σZ HZ Q => (∀ cls d H', E cls d H' → W cls d σZ H') ∧ σZ[0]? = some (some (.ref f)) ∧ HZ c = some (LamX.CodeO c q) ∧ tl E HZ Q)) →
    H c = some (LamX.CodeO c q) → TT tl H Q →
    ∃ t, PSs (cxOf C8.CX0 X.prog X.w X.K X.mg X.base Ng x sg g cdg X.A X.stack s H C8.E0).nox bg t ∧ t { nx := fun _ H' => Q .non H', rt := Q } (L2.start Ng [.ref f]) H
/-- x(lambda: body) -/
theorem pe_lamN {T : List (Addr × Str)} {TT : (XK → Hp → VK → Prop) → Hp → VK → Prop} {x a : Str} {g c P : Addr} {k : Nat} {pg : Arguments} {bg : List Stmt} {sg : Scope} {dV kV doc pm cdv ct oc : Value} {an od : Option Addr} {osl : Array (Option Value)} {Ng : List Str}
    {params : Arguments} {body : Expr} {scope : Scope} {t : XK → TE} {p lpos pos : Pos} (hg : Gl X x) (hm : X.mg x = some (.ref g)) (hk : PySem.W.keepIn X.K (.ref g) = true)
    (lk : X.K.lookup g = some ⟨oc, od, .func (PySem.W.fnOf x x pg bg sg dV kV doc pm an cdv ct), osl⟩) (hcg : PySem.W.codeIn X.K cdv x = true) (hb : L2.Binds X.K (PySem.W.fnOf x x pg bg sg dV kV doc pm an cdv ct) [a] []) (Sg : FnScope Ng [a] sg) (hNg : Ng[0]? = some a) (hva : Vis sg a)
    (hG : GivesN X Ng x sg g cdv bg a (X.env.qual ++ "<lambda>") TT)
    (TB : LamX.TabB X.base X.mg c P) (hcode : X.env.code = .ref c) (hmT : (P, X.env.qual ++ "<lambda>") ∈ T) (hu : ∀ p ∈ T, p.1 = P → p.2 = X.env.qual ++ "<lambda>") (hr : Room (k + 2) X.A) (L : LamX.LamS X.env.scope scope) (hdef : defaultsOf params X.env = ([], []))
    (hbind : ∀ (q : Str) (cl : List (Str × Addr)) (pm cv ctv : Value), bindArgs (PySem.W.kla_fn "<lambda>" q params body scope cl pm cv ctv) ⟨[], []⟩ = pure [])
    (hbody : ∀ (A : Around) (outer : List Env) (s : Shared) (H : Hp) (E : XK) (f c : Addr), Room k (A.deeper (LamX.lamEnv X scope s.heap.objs.size f c)) → PE (lamN X A outer s H E scope f c) body (t E))
    (hdb : (x == ("__debug__" : Str)) = false := by decide) (hd : (a == ("__debug__" : Str)) = false := by decide) (hcd : (a == ("__classdict__" : Str)) = false := by decide) :
    PE X (.Call (.Name x p) [.Lambda params body scope lpos] [] pos) (LamX.tLam T TT t) := by
  refine ⟨fun pins s σ H Q I hh => ?_⟩
  obtain ⟨hT, hh⟩ := hh
  refine wpAny_Call_Name_kw (ld_glob I hg hm (PySem.W.callWith_K (h₀ := X.base) I.ok.mod.kin hk ?_ (by rfl) (by rfl)) hdb)
  show wpAny _ _ (spliced ((false, eval (.Lambda params body scope lpos) X.env) :: backTo pos (starEach [] X.env))) _ _ s
  refine Calls.spliced_cons (LamX.lam_make2 I TB hcode hmT hu hT hdef (L.has I.ok) fun f c' pm' ctv H1 s' I1 eN T1 hf hfn hfr hco => Calls.spliced_nil ⟨I1.kIn, ?_⟩)
  have rc : codeAny (model X.prog X.w) X.A (.call (.ref g) ⟨[.ref f], []⟩) (CR C8.CX0 X.stack X.prog X.w H1 s' Q C8.E0) s' := by
    refine LamX.run_ofS (N := Ng) (ps := [a]) (us := [.ref f]) (vs := [.ref f]) lk hcg Sg hr I1.env0 (hb s' [.ref f] I1.kIn rfl) (.cons rfl .nil) rfl fun hr' => ?_
    obtain ⟨t', ht', hq'⟩ := hG f c' s' H1 Q (fun E H' Q' => t E σ H' Q') (hr'.mono (by omega)) (fun W pn xe E p1 p2 tk => pe_actN (i := 0) I1 L hf hfn hfr (hbind _ _ _ _ _) tk hr' (fun A outer s H hr2 => hbody A outer s H E f c' hr2) hNg hva hd hcd) hco (hh H1 eN T1)
    exact ⟨t', ht'.nox, hq'⟩
  refine wpAny_call (codeAny_mono rc fun r s2 hq => ?_)
  cases r with
  | error e => exact (show False from hq).elim
  | ok fl =>
    cases fl with
    | ret u => exact I1.after hq
    | next => exact hq.elim
    | brk => exact hq.elim
    | cont => exact hq.elim
end
section
variable {P : Program} {w : World} {K : PySem.W.Frag} {mg : Str → Option Value} {base : Heap}
end
end Fm

namespace Fm
open PySem PySem.Spec PyProof.Rows L2
theorem pss_by {X : Cx} {body : List Stmt} {t' : TS} (h : ∀ D σ H, t' D σ H → ∃ t, PSs X body t ∧ t D σ H) : PSs X body t' := ⟨fun pins s σ H D I hh => by
  obtain ⟨t, ht, q⟩ := h D σ H hh
  exact ht.run pins s σ H D I q⟩
theorem list6 {α : Type} {l : List α} (h : l.length = 6) : ∃ a b c d e f, l = [a, b, c, d, e, f] := match l, h with
  | [a, b, c, d, e, f], _ => ⟨a, b, c, d, e, f, rfl⟩
theorem takes0N {X : Cx} : L2N.Takes X (fun _ _ _ _ => False) := fun _ _ x => by
  obtain ⟨_, _, _, _, _, _, _, _, _, _, _, _, _, _, _, _, z⟩ := x
  exact z.elim
/-- the names of those that are so -/
theorem names_read {K : PySem.W.Frag} {σ : L2.St} {H : Hp} {Q : VK} {L : Addr} {ts : List V} {ps : List (Str × Bool)} {iS j1 j2 : Nat} (hσ : σ[iS]? = some (some (.ref L))) (hL : H L = some (.lst ts)) (hlen : ts.length = ps.length) (hsm : ps.length ≤ 1000)
    (hts : ∀ (i : Nat) (t : V) (p : Str × Bool), ts[i]? = some t → ps[i]? = some p → ∃ a, t = .ref a ∧ H a = some (.tup [.str p.1, .bl p.2])) (h12 : j1 ≠ j2) (hj1 : j1 < σ.length) (hj2 : j2 < σ.length)
    (hw : ∀ v w, wipe (((wipe σ [j1, j2]).set j1 (some v)).set j2 (some w)) [j1, j2] = wipe σ [j1, j2]) 
    (q : ∀ D H', H D = none → Same H H' → H' D = some (.lst ((ps.filter (·.2)).map fun p => V.str p.1)) → Q (.ref D) H') :
    tLcH K (tVar iS) (gTup K 2 (gCons (gName j1) (gCons (gName j2) gNil))) (tB (tVar j2)) (tVar j1) [j1, j2] σ H Q := by
  refine ⟨.ref L, hσ, L, ts, rfl, SqL.of hL, fun D hD => ⟨fun i H' => Same H H' ∧ H' D = some (.lst (((ps.take i).filter (·.2)).map fun p => V.str p.1)), ⟨Same.updD (Same.refl H) hD, upd_same⟩, fun i H' hP => SqL.of (hP.1 _ _ hL), fun H' hP => ?_, fun i x H' hx hP => ?_⟩⟩
  · rw [hlen, List.take_length] at hP
    exact q D H' hD hP.1 hP.2
  · obtain ⟨sm, hD'⟩ := hP
    have hi : i < ps.length := by
      have := (List.getElem?_eq_some_iff.mp hx).1
      omega
    have hpi : ps[i]? = some ps[i] := List.getElem?_eq_getElem hi
    obtain ⟨a, rfl, ha⟩ := hts i x _ hx hpi
    have l1 : j1 < (wipe σ [j1, j2]).length := by rw [wipe_length]; exact hj1
    have l2 : j2 < ((wipe σ [j1, j2]).set j1 (some (V.str ps[i].1))).length := by rw [List.length_set, wipe_length]; exact hj2
    refine ⟨a, _, rfl, SqT.of (sm _ _ ha), rfl, _, _, rfl, _, _, rfl, rfl, hw _ _, .bl ps[i].2, List.getElem?_set_self l2, ps[i].2, rfl, ?_⟩
    cases hb : ps[i].2 with
    | false =>
      rw [if_neg Bool.false_ne_true]
      refine ⟨sm, ?_⟩
      have ef : List.filter (fun x : Str × Bool => x.2) [ps[i]] = [] := by rw [List.filter_cons, if_neg (by rw [hb]; exact Bool.false_ne_true)]; rfl
      rw [List.take_add_one, hpi, hD', List.filter_append, List.map_append]
      show _ = some (HO.lst (_ ++ List.map _ (List.filter (fun x : Str × Bool => x.2) [ps[i]])))
      rw [ef, List.map_nil, List.append_nil]
    | true =>
      rw [if_pos rfl]
      refine ⟨.str ps[i].1, ?_, _, hD', ?_, Same.updD sm hD, ?_⟩
      · rw [List.getElem?_set_ne (Ne.symm h12), List.getElem?_set_self l1]
      · refine small1000 ?_
        rw [List.length_map]
        exact Nat.le_trans (List.length_filter_le _ _) (by rw [List.length_take]; omega)
      · have ef : List.filter (fun x : Str × Bool => x.2) [ps[i]] = [ps[i]] := by rw [List.filter_cons, if_pos hb]; rfl
        rw [upd_same, List.take_add_one, hpi, List.filter_append, List.map_append]
        show _ = some (HO.lst (_ ++ List.map _ (List.filter (fun x : Str × Bool => x.2) [ps[i]])))
        rw [ef]
        rfl
/-- all classes of refusals under MirrorError -/
def mirNames : List Str := ["NoGround", "NoNumber", "NoRow", "NoTable", "NoForm", "NoKeeper", "NoWorth", "NoSeat", "NoFour", "NoPlace", "NoClaim", "NoText", "NoSaying", "TooMany", "NotKept"]
/-- the class at C is the one named nm among them, of errors without a dict -/
structure MirC (K : PySem.W.Frag) (C : Addr) (nm : Str) : Prop where
  exc : ExcC K C
  kit : ∀ x ∈ mirNames, PySem.W.kitOne K (.ref C) (.ref (He.ga K x)) = some (decide (x = nm))
  ve : PySem.W.kitOne K (.ref C) (.type "ValueError") = some true
  exm : PySem.W.exmOne K (.ref C) (.ref (He.ga K "MirrorError")) = some true
  one : mirNames.filter (fun x => decide (x = nm)) = [nm]
theorem mir_told {l : List Str} {nm : Str} (h : l.filter (fun x => decide (x = nm)) = [nm]) : ((l.map fun x => (x, decide (x = nm))).filter (·.2)).map (fun p => V.str p.1) = [V.str nm] := by
  rw [List.filter_map]
  show List.map _ (List.map _ (l.filter fun x => decide (x = nm))) = _
  rw [h]
  rfl
def excCB (K : PySem.W.Frag) (D : Addr) : Bool :=
  He.eqO (PySem.W.findIn K (.ref D) "__getattribute__") (some (some (.builtin "BaseException.__getattribute__"))) && (He.eqO (PySem.W.findIn K (.ref D) "__getattr__") (some none) && (decide (PySem.W.subIn K (.ref D) (.type "BaseException") = some true) && (PySem.W.hasDictIn K D &&
  (He.eqO (PySem.W.findIn K (.ref D) "__class__") (some (some (.builtin "object.__class__"))) && (He.eqO (PySem.W.specialIn K (.builtin "object.__class__") "__get__") (some (some (.builtin "getset_descriptor.__get__"))) && (decide (PySem.W.takesIn K (.builtin "object.__class__") = some true) && decide (PySem.W.mroIn K D (.type "object") = some true)))))))
theorem excCB_ok {K : PySem.W.Frag} {D : Addr} (h : excCB K D = true) : ExcC K D := by
  unfold excCB at h
  obtain ⟨h1, h⟩ := He.ba h
  obtain ⟨h2, h⟩ := He.ba h
  obtain ⟨h3, h⟩ := He.ba h
  obtain ⟨h4, h⟩ := He.ba h
  obtain ⟨h5, h⟩ := He.ba h
  obtain ⟨h6, h⟩ := He.ba h
  obtain ⟨h7, h8⟩ := He.ba h
  exact ⟨He.eqO_ok h1, He.eqO_ok h2, of_decide_eq_true h3, h4, He.eqO_ok h5, He.eqO_ok h6, of_decide_eq_true h7, of_decide_eq_true h8⟩
/-- what the written part must say of the class named nm -/
def mirB (K : PySem.W.Frag) (nm : Str) : Bool :=
  excCB K (He.ga K nm) && ((mirNames.all fun x => decide (PySem.W.kitOne K (.ref (He.ga K nm)) (.ref (He.ga K x)) = some (decide (x = nm)))) && (decide (PySem.W.kitOne K (.ref (He.ga K nm)) (.type "ValueError") = some true) && decide (PySem.W.exmOne K (.ref (He.ga K nm)) (.ref (He.ga K "MirrorError")) = some true)))
theorem mirB_ok {K : PySem.W.Frag} {nm : Str} (h : mirB K nm = true) (h1 : mirNames.filter (fun x => decide (x = nm)) = [nm]) : MirC K (He.ga K nm) nm := by
  unfold mirB at h
  obtain ⟨a, h⟩ := He.ba h
  obtain ⟨b, h⟩ := He.ba h
  obtain ⟨c, d⟩ := He.ba h
  exact ⟨excCB_ok a, fun x hx => of_decide_eq_true (List.all_eq_true.mp b x hx), of_decide_eq_true c, of_decide_eq_true d, h1⟩
/-- the suite of the first clause, as read: the class's name is told -/
def tsMir (K : PySem.W.Frag) (iE : Nat) (n : Nat) : Addr → Value → Option Addr → TS := fun a cls d D σ H => ∃ C nm, cls = .ref C ∧ d = none ∧ MirC K C nm ∧ σ[iE]? = some (some (.ref a)) ∧ σ.length = n ∧ ∀ H', Same H H' → D.rt (.str nm) H'
/-- what _law_refusal makes of the lambda's reading: None, or the name of what is raised -/
def TTref (K : PySem.W.Frag) : (XK → Hp → VK → Prop) → Hp → VK → Prop := fun tl H Q => tl (fun cls d H' => (∃ C nm, cls = .ref C ∧ d = none ∧ MirC K C nm ∧ ∀ H'', Same H' H'' → Q (.str nm) H'') ∨
  (∃ C, cls = .ref C ∧ PySem.W.exmOne K cls (.ref (He.ga K "MirrorError")) = some false ∧ PySem.W.exmOne K cls (.ref (He.ga K "OverNought")) = some true ∧ Q (.str "OverNought") H') ∨
  (∃ C, cls = .ref C ∧ PySem.W.exmOne K cls (.ref (He.ga K "MirrorError")) = some false ∧ PySem.W.exmOne K cls (.ref (He.ga K "OverNought")) = some false ∧ PySem.W.exmOne K cls (.ref (He.ga K "Flat")) = some true ∧ Q (.str "Flat") H')) H (fun _ H' => Q .non H')
section
variable {P : Program} {w : World} {K : PySem.W.Frag} {mg : Str → Option Value} {base : Heap} {x qual : Str} {params : Arguments} {body : List Stmt} {scope : Scope} {dvs : List V} {kws : List (Str × V)} {f c : Addr} {fd : FuncData}
/-- as F.ok, where the def's code object is known -/
def CodeAt (K : PySem.W.Frag) (f c : Addr) : Prop := ∀ (oc : Value) (od : Option Addr) (fd : FuncData) (osl : Array (Option Value)), K.lookup f = some ⟨oc, od, .func fd, osl⟩ → fd.code = .ref c
theorem okC {CX : CXT} {N ps : List Str} {k : Nat} {sp : Sp} (F : FunD K x qual params body scope dvs kws f fd) (hC : CodeAt K f c) (S : FnScope N ps scope) (len : ∀ vs H Q E, sp vs H Q E → vs.length = ps.length)
    (hbody : ∀ (A : Around) (outer : List Env) (s : Shared) (H : Hp) (vs : List V) (Q : VK) (E : XK), Room k (A.deeper (envOfC qual scope s.heap.objs.size f (.ref c))) → sp vs H Q E →
      ∃ t, PSs (cxOf CX P w K mg base N qual scope f (.ref c) A outer s H E) body t ∧ t { nx := fun _ H' => Q .non H', rt := Q } (start N vs) H) : FnOk P w K mg base CX (k + 1) f fd ps sp := by
  obtain ⟨oc, od, dV, kV, doc, pm, an, cdv, ct, osl, rfl, lk, hcd, _, _⟩ := F.ex
  have e : cdv = .ref c := hC _ _ _ _ lk
  subst e
  exact fn_of lk hcd S len fun A outer s H vs Q E hr hsp => hbody A outer s H vs Q E hr hsp
theorem codeAt_of {p : He.Defn} (F : FunD K x qual params body scope dvs kws (He.fAd K p) fd) : CodeAt K (He.fAd K p) (He.codeOf K p) := by
  obtain ⟨oc, od, dV, kV, doc, pm, an, cdv, ct, osl, rfl, lk, hcd, _, _⟩ := F.ex
  obtain ⟨c, rfl⟩ := He.codeIn_ref hcd
  intro oc' od' fd' osl' lk'
  have e := lk.symm.trans lk'
  cases e
  rw [He.codeOf_eq lk rfl]
end
section
variable {X : Cx}
/-- x(lambda: body), x by its facts -/
theorem pe_lamF {T : List (Addr × Str)} {TT : (XK → Hp → VK → Prop) → Hp → VK → Prop} {x a : Str} {g c P : Addr} {k : Nat} {pg : Arguments} {bg : List Stmt} {sg : Scope} {fd : FuncData} {Ng : List Str} {params : Arguments} {body : Expr} {scope : Scope} {t : XK → TE} {p lpos pos : Pos}
    (F : FunD X.K x x pg bg sg [] [] g fd) (hb : L2.Binds X.K fd [a] []) (hg : Gl X x) (hm : X.mg x = some (.ref g)) (Sg : FnScope Ng [a] sg) (hNg : Ng[0]? = some a) (hva : Vis sg a) (hG : ∀ cdv, GivesN X Ng x sg g cdv bg a (X.env.qual ++ "<lambda>") TT)
    (TB : LamX.TabB X.base X.mg c P) (hcode : X.env.code = .ref c) (hmT : (P, X.env.qual ++ "<lambda>") ∈ T) (hu : ∀ p ∈ T, p.1 = P → p.2 = X.env.qual ++ "<lambda>") (hr : Room (k + 2) X.A) (L : LamX.LamS X.env.scope scope) (hdef : defaultsOf params X.env = ([], []))
    (hbind : ∀ (q : Str) (cl : List (Str × Addr)) (pm cv ctv : Value), bindArgs (PySem.W.kla_fn "<lambda>" q params body scope cl pm cv ctv) ⟨[], []⟩ = pure [])
    (hbody : ∀ (A : Around) (outer : List Env) (s : Shared) (H : Hp) (E : XK) (f c : Addr), Room k (A.deeper (LamX.lamEnv X scope s.heap.objs.size f c)) → PE (lamN X A outer s H E scope f c) body (t E))
    (hdb : (x == ("__debug__" : Str)) = false := by decide) (hd : (a == ("__debug__" : Str)) = false := by decide) (hcd : (a == ("__classdict__" : Str)) = false := by decide) :
    PE X (.Call (.Name x p) [.Lambda params body scope lpos] [] pos) (LamX.tLam T TT t) := by
  obtain ⟨oc, od, dV, kV, doc, pm, an, cdv, ct, osl, rfl, lk, hcd', _, _⟩ := F.ex
  exact pe_lamN hg hm F.kp lk hcd' hb Sg hNg hva (hG cdv) TB hcode hmT hu hr L hdef hbind hbody hdb hd hcd
end
end Fm

namespace Fm
open PySem PySem.Spec PyProof.Rows L2
def tStep2 (K : PySem.W.Frag) (te : TE) : TE := fun σ H Q => te σ H fun x H1 => ∃ a xs, x = .ref a ∧ SqL K H1 a xs ∧ ∀ p ys, H1 p = none → ys.length ≤ xs.length → (∀ y ∈ ys, y ∈ xs) → Q (.ref p) (upd H1 p (.lst ys))
theorem w_step2 {K : PySem.W.Frag} {te : TE} {σ : L2.St} {H : Hp} {Q : VK} (h : te σ H fun x H1 => ∃ a xs, x = .ref a ∧ SqL K H1 a xs ∧ ∀ p ys, H1 p = none → ys.length ≤ xs.length → (∀ y ∈ ys, y ∈ xs) → Q (.ref p) (upd H1 p (.lst ys))) : tStep2 K te σ H Q := h
theorem w_par3 {i j l : Nat} {as : TA} {D : Ends} {σ : L2.St} {H : Hp} (h : as σ H fun vs H1 => ∃ u v w, vs = [u, v, w] ∧ D.nx (((σ.set i (some u)).set j (some v)).set l (some w)) H1) : tPar3 i j l as D σ H := h
theorem w_ex3 {a b c : V} {R : V → V → V → Prop} (h : R a b c) : ∃ u v w, [a, b, c] = [u, v, w] ∧ R u v w := ⟨a, b, c, rfl, h⟩
theorem w_bits {to : TE} {σ : L2.St} {H : Hp} {Q : VK} (h : to σ H fun x H1 => ∃ i, x = .int i ∧ Q (.int (Builtin.Int.intBits i : Nat)) H1) : tBits to σ H Q := h
/-! ### whole roots by value -/
def isqrt : Nat → Nat
  | 0 => 0
  | n + 1 => if (isqrt n + 1) * (isqrt n + 1) ≤ n + 1 then isqrt n + 1 else isqrt n
theorem isqrt_spec (n : Nat) : RootOf n (isqrt n) := by
  induction n with
  | zero => exact ⟨Nat.le_refl _, by decide⟩
  | succ n ih =>
    obtain ⟨h1, h2⟩ := ih
    unfold isqrt
    split
    · rename_i h
      refine ⟨h, ?_⟩
      have : (isqrt n + 1 + 1) * (isqrt n + 1 + 1) = (isqrt n + 1) * (isqrt n + 1) + 2 * isqrt n + 3 := by grind
      omega
    · rename_i h
      exact ⟨by omega, by omega⟩
theorem root_is {n r : Nat} (h : RootOf n r) : r = isqrt n := root_uniq h (isqrt_spec n)
/-- the root on a wheel: the first one -/
def wroot (g a : Int) : Option Int := ((List.range g.toNat).map fun (i : Nat) => (i : Int)).find? fun i => decide ((i * i).fmod g = a)
/-- the root of a number, as both sides reckon it -/
def rootV (g : Int) (a : Int × Int) : Option (Int × Int) :=
  if g = 0 then (if a.1 < 0 then none else if (isqrt a.1.toNat : Int) * (isqrt a.1.toNat : Int) = a.1 ∧ (isqrt a.2.toNat : Int) * (isqrt a.2.toNat : Int) = a.2 then some ((isqrt a.1.toNat : Int), (isqrt a.2.toNat : Int)) else none) else (wroot g a.1).map fun i => (i, 1)
/-- None, or a number -/
def OptV (H : Hp) (v : V) : Option (Int × Int) → Prop
  | none => v = .non
  | some r => NumV H v r
theorem OptV.kt {H H' : Hp} {v : V} {o : Option (Int × Int)} (h : OptV H v o) (k : Kt H H') : OptV H' v o := by
  cases o with
  | none => exact h
  | some r => exact NumV.kt h k
/-- a number of the ground g, below 2 ^ k -/
def TN (g : Int) (k : Nat) (a : Int × Int) : Prop := ((g = 0 ∧ Red a) ∨ (0 < g ∧ 0 ≤ a.1 ∧ a.1 < g ∧ a.2 = 1)) ∧ a.1.natAbs < 2 ^ k ∧ a.2.natAbs < 2 ^ k
theorem TN.mono {g : Int} {k l : Nat} {a : Int × Int} (h : TN g k a) (hl : k ≤ l) : TN g l a := ⟨h.1, Nat.lt_of_lt_of_le h.2.1 (Nat.pow_le_pow_right (by decide) hl), Nat.lt_of_lt_of_le h.2.2 (Nat.pow_le_pow_right (by decide) hl)⟩
theorem TN.pos {g : Int} {k : Nat} {a : Int × Int} (h : TN g k a) : 0 < a.2 := by
  rcases h.1 with ⟨_, h⟩ | ⟨_, _, _, h⟩
  · exact h.1
  · omega
theorem TN.num {g : Int} {k : Nat} {a : Int × Int} (h : TN g k a) : numOk g [.int a.1, .int a.2] = true := by
  rcases h.1 with ⟨rfl, hr⟩ | ⟨hg, h1, h2, h3⟩
  · rw [numOk_0, decide_eq_true (show 1 ≤ a.2 from hr.1), hr.2]
    rfl
  · rw [numOk_g (by omega), decide_eq_true h1, decide_eq_true h2, decide_eq_true h3]
    rfl
def Gr5 (g : Int) : Prop := g = 3 ∨ g = 5 ∨ g = 7 ∨ g = 11 ∨ g = 13
/-- on a wheel what is no multiple has a back -/
theorem inv_of {g d : Int} (hg : Gr5 g) (hd : d.fmod g ≠ 0) : ∃ f : Int, 1 ≤ f ∧ f ≤ 13 ∧ (f * d).fmod g = 1 := by
  have g0 : 0 < g := by unfold Gr5 at hg; omega
  have e : ∀ f : Int, (f * d).fmod g = (f * d.fmod g).fmod g := fun f => by
    rw [fmod_pos _ g0, fmod_pos _ g0, fmod_pos _ g0, Int.mul_emod f (d % g), Int.emod_emod_of_dvd d (Int.dvd_refl g), ← Int.mul_emod]
  have r0 : 0 ≤ d.fmod g := by rw [fmod_pos _ g0]; exact Int.emod_nonneg _ (by omega)
  have r1 : d.fmod g < g := by rw [fmod_pos _ g0]; exact Int.emod_lt_of_pos _ g0
  simp only [e]
  generalize d.fmod g = r at hd r0 r1 ⊢
  have key : ∀ g ∈ [3, 5, 7, 11, 13], ∀ r ∈ List.range g, r ≠ 0 → ∃ f ∈ List.range 14, 1 ≤ f ∧ ((f : Int) * (r : Int)).fmod (g : Int) = 1 := by decide +kernel
  obtain ⟨n, rfl⟩ := Int.eq_ofNat_of_zero_le r0
  have mk : ∀ m : Nat, m ∈ [3, 5, 7, 11, 13] → (n : Int) < m → ∃ f : Int, 1 ≤ f ∧ f ≤ 13 ∧ (f * (n : Int)).fmod (m : Int) = 1 := fun m hm hn => by
    obtain ⟨f, hf, h1, h2⟩ := key m hm n (List.mem_range.mpr (by omega)) (by omega)
    exact ⟨f, by omega, by have := List.mem_range.mp hf; omega, h2⟩
  unfold Gr5 at hg
  rcases hg with rfl | rfl | rfl | rfl | rfl
  · exact mk 3 (by decide) r1
  · exact mk 5 (by decide) r1
  · exact mk 7 (by decide) r1
  · exact mk 11 (by decide) r1
  · exact mk 13 (by decide) r1
/-- what comes of lowest terms is a number -/
theorem tn_low {g u d : Int} {k : Nat} (hg : g = 0 ∨ Gr5 g) (hd : d ≠ 0) (hg2 : g ≠ 0 → d.fmod g ≠ 0) (hk : 4 ≤ k) (h1 : u.natAbs < 2 ^ k) (h2 : d.natAbs < 2 ^ k) : TN g k (lowF g u d) := by
  have g13 : g ≤ 13 := by unfold Gr5 at hg; omega
  obtain ⟨b1, b2, b3⟩ := low_bd (g := g) (u := u) g13 hd hk h1 h2
  refine ⟨?_, b1, b2⟩
  rcases hg with rfl | hg
  · exact .inl ⟨rfl, (low0_red hd).1⟩
  · have g0 : 0 < g := by unfold Gr5 at hg; omega
    obtain ⟨f, f1, f2, f3⟩ := inv_of hg (hg2 (by omega))
    refine .inr ⟨g0, ?_⟩
    rw [low_inv g0 f3]
    refine ⟨?_, ?_, rfl⟩
    · show 0 ≤ (u * f).fmod g
      rw [fmod_pos _ g0]
      exact Int.emod_nonneg _ (by omega)
    · show (u * f).fmod g < g
      rw [fmod_pos _ g0]
      exact Int.emod_lt_of_pos _ g0
theorem one_fmod {g : Int} (hg : Gr5 g) : (1 : Int).fmod g ≠ 0 := by
  unfold Gr5 at hg
  rcases hg with rfl | rfl | rfl | rfl | rfl <;> decide
theorem TN.bd {g : Int} {k : Nat} {a : Int × Int} (h : TN g k a) (hk : k ≤ 3000) : PBd a := ⟨(h.mono hk).2.1, (h.mono hk).2.2, by have := h.pos; omega⟩
theorem tn_times {g : Int} {k l : Nat} {a c : Int × Int} (hg : g = 0 ∨ Gr5 g) (ha : TN g k a) (hc : TN g l c) (hk : 4 ≤ k) : TN g (k + l) (timesF g a c) := by
  have ha2 := ha.pos
  have hc2 := hc.pos
  refine tn_low hg (Int.mul_ne_zero (by omega) (by omega)) (fun z => ?_) (by omega) (wide_lt ha.2.1 hc.2.1) (wide_lt ha.2.2 hc.2.2)
  rcases ha.1 with ⟨e, _⟩ | ⟨_, _, _, e⟩
  · exact absurd e z
  · rcases hc.1 with ⟨e2, _⟩ | ⟨_, _, _, e2⟩
    · exact absurd e2 z
    · rw [e, e2]
      exact one_fmod (hg.resolve_left z)
theorem tn_plus {g : Int} {k l : Nat} {a c : Int × Int} (hg : g = 0 ∨ Gr5 g) (ha : TN g k a) (hc : TN g l c) (hk : 4 ≤ k) : TN g (k + l + 1) (plusF g a c) := by
  have ha2 := ha.pos
  have hc2 := hc.pos
  have b1 : (a.1 * c.2 + c.1 * a.2).natAbs < 2 ^ (k + l + 1) := by
    have h1 := wide_lt ha.2.1 hc.2.2
    have h2 := wide_lt hc.2.1 ha.2.2
    rw [Nat.add_comm l k] at h2
    rw [Nat.pow_succ]
    generalize 2 ^ (k + l) = z at h1 h2 ⊢
    omega
  refine tn_low hg (Int.mul_ne_zero (by omega) (by omega)) (fun z => ?_) (by omega) b1 (Nat.lt_of_lt_of_le (wide_lt ha.2.2 hc.2.2) (Nat.pow_le_pow_right (by decide) (by omega)))
  rcases ha.1 with ⟨e, _⟩ | ⟨_, _, _, e⟩
  · exact absurd e z
  · rcases hc.1 with ⟨e2, _⟩ | ⟨_, _, _, e2⟩
    · exact absurd e2 z
    · rw [e, e2]
      exact one_fmod (hg.resolve_left z)
def minusF (g : Int) (a : Int × Int) : Int × Int := lowF g (0 - a.1) a.2
theorem tn_minus {g : Int} {k : Nat} {a : Int × Int} (hg : g = 0 ∨ Gr5 g) (ha : TN g k a) (hk : 4 ≤ k) : TN g k (minusF g a) := by
  have ha2 := ha.pos
  refine tn_low hg (by omega) (fun z => ?_) hk (by have := ha.2.1; omega) ha.2.2
  rcases ha.1 with ⟨e, _⟩ | ⟨_, _, _, e⟩
  · exact absurd e z
  · rw [e]
    exact one_fmod (hg.resolve_left z)
/-- the root of a number is a number -/
theorem root_num {g : Int} {k : Nat} {a r : Int × Int} (ha : TN g k a) (h : rootV g a = some r) : numOk g [.int r.1, .int r.2] = true := by
  unfold rootV at h
  rcases ha.1 with ⟨rfl, h1, h2⟩ | ⟨hg, h1, h2, h3⟩
  · rw [if_pos rfl] at h
    split at h
    · cases h
    · split at h
      · rename_i h0 hh
        obtain ⟨e1, e2⟩ := hh
        cases h
        generalize (isqrt a.1.toNat : Int) = p at e1 ⊢
        generalize hq : (isqrt a.2.toNat : Int) = q at e2 ⊢
        have q0 : 0 ≤ q := by omega
        have qp : 0 < q := by
          rcases Int.lt_or_eq_of_le q0 with z | z
          · exact z
          · rw [← z] at e2
            omega
        rw [← e1, ← e2] at h2
        have hg2 : Int.gcd p q = 1 := by
          have d1 : (Int.gcd p q : Int) ∣ p * p := Int.dvd_trans (Int.gcd_dvd_left p q) (Int.dvd_mul_right p p)
          have d2 : (Int.gcd p q : Int) ∣ q * q := Int.dvd_trans (Int.gcd_dvd_right p q) (Int.dvd_mul_right q q)
          have d3 := Int.dvd_coe_gcd d1 d2
          rw [h2] at d3
          have d4 : Int.gcd p q ∣ 1 := Int.ofNat_dvd.mp d3
          exact Nat.dvd_one.mp d4
        rw [numOk_0, decide_eq_true (show 1 ≤ q from qp), hg2]
        rfl
      · cases h
  · rw [if_neg (by omega)] at h
    cases e : wroot g a.1 with
    | none =>
      rw [e] at h
      cases h
    | some i =>
      rw [e] at h
      cases h
      obtain ⟨n, hn, rfl⟩ := List.mem_map.mp (List.mem_of_find?_eq_some e)
      have := List.mem_range.mp hn
      rw [numOk_g (by omega), decide_eq_true (show 0 ≤ (n : Int) by omega), decide_eq_true (show (n : Int) < g by omega)]
      rfl
theorem num_eqv (a b : Int × Int) : PyData.eqv (numD a) (numD b) = decide (a = b) := by
  obtain ⟨a1, a2⟩ := a
  obtain ⟨b1, b2⟩ := b
  by_cases h1 : a1 = b1
  · by_cases h2 : a2 = b2
    · subst h1 h2
      rw [decide_eq_true rfl]
      exact SeqAt.eqv_refl _ (by simp [numD, PyData.canLay0, PyData.canLayAll0])
    · rw [decide_eq_false (by intro z; cases z; exact h2 rfl)]
      simp [numD, PyData.eqv, PyData.eqvAll, h1, h2]
  · rw [decide_eq_false (by intro z; cases z; exact h1 rfl)]
    simp [numD, PyData.eqv, PyData.eqvAll, h1]
theorem num_shaped (a : Int × Int) : SeqAt.shaped (numD a) = true := shaped_of (by simp [numD, PyData.canLay0, PyData.canLayAll0]) (by simp [numD, PyData.depth, PyData.depthAll])
theorem w_eqNum {K : PySem.W.Frag} {H : Hp} {Q : VK} {v v' : V} {a b : Int × Int} (h1 : NumV H v a) (h2 : NumV H v' b) (q : Q (.bl (decide (a = b))) H) : rEqD K v v' H Q := by
  refine ⟨_, _, NumV.dp h1, NumV.dp h2, num_shaped a, num_shaped b, ?_⟩
  rw [num_eqv]
  exact q
theorem w_neNum {K : PySem.W.Frag} {H : Hp} {Q : VK} {v v' : V} {a b : Int × Int} (h1 : NumV H v a) (h2 : NumV H v' b) (q : Q (.bl (!decide (a = b))) H) : rNeD K v v' H Q := by
  refine ⟨_, _, NumV.dp h1, NumV.dp h2, num_shaped a, num_shaped b, ?_⟩
  rw [num_eqv]
  exact q
/-- a class of refusals, to be raised with a text -/
structure RaiseC (K : PySem.W.Frag) (mg : Str → Option Value) (x : Str) : Prop where
  g : mg x = some (.ref (He.ga K x))
  e : PySem.W.excIn K (He.ga K x) He.veBase "ValueError.__new__" = true
  k : PySem.W.keepIn K (.ref (He.ga K x)) = true
  b : PySem.W.subIn K (.ref (He.ga K x)) (.type "BaseException") = some true
  t : PySem.W.typeIn K (.ref (He.ga K x)) = some (.type "type")
theorem raiseC_of {K : PySem.W.Frag} {mg : Str → Option Value} {x : Str} (g : mg x = some (.ref (He.ga K x))) (c : (He.Fa.exc x).ok K = true) : RaiseC K mg x := by
  obtain ⟨a, b, d, e⟩ := He.exc_ok c
  exact ⟨g, a, b, d, e⟩
/-! ### tables of code objects beside the bag -/
open LamX in
theorem tabs_mv {T : List (Addr × Str)} {H H' : Hp} {b : Addr} (t : Tabs T H) (hb : Bag H b) (m : Mv b H H') : Tabs T H' := fun p hp => by
  obtain ⟨A, B, eb, _⟩ := hb
  obtain ⟨ps, h1, h2, h3⟩ := t p hp
  refine ⟨ps, m _ _ (fun z => ?_) h1, h2, fun pos cv hc => ?_⟩
  · rw [z, eb] at h1
    cases h1
  · obtain ⟨c, e1, e2⟩ := h3 pos cv hc
    refine ⟨c, e1, m _ _ (fun z => ?_) e2⟩
    rw [z, eb] at e2
    exact absurd (Option.some.inj e2) (fun q => by unfold CodeO at q; cases q)
open LamX in
theorem tabs_updL {T : List (Addr × Str)} {H : Hp} {D : Addr} {xs ys : List V} (t : Tabs T H) (hD : H D = some (.lst xs)) : Tabs T (upd H D (.lst ys)) := fun p hp => by
  obtain ⟨ps, h1, h2, h3⟩ := t p hp
  refine ⟨ps, ?_, h2, fun pos cv hc => ?_⟩
  · rw [upd_ne (fun z => by rw [z, hD] at h1; cases h1)]
    exact h1
  · obtain ⟨c, e1, e2⟩ := h3 pos cv hc
    refine ⟨c, e1, ?_⟩
    rw [upd_ne (fun z => ?_)]
    · exact e2
    · rw [z, hD] at e2
      exact absurd (Option.some.inj e2) (fun q => by unfold CodeO at q; cases q)
open LamX in
theorem tabs_sm {T : List (Addr × Str)} {H H' : Hp} (t : Tabs T H) (s : Same H H') : Tabs T H' := t.ext s
/-- all but the tables stay, and these are tables still -/
def Sx (T : List (Addr × Str)) (H H' : Hp) : Prop := LamX.ExtN H H' ∧ LamX.Tabs T H'
theorem Sx.tup {T : List (Addr × Str)} {H H' : Hp} {p : Addr} {xs : List V} (s : Sx T H H') (h : H p = some (.tup xs)) : H' p = some (.tup xs) := s.1 _ _ h fun _ z => by cases z
theorem Sx.lst {T : List (Addr × Str)} {H H' : Hp} {p : Addr} {xs : List V} (s : Sx T H H') (h : H p = some (.lst xs)) : H' p = some (.lst xs) := s.1 _ _ h fun _ z => by cases z
theorem Sx.kt {T : List (Addr × Str)} {H H' : Hp} (s : Sx T H H') : Kt H H' := fun _ _ h => s.tup h
theorem Sx.trans {T : List (Addr × Str)} {H H1 H2 : Hp} (a : Sx T H H1) (b : Sx T H1 H2) : Sx T H H2 := ⟨a.1.trans b.1, b.2⟩
theorem Sx.same {T : List (Addr × Str)} {H H' : Hp} (t : LamX.Tabs T H) (s : Same H H') : Sx T H H' := ⟨LamX.ExtN.of s, tabs_sm t s⟩
theorem Sx.refl {T : List (Addr × Str)} {H : Hp} (t : LamX.Tabs T H) : Sx T H H := ⟨LamX.ExtN.refl H, t⟩
theorem Sx.bag {T : List (Addr × Str)} {H H' : Hp} {b : Addr} (s : Sx T H H') (hb : Bag H b) : Bag H' b := by
  obtain ⟨A, B, h, r⟩ := hb
  exact ⟨A, B, s.lst h, r⟩
/-- a new list, filled -/
theorem Sx.updD {T : List (Addr × Str)} {H H' : Hp} {D : Addr} {xs ys : List V} (s : Sx T H H') (hD : H D = none) (h : H' D = some (.lst xs)) : Sx T H (upd H' D (.lst ys)) :=
  ⟨fun b o e n => by rw [upd_ne (fresh_of e hD)]; exact s.1 b o e n, tabs_updL s.2 h⟩
/-- a bag that is new -/
theorem Sx.mv {T : List (Addr × Str)} {H H1 H2 : Hp} {b : Addr} (s : Sx T H H1) (hn : H b = none) (hb : Bag H1 b) (m : Mv b H1 H2) : Sx T H H2 := ⟨fun p o e n => m p o (fresh_of e hn) (s.1 p o e n), tabs_mv s.2 hb m⟩
end Fm

namespace Fm
open PySem PySem.Spec PyProof.Rows L2
def CPowW (i j : Int) : Prop := 0 ≤ j ∧ (Builtin.Int.intBits i : Int) * j ≤ 2 ^ 27
/-! ### fractions as rational numbers -/
def qv (p : Int × Int) : Rat := (p.1 : Rat) / (p.2 : Rat)
theorem rat_ne {z : Int} (h : z ≠ 0) : (z : Rat) ≠ 0 := fun e => h (by exact_mod_cast e)
theorem TN.red {k : Nat} {a : Int × Int} (h : TN 0 k a) : Red a := by
  rcases h.1 with ⟨_, h⟩ | ⟨h, _⟩
  · exact h
  · exact absurd h (by decide)
theorem TN.one {g : Int} {k : Nat} {a : Int × Int} (h : TN g k a) (hg : 0 < g) : a.2 = 1 := by
  rcases h.1 with ⟨e, _⟩ | ⟨_, _, _, e⟩
  · omega
  · exact e
theorem TN.gpos {g : Int} {k : Nat} {a : Int × Int} (h : TN g k a) (hz : g ≠ 0) : 0 < g := by rcases h.1 with ⟨e, _⟩ | ⟨e, _⟩ <;> omega
/-- only nought is written with nought above -/
theorem TN.zero {g : Int} {k : Nat} {a : Int × Int} (h : TN g k a) : a.1 = 0 ↔ a = (0, 1) := by
  constructor
  · intro z
    rcases h.1 with ⟨rfl, hr⟩ | ⟨_, _, _, e⟩
    · have h2 := hr.2
      rw [z, Int.gcd_zero_left] at h2
      have := hr.1
      exact Prod.ext z (by show a.2 = 1; omega)
    · exact Prod.ext z e
  · intro e
    rw [e]
end Fm

namespace Fr
open Lean.Grind
variable {F : Type} [CommRing F]
abbrev Row (F : Type) := Nat → F
/-- a sum of rows, times numbers -/
def lin : List F → List (Row F) → Row F
  | c :: cs, a :: A => fun j => c * a j + lin cs A j
  | _, _ => fun _ => 0
/-- what rows span: in every space that holds them -/
structure Spc (W : Row F → Prop) : Prop where
  zero : W (fun _ => 0)
  add : ∀ u v, W u → W v → W (fun j => u j + v j)
  mul : ∀ (c : F) u, W u → W (fun j => c * u j)
def InS (L : List (Row F)) (v : Row F) : Prop := ∀ W : Row F → Prop, Spc W → (∀ r ∈ L, W r) → W v
theorem InS.mem {L : List (Row F)} {v : Row F} (h : v ∈ L) : InS L v := fun _ _ hr => hr v h
theorem InS.spc (L : List (Row F)) : Spc (InS L) := ⟨fun _ s _ => s.zero, fun u v hu hv W s hr => s.add u v (hu W s hr) (hv W s hr), fun c u hu W s hr => s.mul c u (hu W s hr)⟩
theorem InS.trans {L M : List (Row F)} {v : Row F} (h : InS L v) (hl : ∀ r ∈ L, InS M r) : InS M v := h (InS M) (InS.spc M) hl
theorem lin_zero : ∀ (h : List Nat) (A : List (Row F)), lin (h.map fun _ => (0 : F)) A = fun _ => 0
  | [], _ => by unfold lin; rfl
  | _ :: _, [] => by unfold lin; rfl
  | _ :: h, a :: A => by
    funext j
    show (0 : F) * a j + lin (h.map fun _ => (0 : F)) A j = 0
    rw [lin_zero h A]
    grind
theorem lin_add (f g : Nat → F) : ∀ (h : List Nat) (A : List (Row F)), lin (h.map fun p => f p + g p) A = fun j => lin (h.map f) A j + lin (h.map g) A j
  | [], _ => by
    funext j
    show (0 : F) = 0 + 0
    grind
  | _ :: _, [] => by
    funext j
    show (0 : F) = 0 + 0
    grind
  | p :: h, a :: A => by
    funext j
    show (f p + g p) * a j + lin (h.map fun p => f p + g p) A j = f p * a j + lin (h.map f) A j + (g p * a j + lin (h.map g) A j)
    rw [lin_add f g h A]
    grind
theorem lin_mul (c : F) (f : Nat → F) : ∀ (h : List Nat) (A : List (Row F)), lin (h.map fun p => c * f p) A = fun j => c * lin (h.map f) A j
  | [], _ => by
    funext j
    show (0 : F) = c * 0
    grind
  | _ :: _, [] => by
    funext j
    show (0 : F) = c * 0
    grind
  | p :: h, a :: A => by
    funext j
    show c * f p * a j + lin (h.map fun p => c * f p) A j = c * (f p * a j + lin (h.map f) A j)
    rw [lin_mul c f h A]
    grind
/-- least rows A with their heads h -/
structure Rr (A : List (Row F)) (h : List Nat) : Prop where
  len : A.length = h.length
  inc : ∀ (i k p q : Nat), h[i]? = some p → h[k]? = some q → i < k → p < q
  one : ∀ (i : Nat) (a : Row F) (p : Nat), A[i]? = some a → h[i]? = some p → a p = 1
  nul : ∀ (i k : Nat) (a : Row F) (p : Nat), A[i]? = some a → h[k]? = some p → i ≠ k → a p = 0
  ahead : ∀ (i : Nat) (a : Row F) (p j : Nat), A[i]? = some a → h[i]? = some p → j < p → a j = 0
/-- by numbers that are all nought but one -/
theorem lin_unit : ∀ (i : Nat) (A : List (Row F)) (h : List Nat) (f : Nat → F) (a : Row F), A.length = h.length → A[i]? = some a → (∀ (k p : Nat), h[k]? = some p → k ≠ i → f p = 0) → (∀ p : Nat, h[i]? = some p → f p = 1) → lin (h.map f) A = a
  | _, [], _, _, _, _, e, _, _ => by cases e
  | _, _ :: _, [], _, _, hl, _, _, _ => by cases hl
  | 0, b :: A, q :: h, f, a, hl, e, hz, h1 => by
    have e' : b = a := Option.some.inj e
    subst e'
    funext j
    show f q * b j + lin (h.map f) A j = b j
    have hq : f q = 1 := h1 q rfl
    have hr : lin (h.map f) A = fun _ => 0 := by
      have : h.map f = h.map fun _ => (0 : F) := List.map_congr_left fun p hp => by
        obtain ⟨k, hk⟩ := List.getElem?_of_mem hp
        exact hz (k + 1) p hk (by omega)
      rw [this, lin_zero]
    rw [hq, hr]
    grind
  | i + 1, b :: A, q :: h, f, a, hl, e, hz, h1 => by
    have ih := lin_unit i A h f a (Nat.succ.inj hl) e (fun k p hk hne => hz (k + 1) p hk (by omega)) (fun p hp => h1 p hp)
    have hq : f q = 0 := hz 0 q rfl (by omega)
    funext j
    show f q * b j + lin (h.map f) A j = a j
    rw [hq, ih]
    grind
/-- a row that is spanned is told by what it has at the heads -/
theorem Rr.coord {A : List (Row F)} {h : List Nat} (R : Rr A h) {v : Row F} (hv : InS A v) : v = lin (h.map v) A := by
  refine hv (fun v => v = lin (h.map v) A) ⟨?_, fun u w hu hw => ?_, fun c u hu => ?_⟩ fun r hr => ?_
  · exact (lin_zero h A).symm
  · have e := lin_add u w h A
    rw [e, ← hu, ← hw]
  · have e := lin_mul c u h A
    rw [e, ← hu]
  · obtain ⟨i, hi⟩ := List.getElem?_of_mem hr
    exact (lin_unit i A h r r R.len hi (fun k p hk hne => R.nul i k r p hi hk (fun z => hne z.symm)) fun p hp => R.one i r p hi hp).symm
/-- a sum that isn't nought has a part that isn't -/
theorem lin_ne {p : Nat} : ∀ (A : List (Row F)) (h : List Nat) (f : Nat → F), A.length = h.length → lin (h.map f) A p ≠ 0 → ∃ (i : Nat) (a : Row F) (q : Nat), A[i]? = some a ∧ h[i]? = some q ∧ f q ≠ 0 ∧ a p ≠ 0
  | [], [], _, _, hne => absurd rfl hne
  | [], _ :: _, _, hl, _ => by cases hl
  | _ :: _, [], _, hl, _ => by cases hl
  | a :: A, q :: h, f, hl, hne => by
    have hne' : f q * a p + lin (h.map f) A p ≠ 0 := hne
    by_cases e : f q * a p = 0
    · have h2 : lin (h.map f) A p ≠ 0 := fun z => hne' (by rw [e, z]; grind)
      obtain ⟨i, b, r, h3, h4, h5, h6⟩ := lin_ne A h f (Nat.succ.inj hl) h2
      exact ⟨i + 1, b, r, h3, h4, h5, h6⟩
    · refine ⟨0, a, q, rfl, rfl, fun z => e ?_, fun z => e ?_⟩
      · rw [z]
        grind
      · rw [z]
        grind
/-- the first place of a spanned row that isn't nought is a head -/
theorem Rr.lead {A : List (Row F)} {h : List Nat} (R : Rr A h) {v : Row F} (hv : InS A v) {p : Nat} (hp : v p ≠ 0) (h0 : ∀ j, j < p → v j = 0) : p ∈ h := by
  have e := R.coord hv
  have hp' : lin (h.map v) A p ≠ 0 := fun z => hp (by rw [e]; exact z)
  obtain ⟨i, a, q, hi, hq, h1, h2⟩ := lin_ne A h v R.len hp'
  have hge : p ≤ q := Nat.le_of_not_lt fun z => h1 (h0 q z)
  have hle : q ≤ p := Nat.le_of_not_lt fun z => h2 (R.ahead i a q p hi hq z)
  have : p = q := by omega
  rw [this]
  exact List.mem_of_getElem? hq
theorem inc_eq : ∀ (h k : List Nat), (∀ (i j p q : Nat), h[i]? = some p → h[j]? = some q → i < j → p < q) → (∀ (i j p q : Nat), k[i]? = some p → k[j]? = some q → i < j → p < q) → (∀ p, p ∈ h ↔ p ∈ k) → h = k
  | [], [], _, _, _ => rfl
  | [], q :: k, _, _, hm => absurd ((hm q).mpr List.mem_cons_self) (by intro z; cases z)
  | p :: h, [], _, _, hm => absurd ((hm p).mp List.mem_cons_self) (by intro z; cases z)
  | p :: h, q :: k, hh, hk, hm => by
    have below : ∀ x ∈ h, p < x := fun x hx => by
      obtain ⟨i, hi⟩ := List.getElem?_of_mem hx
      exact hh 0 (i + 1) p x rfl hi (by omega)
    have below2 : ∀ x ∈ k, q < x := fun x hx => by
      obtain ⟨i, hi⟩ := List.getElem?_of_mem hx
      exact hk 0 (i + 1) q x rfl hi (by omega)
    have epq : p = q := by
      have h1 := (hm p).mp List.mem_cons_self
      have h2 := (hm q).mpr List.mem_cons_self
      rcases List.mem_cons.mp h1 with z | z
      · exact z
      · rcases List.mem_cons.mp h2 with y | y
        · exact y.symm
        · have := below2 p z
          have := below q y
          omega
    subst epq
    have ih := inc_eq h k (fun i j a b ha hb hij => hh (i + 1) (j + 1) a b ha hb (by omega)) (fun i j a b ha hb hij => hk (i + 1) (j + 1) a b ha hb (by omega)) fun x => by
      constructor
      · intro hx
        rcases List.mem_cons.mp ((hm x).mp (List.mem_cons_of_mem _ hx)) with z | z
        · have := below x hx
          omega
        · exact z
      · intro hx
        rcases List.mem_cons.mp ((hm x).mpr (List.mem_cons_of_mem _ hx)) with z | z
        · have := below2 x hx
          omega
        · exact z
    rw [ih]
/-- least rows that span the same are the same -/
theorem Rr.uniq {A B : List (Row F)} {h k : List Nat} (n1 : (1 : F) ≠ 0) (R : Rr A h) (T : Rr B k) (hAB : ∀ r ∈ A, InS B r) (hBA : ∀ r ∈ B, InS A r) : A = B ∧ h = k := by
  have heads : ∀ {A B : List (Row F)} {h k : List Nat}, Rr A h → Rr B k → (∀ r ∈ A, InS B r) → ∀ p ∈ h, p ∈ k := fun {A B h k} R T hAB p hp => by
    obtain ⟨i, hi⟩ := List.getElem?_of_mem hp
    have hlt : i < A.length := by rw [R.len]; exact (List.getElem?_eq_some_iff.mp hi).1
    have ha : A[i]? = some A[i] := List.getElem?_eq_getElem hlt
    exact T.lead (hAB _ (List.getElem_mem hlt)) (fun z => n1 (by rw [← R.one i _ p ha hi]; exact z)) fun j hj => R.ahead i _ p j ha hi hj
  have ehk : h = k := inc_eq h k R.inc T.inc fun p => ⟨heads R T hAB p, heads T R hBA p⟩
  subst ehk
  refine ⟨List.ext_getElem? fun i => ?_, rfl⟩
  have hl : A.length = B.length := R.len.trans T.len.symm
  by_cases hi : i < A.length
  · have ha : A[i]? = some A[i] := List.getElem?_eq_getElem hi
    have hb : B[i]? = some (B[i]'(by omega)) := List.getElem?_eq_getElem (by omega)
    have e := T.coord (hAB _ (List.getElem_mem hi))
    have e2 := lin_unit i B h A[i] (B[i]'(by omega)) T.len hb (fun q p hq hne => R.nul i q _ p ha hq (fun z => hne z.symm)) fun p hp => R.one i _ p ha hp
    rw [ha, hb]
    exact congrArg some (e.trans e2)
  · rw [List.getElem?_eq_none (by omega), List.getElem?_eq_none (by omega)]
/-- a row less what of it a head's row clears at a place -/
def clr (k : Nat) (b a : Row F) : Row F := fun j => a j + -(a k) * b j
theorem clr_at {k : Nat} {b a : Row F} (hb : b k = 1) : clr k b a k = 0 := by
  unfold clr
  rw [hb]
  grind
theorem clr_nul {k j : Nat} {b a : Row F} (hb : b j = 0) : clr k b a j = a j := by
  unfold clr
  rw [hb]
  grind
/-- one head more -/
theorem Rr.step {A : List (Row F)} {h : List Nat} (R : Rr A h) {k : Nat} {b : Row F} (hk : ∀ p ∈ h, p < k) (hb : b k = 1) (h0 : ∀ j, j < k → b j = 0) : Rr (A.map (clr k b) ++ [b]) (h ++ [k]) := by
  have hl : (A.map (clr k b)).length = h.length := by rw [List.length_map, R.len]
  have look : ∀ (i : Nat) (a : Row F), (A.map (clr k b) ++ [b])[i]? = some a → (i < h.length ∧ ∃ a0, A[i]? = some a0 ∧ a = clr k b a0) ∨ (i = h.length ∧ a = b) := fun i a e => by
    by_cases hi : i < h.length
    · rw [List.getElem?_append_left (by omega), List.getElem?_map] at e
      have ha : A[i]? = some (A[i]'(by rw [R.len]; exact hi)) := List.getElem?_eq_getElem _
      rw [ha] at e
      exact .inl ⟨hi, _, ha, (Option.some.inj e).symm⟩
    · rw [List.getElem?_append_right (by omega), hl] at e
      cases hd : i - h.length with
      | zero =>
        rw [hd] at e
        exact .inr ⟨by omega, (Option.some.inj e).symm⟩
      | succ n =>
        rw [hd] at e
        cases e
  have lookh : ∀ (i p : Nat), (h ++ [k])[i]? = some p → (i < h.length ∧ h[i]? = some p) ∨ (i = h.length ∧ p = k) := fun i p e => by
    by_cases hi : i < h.length
    · rw [List.getElem?_append_left hi] at e
      exact .inl ⟨hi, e⟩
    · rw [List.getElem?_append_right (by omega)] at e
      cases hd : i - h.length with
      | zero =>
        rw [hd] at e
        exact .inr ⟨by omega, (Option.some.inj e).symm⟩
      | succ n =>
        rw [hd] at e
        cases e
  refine ⟨by rw [List.length_append, List.length_append, hl]; rfl, fun i q p r hp hr hiq => ?_, fun i a p ha hp => ?_, fun i q a p ha hp hne => ?_, fun i a p j ha hp hj => ?_⟩
  · rcases lookh i p hp with ⟨h1, e1⟩ | ⟨h1, e1⟩
    · rcases lookh q r hr with ⟨h2, e2⟩ | ⟨h2, e2⟩
      · exact R.inc i q p r e1 e2 hiq
      · rw [e2]
        exact hk p (List.mem_of_getElem? e1)
    · rcases lookh q r hr with ⟨h2, e2⟩ | ⟨h2, e2⟩ <;> omega
  · rcases look i a ha with ⟨h1, a0, e0, rfl⟩ | ⟨h1, rfl⟩
    · rcases lookh i p hp with ⟨_, e1⟩ | ⟨h2, e1⟩
      · rw [clr_nul (h0 p (hk p (List.mem_of_getElem? e1)))]
        exact R.one i a0 p e0 e1
      · omega
    · rcases lookh i p hp with ⟨h2, e1⟩ | ⟨_, e1⟩
      · omega
      · rw [e1]
        exact hb
  · rcases look i a ha with ⟨h1, a0, e0, rfl⟩ | ⟨h1, rfl⟩
    · rcases lookh q p hp with ⟨_, e1⟩ | ⟨h2, e1⟩
      · rw [clr_nul (h0 p (hk p (List.mem_of_getElem? e1)))]
        exact R.nul i q a0 p e0 e1 hne
      · rw [e1]
        exact clr_at hb
    · rcases lookh q p hp with ⟨h2, e1⟩ | ⟨h2, e1⟩
      · exact h0 p (hk p (List.mem_of_getElem? e1))
      · omega
  · rcases look i a ha with ⟨h1, a0, e0, rfl⟩ | ⟨h1, rfl⟩
    · rcases lookh i p hp with ⟨_, e1⟩ | ⟨h2, e1⟩
      · have := hk p (List.mem_of_getElem? e1)
        rw [clr_nul (h0 j (by omega))]
        exact R.ahead i a0 p j e0 e1 hj
      · omega
    · rcases lookh i p hp with ⟨h2, e1⟩ | ⟨_, e1⟩
      · omega
      · rw [e1] at hj
        exact h0 j hj
/-- clearing changes nothing in what is spanned -/
theorem clr_span {L M : List (Row F)} {k : Nat} {b a : Row F} (hb : InS M b) (ha : InS M a) : InS M (clr k b a) := by
  have s := InS.spc M
  exact s.add a (fun j => -(a k) * b j) ha (s.mul (-(a k)) b hb)
theorem clr_back {M : List (Row F)} {k : Nat} {b a : Row F} (hb : InS M b) (hc : InS M (clr k b a)) : InS M a := by
  have s := InS.spc M
  have e : a = fun j => clr k b a j + (a k) * b j := by
    funext j
    unfold clr
    grind
  rw [e]
  exact s.add _ _ hc (s.mul (a k) b hb)
/-- rows that are nought everywhere span nothing -/
theorem ins_nought {L M : List (Row F)} {v : Row F} (h : InS (L ++ M) v) (hz : ∀ r ∈ M, r = fun _ => 0) : InS L v :=
  h.trans fun r hr => (List.mem_append.mp hr).elim InS.mem fun hm => by rw [hz r hm]; exact (InS.spc L).zero
end Fr

namespace Fm
open Lean.Grind
/-- numbers of the ground g as elements of a field: e of a number, i of a whole number -/
structure GV (g : Int) (F : Type) [CommRing F] where
  i : Int → F
  e : Int × Int → F
  iadd : ∀ a b, i (a + b) = i a + i b
  imul : ∀ a b, i (a * b) = i a * i b
  i0 : i 0 = 0
  i1 : i 1 = 1
  ker : ∀ z, i z = 0 → (g = 0 → z = 0) ∧ (g ≠ 0 → z.fmod g = 0)
  inv : ∀ x : F, x ≠ 0 → ∃ y, x * y = 1
  ei : ∀ a : Int × Int, a.2 ≠ 0 → (g ≠ 0 → a.2.fmod g ≠ 0) → e a * i a.2 = i a.1
  ne : (1 : F) ≠ 0
  gz : g ≠ 0 → i g = 0
section
variable {g : Int} {F : Type} [CommRing F] (V : GV g F)
include V in
theorem GV.dom {x y : F} (h : x * y = 0) (hx : x ≠ 0) : y = 0 := by
  obtain ⟨z, hz⟩ := V.inv x hx
  have : y = (x * z) * y := by rw [hz]; grind
  grind
include V in
theorem GV.cancel {x y z : F} (h : x * z = y * z) (hz : z ≠ 0) : x = y := by
  obtain ⟨w, hw⟩ := V.inv z hz
  have e1 : x = x * z * w := by grind
  have e2 : y = y * z * w := by grind
  rw [e1, e2, h]
theorem GV.ineg (a : Int) : V.i (-a) = -V.i a := by
  have h := V.iadd a (-a)
  rw [Int.add_right_neg, V.i0] at h
  grind
theorem GV.isub (a b : Int) : V.i (a - b) = V.i a - V.i b := by
  rw [Int.sub_eq_add_neg, V.iadd, V.ineg]
  grind
theorem GV.ine {d : Int} (h : d ≠ 0) (h2 : g ≠ 0 → d.fmod g ≠ 0) : V.i d ≠ 0 := fun z => by
  by_cases hg : g = 0
  · exact h ((V.ker d z).1 hg)
  · exact h2 hg ((V.ker d z).2 hg)
theorem TN.inv {k : Nat} {a : Int × Int} (hg : g = 0 ∨ Gr5 g) (h : TN g k a) : a.2 ≠ 0 ∧ (g ≠ 0 → a.2.fmod g ≠ 0) := by
  refine ⟨by have := h.pos; omega, fun z => ?_⟩
  rw [h.one (h.gpos z)]
  exact one_fmod (hg.resolve_left z)
theorem GV.tn {k : Nat} {a : Int × Int} (hg : g = 0 ∨ Gr5 g) (h : TN g k a) : V.e a * V.i a.2 = V.i a.1 ∧ V.i a.2 ≠ 0 := ⟨V.ei a (h.inv hg).1 (h.inv hg).2, V.ine (h.inv hg).1 (h.inv hg).2⟩
/-- numbers are told by their elements -/
theorem GV.inj {k l : Nat} {a b : Int × Int} (hg : g = 0 ∨ Gr5 g) (ha : TN g k a) (hb : TN g l b) (h : V.e a = V.e b) : a = b := by
  obtain ⟨e1, n1⟩ := V.tn hg ha
  obtain ⟨e2, n2⟩ := V.tn hg hb
  have e3 : V.i (a.1 * b.2 - b.1 * a.2) = 0 := by
    rw [V.isub, V.imul, V.imul, ← e1, ← e2, h]
    grind
  rcases hg with rfl | h5
  · have := (V.ker _ e3).1 rfl
    exact red_uniq ha.red hb.red (by omega)
  · have g0 : 0 < g := by unfold Gr5 at h5; omega
    have h1 := ha.one g0
    have h2 := hb.one g0
    have e4 := (V.ker _ e3).2 (by omega)
    rw [h1, h2, Int.mul_one, Int.mul_one, fmod_pos _ g0] at e4
    rcases ha.1 with ⟨z, _⟩ | ⟨_, a0, a1, _⟩
    · omega
    rcases hb.1 with ⟨z, _⟩ | ⟨_, b0, b1, _⟩
    · omega
    have e5 : a.1 % g = b.1 % g := Int.emod_eq_emod_iff_emod_sub_eq_zero.mpr e4
    rw [Int.emod_eq_of_lt a0 a1, Int.emod_eq_of_lt b0 b1] at e5
    exact Prod.ext e5 (by rw [h1, h2])
/-- what lowest terms come to -/
theorem GV.low {u d : Int} (hg : g = 0 ∨ Gr5 g) (hd : d ≠ 0) (h2 : g ≠ 0 → d.fmod g ≠ 0) : V.e (lowF g u d) * V.i d = V.i u := by
  obtain ⟨K, h4, hu, hdd⟩ : ∃ K, 4 ≤ K ∧ u.natAbs < 2 ^ K ∧ d.natAbs < 2 ^ K := by
    refine ⟨u.natAbs + d.natAbs + 4, by omega, ?_, ?_⟩
    · exact Nat.lt_of_lt_of_le Nat.lt_two_pow_self (Nat.pow_le_pow_right (by decide) (by omega))
    · exact Nat.lt_of_lt_of_le Nat.lt_two_pow_self (Nat.pow_le_pow_right (by decide) (by omega))
  have t := tn_low (u := u) hg hd h2 h4 hu hdd
  obtain ⟨e1, n1⟩ := V.tn hg t
  refine V.cancel ?_ n1
  have e3 : V.i ((lowF g u d).1 * d) = V.i (u * (lowF g u d).2) := by
    rcases hg with rfl | h5
    · rw [(low0_red hd).2]
    · have g0 : 0 < g := by unfold Gr5 at h5; omega
      obtain ⟨f, f1, f2, f3⟩ := inv_of h5 (h2 (by omega))
      rw [low_inv g0 f3]
      show V.i ((u * f).fmod g * d) = V.i (u * 1)
      have e4 : V.i ((u * f).fmod g * d - u * 1) = 0 := by
        have e5 : ((u * f).fmod g * d - u * 1) = g * (u * (f * d).fdiv g - (u * f).fdiv g * d) := by
          have m1 := Int.mul_fdiv_add_fmod (u * f) g
          have m2 := Int.mul_fdiv_add_fmod (f * d) g
          rw [f3] at m2
          have x1 : (u * f).fmod g = u * f - g * (u * f).fdiv g := by omega
          have x2 : (1 : Int) = f * d - g * (f * d).fdiv g := by omega
          rw [x1]
          have x3 : u * 1 = u * (f * d - g * (f * d).fdiv g) := by rw [← x2]
          rw [x3]
          grind
        rw [e5, V.imul]
        have ig : V.i g = 0 := by
          exact V.gz (by omega)
        rw [ig]
        grind
      rw [V.isub] at e4
      grind
  rw [V.imul, V.imul] at e3
  grind
theorem GV.plus {k l : Nat} {a c : Int × Int} (hg : g = 0 ∨ Gr5 g) (ha : TN g k a) (hc : TN g l c) : V.e (plusF g a c) = V.e a + V.e c := by
  obtain ⟨e1, n1⟩ := V.tn hg ha
  obtain ⟨e2, n2⟩ := V.tn hg hc
  have hd : a.2 * c.2 ≠ 0 := Int.mul_ne_zero (ha.inv hg).1 (hc.inv hg).1
  have hd2 : g ≠ 0 → (a.2 * c.2).fmod g ≠ 0 := fun z => by
    have g0 := ha.gpos z
    rw [ha.one g0, hc.one g0]
    exact one_fmod (hg.resolve_left z)
  have e3 := V.low (u := a.1 * c.2 + c.1 * a.2) hg hd hd2
  have n3 := V.ine hd hd2
  refine V.cancel (z := V.i (a.2 * c.2)) ?_ n3
  show V.e (lowF g (a.1 * c.2 + c.1 * a.2) (a.2 * c.2)) * V.i (a.2 * c.2) = _
  rw [e3, V.iadd, V.imul, V.imul, V.imul, ← e1, ← e2]
  grind
theorem GV.times {k l : Nat} {a c : Int × Int} (hg : g = 0 ∨ Gr5 g) (ha : TN g k a) (hc : TN g l c) : V.e (timesF g a c) = V.e a * V.e c := by
  obtain ⟨e1, n1⟩ := V.tn hg ha
  obtain ⟨e2, n2⟩ := V.tn hg hc
  have hd : a.2 * c.2 ≠ 0 := Int.mul_ne_zero (ha.inv hg).1 (hc.inv hg).1
  have hd2 : g ≠ 0 → (a.2 * c.2).fmod g ≠ 0 := fun z => by
    have g0 := ha.gpos z
    rw [ha.one g0, hc.one g0]
    exact one_fmod (hg.resolve_left z)
  have e3 := V.low (u := a.1 * c.1) hg hd hd2
  have n3 := V.ine hd hd2
  refine V.cancel (z := V.i (a.2 * c.2)) ?_ n3
  show V.e (lowF g (a.1 * c.1) (a.2 * c.2)) * V.i (a.2 * c.2) = _
  rw [e3, V.imul, V.imul, ← e1, ← e2]
  grind
theorem GV.minus {k : Nat} {a : Int × Int} (hg : g = 0 ∨ Gr5 g) (ha : TN g k a) : V.e (minusF g a) = -V.e a := by
  obtain ⟨e1, n1⟩ := V.tn hg ha
  have e3 := V.low (u := 0 - a.1) hg (ha.inv hg).1 (ha.inv hg).2
  refine V.cancel (z := V.i a.2) ?_ n1
  show V.e (lowF g (0 - a.1) a.2) * V.i a.2 = _
  rw [e3, V.isub, V.i0, ← e1]
  grind
def overF (g : Int) (x y : Int × Int) : Int × Int := lowF g (x.1 * y.2) (x.2 * y.1)
theorem TN.top {k : Nat} {a : Int × Int} (h : TN g k a) (hz : a.1 ≠ 0) : g ≠ 0 → a.1.fmod g ≠ 0 := fun z => by
  have g0 := h.gpos z
  rcases h.1 with ⟨e, _⟩ | ⟨_, a0, a1, _⟩
  · exact absurd e z
  · rw [fmod_pos _ g0, Int.emod_eq_of_lt a0 a1]
    exact hz
theorem GV.over {k l : Nat} {a c : Int × Int} (hg : g = 0 ∨ Gr5 g) (ha : TN g k a) (hc : TN g l c) (hz : c.1 ≠ 0) : V.e (overF g a c) * V.e c = V.e a := by
  obtain ⟨e1, n1⟩ := V.tn hg ha
  obtain ⟨e2, n2⟩ := V.tn hg hc
  have hd : a.2 * c.1 ≠ 0 := Int.mul_ne_zero (ha.inv hg).1 hz
  have hd2 : g ≠ 0 → (a.2 * c.1).fmod g ≠ 0 := fun z => by
    have g0 := ha.gpos z
    rw [ha.one g0, Int.one_mul]
    exact hc.top hz z
  have e3 := V.low (u := a.1 * c.2) hg hd hd2
  have n3 := V.ine hz (hc.top hz)
  refine V.cancel (z := V.i a.2 * V.i c.2) ?_ (fun z => n2 (V.dom z n1))
  have e4 : V.e (overF g a c) * V.i (a.2 * c.1) = V.i (a.1 * c.2) := e3
  rw [V.imul, V.imul] at e4
  grind
theorem GV.zero : V.e (0, 1) = 0 := by
  have h := V.ei (0, 1) (by decide) (fun z => ?_)
  · rw [V.i0, V.i1] at h
    grind
  · show (1 : Int).fmod g ≠ 0
    intro w
    have := V.ker 1
    rw [V.i1] at this
    have h5 : ∃ x : Int, 1 = g * x := ⟨(1 : Int).fdiv g, by have := Int.mul_fdiv_add_fmod 1 g; omega⟩
    obtain ⟨x, hx⟩ := h5
    have h6 := V.imul g x
    rw [← hx, V.i1, V.gz z] at h6
    exact V.ne (by grind)
theorem GV.one : V.e (1, 1) = 1 := by
  have h := V.ei (1, 1) (by decide) (fun z => ?_)
  · rw [V.i1] at h
    grind
  · show (1 : Int).fmod g ≠ 0
    intro w
    have h5 : ∃ x : Int, 1 = g * x := ⟨(1 : Int).fdiv g, by have := Int.mul_fdiv_add_fmod 1 g; omega⟩
    obtain ⟨x, hx⟩ := h5
    have h6 := V.imul g x
    rw [← hx, V.i1, V.gz z] at h6
    exact V.ne (by grind)
end
/-- the fractions -/
def gvQ : GV 0 Rat where
  i := fun z => (z : Rat)
  e := qv
  iadd := fun a b => by exact_mod_cast rfl
  imul := fun a b => by exact_mod_cast rfl
  i0 := by exact_mod_cast rfl
  i1 := by exact_mod_cast rfl
  ker := fun z h => ⟨fun _ => by exact_mod_cast h, fun w => absurd rfl w⟩
  inv := fun x hx => ⟨x⁻¹, by grind⟩
  ei := fun a h _ => by
    have := rat_ne h
    unfold qv
    grind
  ne := by decide
  gz := fun w => absurd rfl w
/-- a wheel -/
def fi (n : Nat) [NeZero n] (z : Int) : Fin n := @IntCast.intCast (Fin n) Ring.intCast z
theorem fi_zero (n : Nat) [NeZero n] (z : Int) : fi n z = 0 ↔ z % (n : Int) = 0 := IsCharP.intCast_eq_zero_iff (α := Fin n) n z
theorem fi_sub (n : Nat) [NeZero n] (a b : Int) : fi n (a - b) = fi n a - fi n b := Ring.intCast_sub a b
theorem fi_mul (n : Nat) [NeZero n] (a b : Int) : fi n (a * b) = fi n a * fi n b := Ring.intCast_mul a b
def gvW (n : Nat) [NeZero n] (h1 : 1 < n) (hinv : ∀ x : Fin n, x ≠ 0 → ∃ y, x * y = 1) (h5 : Gr5 (n : Int)) : GV (n : Int) (Fin n) where
  i := fi n
  e := fun a => fi n (lowF (n : Int) a.1 a.2).1
  iadd := fun a b => Ring.intCast_add a b
  imul := fi_mul n
  i0 := Ring.intCast_zero
  i1 := Ring.intCast_one
  ker := fun z h => ⟨fun w => absurd w (by omega), fun _ => by
    have := (fi_zero n z).mp h
    rw [fmod_pos _ (by omega)]
    exact this⟩
  inv := hinv
  ei := fun a h h2 => by
    have g0 : (0 : Int) < (n : Int) := by omega
    obtain ⟨f, f1, f2, f3⟩ := inv_of h5 (h2 (by omega))
    rw [low_inv g0 f3]
    show fi n ((a.1 * f).fmod (n : Int)) * fi n a.2 = fi n a.1
    have e4 : fi n ((a.1 * f).fmod (n : Int) * a.2 - a.1) = 0 := by
      refine (fi_zero n _).mpr ?_
      have e5 : ((a.1 * f).fmod (n : Int) * a.2 - a.1) = (n : Int) * (a.1 * (f * a.2).fdiv n - (a.1 * f).fdiv n * a.2) := by
        have m1 := Int.mul_fdiv_add_fmod (a.1 * f) n
        have m2 := Int.mul_fdiv_add_fmod (f * a.2) n
        rw [f3] at m2
        have x1 : (a.1 * f).fmod (n : Int) = a.1 * f - n * (a.1 * f).fdiv n := by omega
        have x2 : (1 : Int) = f * a.2 - n * (f * a.2).fdiv n := by omega
        rw [x1]
        have x3 : a.1 = a.1 * (f * a.2 - n * (f * a.2).fdiv n) := by rw [← x2, Int.mul_one]
        grind
      rw [e5]
      exact Int.mul_emod_right _ _
    rw [fi_sub, fi_mul] at e4
    grind
  ne := fun z => by
    have := (fi_zero n 1).mp (by rw [← z]; exact Ring.intCast_one)
    rw [Int.emod_eq_of_lt (by omega) (by omega)] at this
    omega
  gz := fun _ => (fi_zero n n).mpr (Int.emod_self)
theorem gvW_5 {g : Int} (h : Gr5 g) : ∃ n : Nat, ∃ _ : NeZero n, ∃ V : GV g (Fin n), True := by
  unfold Gr5 at h
  rcases h with rfl | rfl | rfl | rfl | rfl
  · exact ⟨3, inferInstance, gvW 3 (by decide) (by decide) (by unfold Gr5; omega), trivial⟩
  · exact ⟨5, inferInstance, gvW 5 (by decide) (by decide) (by unfold Gr5; omega), trivial⟩
  · exact ⟨7, inferInstance, gvW 7 (by decide) (by decide) (by unfold Gr5; omega), trivial⟩
  · exact ⟨11, inferInstance, gvW 11 (by decide) (by decide) (by unfold Gr5; omega), trivial⟩
  · exact ⟨13, inferInstance, gvW 13 (by decide) (by decide) (by unfold Gr5; omega), trivial⟩
/-- every ground has its field -/
theorem gv_any {g : Int} (h : g = 0 ∨ Gr5 g) : ∃ F : Type, ∃ _ : CommRing F, Nonempty (GV g F) := by
  rcases h with rfl | h
  · exact ⟨Rat, inferInstance, ⟨gvQ⟩⟩
  · obtain ⟨n, hn, V, _⟩ := gvW_5 h
    exact ⟨Fin n, inferInstance, ⟨V⟩⟩
end Fm

namespace PySem
namespace Fm6
open PySem.W
/-- what a built-in exception class tells of its own __init__ when it stands behind super() -/
structure SupB (B ini : String) (tl : List Value) : Prop where
  typ : typeOf (.builtin ini) = pure (.type "wrapper_descriptor")
  nam : (kfb_private% "nameAndClass") (Value.builtin ini) = (pure (("__init__" : Str), Value.type B) : Sem (Str × Value))
  along : ∀ K : W.Frag, W.alongIn K "__init__" tl = some (some (.builtin ini))
  quiet : ini.startsWith "lifetime." = false
/-- __init__ of a built-in class, bound to x -/
abbrev bnd (ini : String) (x : Addr) : Obj := { cls := .type "method-wrapper", dict := none, data := .fields #[.builtin ini, .ref x], slots := #[] }
section
variable {prog : Program} {w : World} {M : Model} {A : Around} {E : Value → Shared → Prop} {h : Heap} {g : Array GenState} {d : Drawn} {t : Nat} {os : OsState} {B ini : String} {tl : List Value}
end
section
open PySem.Calls PyProof.Rows
variable {prog : Program} {w : World} {M : Model} {A : Around} {E : Value → Shared → Prop} {s : Shared} {ini : String}
end
section
variable {prog : Program} {w : World} {A : Around} {E : Value → Shared → Prop} {h : Heap} {g : Array GenState} {d : Drawn} {t : Nat} {os : OsState} {B ini newId : String} {bmB : List Value}
variable {nm q : Str} {C N : Addr} {bs bm : List Value} {hdct : Bool} {sn : List Str} {sub : List Value} {ab : Bool} {col : Option Bool} {dd : Option Addr} {k0 k1 k2 k3 k5 : Option Value}
end
end Fm6
end PySem

namespace L2
open PySem PySem.Spec PyProof.Rows
/-- what the written part says of a class of the program right over the built-in class B -/
structure OexB (K : PySem.W.Frag) (C : Addr) (newId : String) (tl : List Value) : Prop where
  cls : ∃ nm q N bs sn sub ab col dd k0 k1 k2 k3 k5, K.lookup C = some (excClassObj nm q C N bs tl true sn sub ab col dd k0 k1 k2 k3 k5 newId)
  sa : PySem.W.findIn K (.ref C) "__setattr__" = some (some (.builtin "object.__setattr__"))
  exC : PySem.W.subIn K (.ref C) (.type "BaseException") = some true
  tyC : PySem.W.typeIn K (.ref C) = some (.type "type")
  kC : PySem.W.keepIn K (.ref C) = true
section
variable {X : Cx} {e : Expr} {es : List Expr} {ta : TA} {p pos : Pos} {B newId ini : String} {tl : List Value}
/-- C(..), C right over B, with an __init__ of its own -/
theorem pmk_oxb {CX : CXT} {x : Str} {C fI : Addr} {k : Nat} {fd : FuncData} {ps : List Str} {sp : Sp} {ds : List Value} {dvs : List V} (G : ExcBaseFacts B newId ini tl) (T : OexB X.K C newId tl) (iC : PySem.W.findIn X.K (.ref C) "__init__" = some (some (.ref fI)))
    (tI : PySem.W.typeIn X.K (.ref fI) = some (.type "function")) (F1 : FnOk X.prog X.w X.K X.mg X.base CX k fI fd ps sp) (hr : Room (k + 1) X.A) (hb : Binds X.K fd ps ds) (hd : Vals dvs ds) (hx : Passes CX X (fun _ _ _ => False)) (hg : Gl X x) (hm : X.mg x = some (.ref C))
    (ha : PA X (e :: es) ta) (hdb : (x == ("__debug__" : Str)) = false := by decide) (he : starEach (e :: es) X.env = (false, eval e X.env) :: starEach es X.env := by rfl) (hpl : (backTo pos (starEach es X.env)).any (·.1) = false := by rfl) :
    PMk X (.Call (.Name x p) (e :: es) [] pos) (tMkO C sp dvs ta) := by
  intro pins s σ H Q I h
  obtain ⟨nm, q, N, bs, sn, sub, ab, col, dd, k0, k1, k2, k3, k5, hC⟩ := T.cls
  refine wpAny_Call_Name_kw (ld_glob I hg hm ?_ hdb)
  refine PySem.W.callWith_K (h₀ := X.base) I.ok.mod.kin T.kC (thn (ha.run pos pins s σ H _ I h) fun us s1 b1 => ?_) he hpl
  obtain ⟨vs, H1, I1, r1, hz, q1⟩ := b1
  refine ⟨I1.kIn, ?_⟩
  show wpAny _ _ (call (.ref C) us) _ _ _
  obtain ⟨hp, g, dr, tk, os⟩ := s1
  have b2 : H1 (hp.objs.size + 1) = none := I1.hok.fresh (Nat.le_succ _)
  have b3 := q1 (hp.objs.size + 1) b2
  have b4 : ∀ b o, hp.get? b = some o → ((hp.push (PySem.W.kdv_tup us)).push (PySem.HandSPX.excO C hp.objs.size)).get? b = some o := fun b o z => Heap.get?_push_of_some _ (Heap.get?_push_of_some _ z)
  have b5 : ((hp.push (PySem.W.kdv_tup us)).push (PySem.HandSPX.excO C hp.objs.size)).get? (hp.objs.size + 1) = some (PySem.HandSPX.excO C hp.objs.size) := by heap_get
  have I2 := I1.laid (t' := tk) (a := hp.objs.size + 1) (o := exo (hp.objs.size + 1) C none) b4 (Nat.le_succ _) (exo_ok b5)
  have b6 : Vals (V.ref (hp.objs.size + 1) :: (vs ++ dvs)) (Value.ref (hp.objs.size + 1) :: (us ++ ds)) := .cons rfl (r1.append hd)
  have b7 : (Value.ref (hp.objs.size + 1) :: us ++ ds).length = ps.length := ((F1.len _ _ _ _ b3).symm.trans b6.length).symm
  have b8 : us.length ≤ sizeLine := by
    have := Paired.length r1
    rw [sizeLine_eq]
    omega
  refine wpAny_call (PySem.HandSPX.call_own G (fun Y => rfl) (I1.kIn _ _ hC) (PySem.W.looks_findIn I1.kIn iC) (fun self => PySem.W.bind_fn I1.kIn self tI) b8 ?_)
  refine codeAny_mono (F1.run _ X.stack _ _ ⟨Value.ref (hp.objs.size + 1) :: us, []⟩ (Value.ref (hp.objs.size + 1) :: (us ++ ds)) _ _ (fun _ _ _ => False) (hr.make C us []) (I2.env0.make C us []) (hb _ (Value.ref (hp.objs.size + 1) :: us) I2.kIn b7) b6 b3) fun r s' b9 => ?_
  cases r with
  | error er => exact hx pins σ _ _ er s' I2 b9
  | ok fl =>
    cases fl with
    | ret u =>
      obtain ⟨v, H2, os2, bare2, un2, hok2, rv, ev, d, fs, ea, ed, hd1, q2⟩ := b9
      subst ev
      obtain ⟨h2, g2, d2, t2, os'⟩ := s'
      exact ⟨rv, mk_end (raises_own T.exC T.tyC) I1 (Nat.le_succ _) b4 un2 hok2 os2 bare2 ea ed hd1 q2⟩
    | next => exact False.elim b9
    | brk => exact False.elim b9
    | cont => exact False.elim b9
end
end L2

namespace PySem
namespace Fm6
open PySem.W Builtin Builtin.ObjectAttr
section
variable {prog : Program} {w : World} {A : Around} {R : Result → Shared → Prop} {hp : Heap} {g : Array GenState} {d : Drawn} {t : Nat} {os : OsState} {tl : List Value}
end
end Fm6
end PySem

namespace PySem
namespace Fm6
open PySem.W PySem.Calls PyProof.Rows Builtin Builtin.ObjectAttr
/-- the two rows of such an __init__ -/
abbrev iBody (txt sf fld par : Str) (p0 p1 p2 p3 p4 p5 q0 q1 q2 q3 : Pos) (j : Nat) : List Stmt :=
  [.Expr (.Call (.Attribute (.Call (.Name "super" p0) [] [] p1) "__init__" p2) [.Constant (.str txt) j p5] [] p3) p4, .Assign [.Attribute (.Name sf q0) fld q1] (.Name par q2) q3]
section
variable {prog : Program} {w : World} {A : Around} {E : Value → Shared → Prop} {h : Heap} {g : Array GenState} {d : Drawn} {t : Nat} {os : OsState} {B ini newId : String} {tl : List Value} {K : Frag}
variable {nm q : Str} {C N : Addr} {bs : List Value} {sn : List Str} {sub : List Value} {ab : Bool} {col : Option Bool} {dd : Option Addr} {k0 k1 k2 k3 k5 : Option Value}
end
end Fm6
end PySem

namespace L2
open PySem PySem.Spec PyProof.Rows PySem.W PySem.Fm6
/-- what such an __init__ promises -/
def spInit (C : Addr) (fld : Str) : Sp := fun vs H Q _ => ∃ (a : Addr) (y : V), vs = [.ref a, y] ∧ H a = some (exo a C none) ∧ ∀ dx, H dx = none → dx ≠ a → Q .non (upd (upd H dx (exd dx [(fld, y)])) a (exo a C (some dx)))
section
variable {P : Program} {w : World} {K : Frag} {mg : Str → Option Value} {base : Heap} {CX : CXT} {k : Nat} {B ini newId : String} {tl : List Value} {C : Addr}
end
end L2

namespace L2N
open PySem PySem.Spec PyProof.Rows L2
section
variable {X : Cx} {e : Expr} {es : List Expr} {ta : TA} {p pos : Pos} {B newId ini : String} {tl : List Value}
/-- C(..), C right over B, with an __init__ of its own -/
theorem pmk_oxb {CX : CXT} {x : Str} {C fI : Addr} {k : Nat} {fd : FuncData} {ps : List Str} {sp : Sp} {ds : List Value} {dvs : List V} (G : ExcBaseFacts B newId ini tl) (T : OexB X.K C newId tl) (iC : PySem.W.findIn X.K (.ref C) "__init__" = some (some (.ref fI)))
    (tI : PySem.W.typeIn X.K (.ref fI) = some (.type "function")) (F1 : FnOk X.prog X.w X.K X.mg X.base CX k fI fd ps sp) (hr : Room (k + 1) X.A) (hb : Binds X.K fd ps ds) (hd : Vals dvs ds) (hx : Passes CX X (fun _ _ _ => False)) (hg : Gl X x) (hm : X.mg x = some (.ref C))
    (ha : PA X (e :: es) ta) (hdb : (x == ("__debug__" : Str)) = false := by decide) (he : starEach (e :: es) X.env = (false, eval e X.env) :: starEach es X.env := by rfl) (hpl : (backTo pos (starEach es X.env)).any (·.1) = false := by rfl) :
    L2N.PMk X (.Call (.Name x p) (e :: es) [] pos) (tMkO C sp dvs ta) := by
  intro pins s σ H Q I h
  obtain ⟨nm, q, N, bs, sn, sub, ab, col, dd, k0, k1, k2, k3, k5, hC⟩ := T.cls
  refine wpAny_Call_Name_kw (ld_glob I hg hm ?_ hdb)
  refine PySem.W.callWith_K (h₀ := X.base) I.ok.mod.kin T.kC (thn (ha.run pos pins s σ H _ I h) fun us s1 b1 => ?_) he hpl
  obtain ⟨vs, H1, I1, r1, hz, q1⟩ := b1
  refine ⟨I1.kIn, ?_⟩
  show wpAny _ _ (call (.ref C) us) _ _ _
  obtain ⟨hp, g, dr, tk, os⟩ := s1
  have b2 : H1 (hp.objs.size + 1) = none := I1.hok.fresh (Nat.le_succ _)
  have b3 := q1 (hp.objs.size + 1) b2
  have b4 : ∀ b o, hp.get? b = some o → ((hp.push (PySem.W.kdv_tup us)).push (PySem.HandSPX.excO C hp.objs.size)).get? b = some o := fun b o z => Heap.get?_push_of_some _ (Heap.get?_push_of_some _ z)
  have b5 : ((hp.push (PySem.W.kdv_tup us)).push (PySem.HandSPX.excO C hp.objs.size)).get? (hp.objs.size + 1) = some (PySem.HandSPX.excO C hp.objs.size) := by heap_get
  have I2 := I1.laid (t' := tk) (a := hp.objs.size + 1) (o := exo (hp.objs.size + 1) C none) b4 (Nat.le_succ _) (exo_ok b5)
  have b6 : Vals (V.ref (hp.objs.size + 1) :: (vs ++ dvs)) (Value.ref (hp.objs.size + 1) :: (us ++ ds)) := .cons rfl (r1.append hd)
  have b7 : (Value.ref (hp.objs.size + 1) :: us ++ ds).length = ps.length := ((F1.len _ _ _ _ b3).symm.trans b6.length).symm
  have b8 : us.length ≤ sizeLine := by
    have := Paired.length r1
    rw [sizeLine_eq]
    omega
  refine wpAny_call (PySem.HandSPX.call_own G (fun Y => rfl) (I1.kIn _ _ hC) (PySem.W.looks_findIn I1.kIn iC) (fun self => PySem.W.bind_fn I1.kIn self tI) b8 ?_)
  refine codeAny_mono (F1.run _ X.stack _ _ ⟨Value.ref (hp.objs.size + 1) :: us, []⟩ (Value.ref (hp.objs.size + 1) :: (us ++ ds)) _ _ (fun _ _ _ => False) (hr.make C us []) (I2.env0.make C us []) (hb _ (Value.ref (hp.objs.size + 1) :: us) I2.kIn b7) b6 b3) fun r s' b9 => ?_
  cases r with
  | error er => exact hx pins σ _ _ er s' I2 b9
  | ok fl =>
    cases fl with
    | ret u =>
      obtain ⟨v, H2, os2, bare2, un2, hok2, rv, ev, d, fs, ea, ed, hd1, q2⟩ := b9
      subst ev
      obtain ⟨h2, g2, d2, t2, os'⟩ := s'
      obtain ⟨t0, G2, J, kG, ge, hoe, na⟩ := mk_end0 (d2 := d2) (t2 := t2) I1 (Nat.le_succ _) b4 un2 hok2 os2 bare2 ea ed hd1
      refine ⟨rv, hp.objs.size + 1, _, _, ⟨G2, g2, d2, t2, os'⟩, _, .ref C, some d, rfl, J, kG, ge, hoe, ⟨rfl, rfl, ?_⟩, rfl, rfl, na, rfl, bare2, raises_own T.exC T.tyC, q2⟩
      intro vs z
      cases z
      rfl
    | next => exact False.elim b9
    | brk => exact False.elim b9
    | cont => exact False.elim b9
end
end L2N

namespace Fm
open PySem PySem.Spec PyProof.Rows L2 PySem.Fm6
/-- what is known of OverNought where it is raised -/
structure OverC (P : Program) (w : World) (K : PySem.W.Frag) (mg : Str → Option Value) (base : Heap) (fI : Addr) (fd : FuncData) : Prop where
  T : OexB K (He.ga K "OverNought") "ZeroDivisionError.__new__" [.type "ZeroDivisionError", .type "ArithmeticError", .type "Exception", .type "BaseException", .type "object"]
  i : PySem.W.findIn K (.ref (He.ga K "OverNought")) "__init__" = some (some (.ref fI))
  ty : PySem.W.typeIn K (.ref fI) = some (.type "function")
  fn : FnOk P w K mg base C8.CX0 1 fI fd ["self", "top"] (spInit (He.ga K "OverNought") "top")
  b : Binds K fd ["self", "top"] []
  g : mg "OverNought" = some (.ref (He.ga K "OverNought"))
/-- one number over another -/
def ovrF (g : Int) (x y : Int × Int) : Int × Int := lowF g (x.1 * y.2) (x.2 * y.1)
theorem TN.topN {g : Int} {k : Nat} {a : Int × Int} (h : TN g k a) (hz : a.1 ≠ 0) : g ≠ 0 → a.1.fmod g ≠ 0 := fun z => by
  have g0 := h.gpos z
  rcases h.1 with ⟨w, _⟩ | ⟨_, a0, a1, _⟩
  · exact absurd w z
  · rw [fmod_pos _ g0, Int.emod_eq_of_lt a0 a1]
    exact hz
end Fm

namespace Fm
open Lean.Grind PySem L2
/-- one number less another -/
def lessF (g : Int) (x y : Int × Int) : Int × Int := lowF g (x.1 * y.2 - y.1 * x.2) (x.2 * y.2)
section
variable {g : Int} {k l : Nat} {a c : Int × Int}
theorem dn2 (hg : g = 0 ∨ Gr5 g) (ha : TN g k a) (hc : TN g l c) : a.2 * c.2 ≠ 0 ∧ (g ≠ 0 → (a.2 * c.2).fmod g ≠ 0) := by
  refine ⟨Int.mul_ne_zero (ha.inv hg).1 (hc.inv hg).1, fun z => ?_⟩
  have g0 := ha.gpos z
  rw [ha.one g0, hc.one g0]
  exact one_fmod (hg.resolve_left z)
theorem dif_lt {u v : Int} {k : Nat} (h1 : u.natAbs < 2 ^ k) (h2 : v.natAbs < 2 ^ k) : (u - v).natAbs < 2 ^ (k + 1) := by
  rw [Nat.pow_succ]
  omega
theorem sum_lt {u v : Int} {k : Nat} (h1 : u.natAbs < 2 ^ k) (h2 : v.natAbs < 2 ^ k) : (u + v).natAbs < 2 ^ (k + 1) := by
  rw [Nat.pow_succ]
  omega
theorem tn_less (hg : g = 0 ∨ Gr5 g) (ha : TN g k a) (hc : TN g l c) (hk : 4 ≤ k) : TN g (k + l + 1) (lessF g a c) :=
  tn_low hg (dn2 hg ha hc).1 (dn2 hg ha hc).2 (by omega) (dif_lt (wide_lt ha.2.1 hc.2.2) (by have := wide_lt hc.2.1 ha.2.2; rwa [Nat.add_comm] at this))
    (Nat.lt_of_lt_of_le (wide_lt ha.2.2 hc.2.2) (Nat.pow_le_pow_right (by decide) (Nat.le_succ _)))
theorem GV.less {F : Type} [CommRing F] (V : GV g F) (hg : g = 0 ∨ Gr5 g) (ha : TN g k a) (hc : TN g l c) : V.e (lessF g a c) = V.e a - V.e c := by
  obtain ⟨e1, n1⟩ := V.tn hg ha
  obtain ⟨e2, n2⟩ := V.tn hg hc
  have e3 := V.low (u := a.1 * c.2 - c.1 * a.2) hg (dn2 hg ha hc).1 (dn2 hg ha hc).2
  have e4 : V.e (lessF g a c) * V.i (a.2 * c.2) = V.i (a.1 * c.2 - c.1 * a.2) := e3
  refine V.cancel (z := V.i a.2 * V.i c.2) ?_ (fun z => n2 (V.dom z n1))
  rw [V.isub, V.imul, V.imul, V.imul] at e4
  grind
/-- less: plus the contrary -/
theorem less_eq (hg : g = 0 ∨ Gr5 g) (ha : TN g k a) (hc : TN g l c) (hk : 4 ≤ k) (hl : 4 ≤ l) : plusF g a (minusF g c) = lessF g a c := by
  obtain ⟨F, R, ⟨V⟩⟩ := gv_any hg
  have m := tn_minus hg hc hl
  refine V.inj hg (tn_plus hg ha m hk) (tn_less hg ha hc hk) ?_
  rw [V.plus hg ha m, V.minus hg hc, V.less hg ha hc]
  grind
/-- what is divided is a number again -/
theorem tn_ovr (hg : g = 0 ∨ Gr5 g) (ha : TN g k a) (hc : TN g l c) (hk : 4 ≤ k) (hz : c.1 ≠ 0) : TN g (k + l) (ovrF g a c) :=
  tn_low hg (Int.mul_ne_zero (ha.inv hg).1 hz) (fun z => by
    rw [ha.one (ha.gpos z), Int.one_mul]
    exact hc.topN hz z) (by omega) (wide_lt ha.2.1 hc.2.2) (wide_lt ha.2.2 hc.2.1)
end
end Fm

namespace Fm
open Lean.Grind PySem L2
/-! ### sums of products, and numbers of four parts -/
section
variable {g : Int} {F : Type} [CommRing F]
theorem tn_zero (hg : g = 0 ∨ Gr5 g) : TN g 4 (0, 1) := by
  refine ⟨?_, by decide, by decide⟩
  rcases hg with h | h
  · exact .inl ⟨h, by decide, by decide⟩
  · refine .inr ⟨?_, by decide, ?_, rfl⟩
    · unfold Gr5 at h; omega
    · show (0 : Int) < g
      unfold Gr5 at h; omega
theorem tn_one (hg : g = 0 ∨ Gr5 g) : TN g 4 (1, 1) := by
  refine ⟨?_, by decide, by decide⟩
  rcases hg with h | h
  · exact .inl ⟨h, by decide, by decide⟩
  · refine .inr ⟨?_, by decide, ?_, rfl⟩
    · unfold Gr5 at h; omega
    · show (1 : Int) < g
      unfold Gr5 at h; omega
theorem GV.fold (V : GV g F) (hg : g = 0 ∨ Gr5 g) {m : Nat} : ∀ (as : List (Int × Int)) (p : Int × Int) (l : Nat), TN g l p → 4 ≤ l → (∀ a ∈ as, TN g m a) → V.e (as.foldl (plusF g) p) = (as.map V.e).foldl (· + ·) (V.e p)
  | [], p, l, hp, _, _ => rfl
  | a :: as, p, l, hp, hl, h => by
    have ha := h a (List.mem_cons_self ..)
    have h1 := tn_plus hg hp ha hl
    rw [List.foldl_cons, V.fold hg as _ _ h1 (by omega) fun b hb => h b (List.mem_cons_of_mem _ hb), List.map_cons, List.foldl_cons, V.plus hg hp ha]
theorem GV.cell (V : GV g F) (hg : g = 0 ∨ Gr5 g) {k l : Nat} {r s : List (Int × Int)} (hr : ∀ a ∈ r, TN g k a) (hs : ∀ a ∈ s, TN g l a) (hk : 4 ≤ k) : V.e (cellF g r s) = (List.zipWith (fun a b => V.e a * V.e b) r s).foldl (· + ·) 0 := by
  unfold cellF
  rw [V.fold hg (List.zipWith (timesF g) r s) (0, 1) 4 (tn_zero hg) (Nat.le_refl _) (m := k + l) (fun a ha => by
    obtain ⟨i, hi, rfl⟩ := List.mem_iff_getElem.mp ha
    rw [List.getElem_zipWith]
    rw [List.length_zipWith] at hi
    exact tn_times hg (hr _ (List.getElem_mem (by omega))) (hs _ (List.getElem_mem (by omega))) hk), V.zero, List.map_zipWith]
  congr 1
  refine List.ext_getElem (by rw [List.length_zipWith, List.length_zipWith]) fun i h1 h2 => ?_
  rw [List.length_zipWith] at h1
  rw [List.getElem_zipWith, List.getElem_zipWith, V.times hg (hr _ (List.getElem_mem (by omega))) (hs _ (List.getElem_mem (by omega)))]
theorem GV.injL (V : GV g F) (hg : g = 0 ∨ Gr5 g) {k l : Nat} : ∀ {r s : List (Int × Int)}, (∀ a ∈ r, TN g k a) → (∀ a ∈ s, TN g l a) → r.map V.e = s.map V.e → r = s
  | [], [], _, _, _ => rfl
  | [], _ :: _, _, _, h => by cases h
  | _ :: _, [], _, _, h => by cases h
  | a :: r, c :: s, hr, hs, h => by
    rw [List.map_cons, List.map_cons] at h
    injection h with h1 h2
    rw [V.inj hg (hr a (List.mem_cons_self ..)) (hs c (List.mem_cons_self ..)) h1, V.injL hg (fun x hx => hr x (List.mem_cons_of_mem _ hx)) (fun x hx => hs x (List.mem_cons_of_mem _ hx)) h2]
theorem TN.okn (hg : g = 0 ∨ Gr5 g) {k : Nat} {a : Int × Int} (h : TN g k a) : OkN g k a := by
  refine ⟨h.2.1, h.2.2, ?_⟩
  rcases hg with e | h5
  · exact .inl ⟨e, h.pos⟩
  · have : 3 ≤ g ∧ g ≤ 13 := by unfold Gr5 at h5; omega
    exact .inr ⟨this.1, this.2, h.one (by omega)⟩
/-- the number -1 -/
def m1F (g : Int) : Int × Int := lowF g (-1) 1
theorem tn_m1 (hg : g = 0 ∨ Gr5 g) : TN g 4 (m1F g) := tn_low hg (by decide) (fun z => one_fmod (hg.resolve_left z)) (Nat.le_refl _) (by decide) (by decide)
theorem GV.m1 (V : GV g F) (hg : g = 0 ∨ Gr5 g) : V.e (m1F g) = -1 := by
  have h := V.low (u := -1) (d := 1) hg (by decide) (fun z => one_fmod (hg.resolve_left z))
  rw [V.i1, V.ineg, V.i1] at h
  unfold m1F
  grind
def negF (g : Int) (x : Int × Int) : Int × Int := timesF g x (m1F g)
theorem tn_neg (hg : g = 0 ∨ Gr5 g) {k : Nat} {a : Int × Int} (h : TN g k a) (hk : 4 ≤ k) : TN g (k + 4) (negF g a) := tn_times hg h (tn_m1 hg) hk
theorem GV.neg (V : GV g F) (hg : g = 0 ∨ Gr5 g) {k : Nat} {a : Int × Int} (h : TN g k a) : V.e (negF g a) = - V.e a := by
  unfold negF
  rw [V.times hg h (tn_m1 hg), V.m1 hg]
  grind
/-- the four times 1, i, j, k -/
def unitsF (g : Int) (a b c d : Int × Int) : List (List (Int × Int)) := [[a, b, c, d], [negF g b, a, d, negF g c], [negF g c, negF g d, a, b], [negF g d, c, negF g b, a]]
def fourF (g : Int) : List (Int × Int) → List (Int × Int) → List (Int × Int)
  | [a, b, c, d], s => (turnF 4 (unitsF g a b c d)).map (cellF g s)
  | _, _ => []
theorem four_is (a b c d : Int × Int) (s : List (Int × Int)) : fourF g [a, b, c, d] s = [cellF g s [a, negF g b, negF g c, negF g d], cellF g s [b, a, negF g d, c], cellF g s [c, d, a, negF g b], cellF g s [d, negF g c, b, a]] := rfl
/-- fours in the field -/
def qmul {F : Type} [CommRing F] : List F → List F → List F
  | [a, b, c, d], [e, f, h, k] => [a * e - b * f - c * h - d * k, a * f + b * e + c * k - d * h, a * h - b * k + c * e + d * f, a * k + b * h - c * f + d * e]
  | _, _ => []
theorem GV.four (V : GV g F) (hg : g = 0 ∨ Gr5 g) {k l : Nat} (hk : 4 ≤ k) (hl : 4 ≤ l) {r s : List (Int × Int)} (hr : ∀ x ∈ r, TN g k x) (hs : ∀ x ∈ s, TN g l x) (h4 : r.length = 4) (h5 : s.length = 4) : (fourF g r s).map V.e = qmul (r.map V.e) (s.map V.e) := by
  match r, h4, s, h5 with
  | [a, b, c, d], _, [e, f, h, j], _ =>
    have ha := hr a (by simp)
    have hb := hr b (by simp)
    have hc := hr c (by simp)
    have hd := hr d (by simp)
    have u : ∀ {x}, TN g k x → TN g (k + 4) x := fun h => h.mono (by omega)
    have v : ∀ {x}, TN g k x → TN g (k + 4) (negF g x) := fun h => tn_neg hg h hk
    have key : ∀ x1 x2 x3 x4 : Int × Int, TN g (k + 4) x1 → TN g (k + 4) x2 → TN g (k + 4) x3 → TN g (k + 4) x4 → V.e (cellF g [e, f, h, j] [x1, x2, x3, x4]) = 0 + V.e e * V.e x1 + V.e f * V.e x2 + V.e h * V.e x3 + V.e j * V.e x4 := fun x1 x2 x3 x4 t1 t2 t3 t4 => by
      rw [V.cell hg hs (l := k + 4) (fun x hx => ?_) hl]
      · rfl
      · simp only [List.mem_cons, List.not_mem_nil, or_false] at hx
        rcases hx with rfl | rfl | rfl | rfl <;> assumption
    rw [four_is]
    simp only [List.map_cons, List.map_nil]
    rw [key _ _ _ _ (u ha) (v hb) (v hc) (v hd), key _ _ _ _ (u hb) (u ha) (v hd) (u hc), key _ _ _ _ (u hc) (u hd) (u ha) (v hb), key _ _ _ _ (u hd) (v hc) (u hb) (u ha), V.neg hg hb, V.neg hg hc, V.neg hg hd]
    unfold qmul
    congr 1
    · grind
    congr 1
    · grind
    congr 1
    · grind
    congr 1
    · grind
/-- the contrary -/
def turn4F (g : Int) : List (Int × Int) → List (Int × Int)
  | a :: r => a :: r.map (minusF g)
  | [] => []
/-- the law's own products -/
def lsF (g : Int) (l : List ((Int × Int) × (Int × Int) × Int)) : List (Int × Int) := l.map fun t => timesF g (lowF g t.2.2 1) (timesF g t.1 t.2.1)
def lrows (a b c d e f h k : Int × Int) : List (List ((Int × Int) × (Int × Int) × Int)) := [[(a, e, 1), (b, f, -1), (c, h, -1), (d, k, -1)], [(a, f, 1), (b, e, 1), (c, k, 1), (d, h, -1)], [(a, h, 1), (b, k, -1), (c, e, 1), (d, f, 1)], [(a, k, 1), (b, h, 1), (c, f, -1), (d, e, 1)]]
def lfourF (g : Int) : List (Int × Int) → List (Int × Int) → List (Int × Int)
  | [a, b, c, d], [e, f, h, k] => (lrows a b c d e f h k).map fun l => (lsF g l).foldl (plusF g) (0, 1)
  | _, _ => []
def SgOk (g : Int) (k : Nat) (t : (Int × Int) × (Int × Int) × Int) : Prop := TN g k t.1 ∧ TN g k t.2.1 ∧ (t.2.2 = 1 ∨ t.2.2 = -1)
theorem sg_tn (hg : g = 0 ∨ Gr5 g) {s : Int} (h : s = 1 ∨ s = -1) : TN g 4 (lowF g s 1) := tn_low hg (by decide) (fun z => one_fmod (hg.resolve_left z)) (Nat.le_refl _) (by rcases h with rfl | rfl <;> decide) (by decide)
theorem GV.sg (V : GV g F) (hg : g = 0 ∨ Gr5 g) {s : Int} : V.e (lowF g s 1) = V.i s := by
  have h := V.low (u := s) (d := 1) hg (by decide) (fun z => one_fmod (hg.resolve_left z))
  rw [V.i1] at h
  grind
theorem ls_tn (hg : g = 0 ∨ Gr5 g) {k : Nat} (hk : 4 ≤ k) {l : List ((Int × Int) × (Int × Int) × Int)} (h : ∀ t ∈ l, SgOk g k t) : ∀ x ∈ lsF g l, TN g (4 + (k + k)) x := fun x hx => by
  obtain ⟨t, ht, rfl⟩ := List.mem_map.mp hx
  obtain ⟨h1, h2, h3⟩ := h t ht
  exact tn_times hg (sg_tn hg h3) (tn_times hg h1 h2 hk) (Nat.le_refl _)
theorem GV.ls (V : GV g F) (hg : g = 0 ∨ Gr5 g) {k : Nat} (hk : 4 ≤ k) {l : List ((Int × Int) × (Int × Int) × Int)} (h : ∀ t ∈ l, SgOk g k t) : V.e ((lsF g l).foldl (plusF g) (0, 1)) = (l.map fun t => V.i t.2.2 * (V.e t.1 * V.e t.2.1)).foldl (· + ·) 0 := by
  rw [V.fold hg (lsF g l) (0, 1) 4 (tn_zero hg) (Nat.le_refl _) (m := 4 + (k + k)) (ls_tn hg hk h), V.zero]
  congr 1
  unfold lsF
  rw [List.map_map]
  refine List.map_congr_left fun t ht => ?_
  obtain ⟨h1, h2, h3⟩ := h t ht
  show V.e (timesF g (lowF g t.2.2 1) (timesF g t.1 t.2.1)) = _
  rw [V.times hg (sg_tn hg h3) (tn_times hg h1 h2 hk), V.times hg h1 h2, V.sg hg]
end
end Fm

namespace Fm
open PySem PySem.Spec PyProof.Rows L2
theorem ps_never {X : Cx} {st : Stmt} : PS X st (fun _ _ _ => False) := ⟨fun _ _ _ _ _ _ h => h.elim⟩
theorem w_glst {K : PySem.W.Frag} {n : Nat} {t : TGs} {a : Addr} {xs : List V} {σ : L2.St} {H : Hp} {R : L2.St → Hp → Prop} (h : H a = some (.lst xs)) (hn : xs.length = n) (q : t xs σ H R) : gLst K n t (.ref a) σ H R := ⟨a, xs, rfl, SqL.of h, hn, q⟩
theorem grb {g : Int} (h : g = 0 ∨ Gr5 g) : 0 ≤ g ∧ g ≤ 13 := by
  unfold Gr5 at h
  omega
/-- the rows of letters alone -/
def onesF (m : Nat) : List (List (Int × Int)) := (List.range m).map fun i => (List.range m).map fun j => (if i = j then 1 else 0, 1)
end Fm
namespace Fm
open PySem PySem.Spec PyProof.Rows L2
theorem acc_app {α : Type} {P : Hp → V → α → Prop} {H : Hp} {ys : List V} {as : List α} {i : Nat} {v : V} {a : α} (h : Acc P H ys as i) (hl : as.length = i) (hv : P H v a) : Acc P H (ys ++ [v]) (as ++ [a]) (i + 1) := by
  refine ⟨by rw [List.length_append, h.1]; rfl, fun j x b h1 h2 => ?_⟩
  by_cases e : j < i
  · rw [List.getElem?_append_left (by rw [h.1]; exact e)] at h1
    rw [List.getElem?_append_left (by omega)] at h2
    exact h.2 j x b h1 h2
  · have hj : j = i := by
      have := (List.getElem?_eq_some_iff.mp h1).1
      rw [List.length_append, h.1] at this
      simp at this
      omega
    subst hj
    rw [List.getElem?_append_right (by rw [h.1]; exact Nat.le_refl _), h.1, Nat.sub_self] at h1
    rw [List.getElem?_append_right (by omega), hl, Nat.sub_self] at h2
    cases h1
    cases h2
    exact hv
/-- a tuple of two numbers and a sign -/
def Tri3 (H : Hp) (v : V) (t : (Int × Int) × (Int × Int) × Int) : Prop := ∃ p vx vy, v = .ref p ∧ H p = some (.tup [vx, vy, .int t.2.2]) ∧ NumV H vx t.1 ∧ NumV H vy t.2.1
theorem Tri3.kt {H H' : Hp} {v : V} {t : (Int × Int) × (Int × Int) × Int} (h : Tri3 H v t) (s : Kt H H') : Tri3 H' v t := by
  obtain ⟨p, vx, vy, rfl, h1, h2, h3⟩ := h
  exact ⟨p, vx, vy, rfl, s _ _ h1, h2.kt s, h3.kt s⟩
def TriL (H : Hp) (v : V) (l : List ((Int × Int) × (Int × Int) × Int)) : Prop := ∃ p xs, v = .ref p ∧ H p = some (.lst xs) ∧ Acc Tri3 H xs l l.length
theorem TriL.sm {H H' : Hp} {v : V} {l : List ((Int × Int) × (Int × Int) × Int)} (h : TriL H v l) (s : Same H H') : TriL H' v l := by
  obtain ⟨p, xs, rfl, h1, h2⟩ := h
  exact ⟨p, xs, rfl, s _ _ h1, h2.mono fun x a h => h.kt (Kt.of s)⟩
/-- a row of numbers of g, of so many signs -/
def TRow (g : Int) (k : Nat) (H : Hp) (v : V) (r : List (Int × Int)) : Prop := RowV H v r ∧ ∀ a ∈ r, TN g k a
end Fm

namespace Fm
open PySem PySem.Spec PyProof.Rows L2
/-! ### calls with keywords: all parameters are told -/
section
variable {K : PySem.W.Frag} {x qual : Str} {params : Arguments} {body : List Stmt} {scope : Scope} {dvs : List V} {kws : List (Str × V)} {f : Addr} {fd : FuncData} {ps : List Str}
theorem bnd_of (F : FunD K x qual params body scope dvs kws f fd) (n : Nat) (hd : dvs ≠ []) (hn : n = ps.length)
    (h : ∀ (T : Addr) (kV doc pm : Value) (an : Option Addr) (cdv ct : Value) (us its : List Value), us.length = n → its.length = dvs.length → ∃ k, bindArgs (PySem.W.fnOf x qual params body scope (.ref T) kV doc pm an cdv ct) ⟨us, []⟩ = seqItems? (.ref T) >>= k ∧ k (some its.toArray) = pure (ps.zip (us ++ its.drop dvs.length))) : L2.Binds K fd ps [] := by
  obtain ⟨ds, hv, hb⟩ := FunD.binds1 (ps := ps) F n dvs.length hd (by omega) h
  rw [List.drop_length] at hv
  cases hv
  exact hb
theorem kbn_of (F : FunD K x qual params body scope dvs kws f fd) {n : Nat} {ks : List Str} {g : List Value → List Value → List Value} {gV : List V → List V → List V} (hd : dvs ≠ [])
    (h : ∀ (T : Addr) (kV doc pm : Value) (an : Option Addr) (cdv ct : Value) (us ws its : List Value), us.length = n → ws.length = ks.length → its.length = dvs.length → ∃ k, bindArgs (PySem.W.fnOf x qual params body scope (.ref T) kV doc pm an cdv ct) ⟨us, ks.zip ws⟩ = seqItems? (.ref T) >>= k ∧ k (some its.toArray) = pure (ps.zip (g us ws)))
    (hrel : ∀ {vs : List V} {us : List Value} {zs : List V} {ws : List Value}, Vals vs us → Vals zs ws → Vals (gV vs zs) (g us ws)) : L2.KBn K fd ps n ks g gV := by
  obtain ⟨_, _, dV, kV, doc, pm, an, cdv, ct, _, rfl, _, _, hD, _⟩ := F.ex
  refine ⟨fun s us ws X l1 l2 => ?_, hrel⟩
  rcases hD with ⟨e, _⟩ | ⟨_, T, o, its, m, rfl, lT, oT, rT⟩
  · exact absurd e hd
  · obtain ⟨k, e1, e2⟩ := h T kV doc pm an cdv ct us ws its l1 l2 rT.length.symm
    refine L2.BindsTo.of_looks fun M => ?_
    rw [e1]
    exact L2.looks_items X lT oT (.of_pure e2)
end
def tCallNS (n m : Nat) (sp : Sp) (gV : List V → List V → List V) (E : L2.St → XK) (t tk : TA) : TE := fun σ H Q => t σ H fun vs H1 => tk σ H1 fun zs H2 => vs.length = n ∧ zs.length = m ∧ sp (gV vs zs) H2 Q (E σ)
def tCallN0 (m : Nat) (sp : Sp) (gV : List V → List V → List V) (E : XK) (tk : TA) : TE := fun σ H Q => tk σ H fun zs H2 => zs.length = m ∧ sp (gV [] zs) H2 Q E
section
variable {X : Cx} {CX : CXT} {k n : Nat} {f : Addr} {fd : FuncData} {ps ks : List Str} {sp : Sp} {x : Str} {p pos : Pos} {e : Expr} {es : List Expr} {kws : List Keyword} {t tk : TA} {g : List Value → List Value → List Value} {gV : List V → List V → List V}
end
end Fm
namespace Fm
open PySem PySem.Spec PyProof.Rows L2
end Fm

namespace Fm
open PySem PySem.Spec PyProof.Rows L2 PySem.Fm6
/-! ### a hook that also tells the __init__ of classes -/
def asY (g : Addr → Option Obj) : List Addr := He.asD g 4 ++ [cStatics]
abbrev IW : Type := Option (Str × Str × Arguments × FuncBody × Scope × Addr × List Str × Addr)
def iw (K : PySem.W.Frag) (C : Addr) : IW := match K.lookup (He.ma K C "__init__") with
  | some ⟨_, _, .func fd, _⟩ => some (fd.name, fd.qualname, fd.params, fd.body, fd.scope, fd.globals, fd.closure.map (·.1), fd.builtins)
  | _ => none
abbrev AlY : Type := He.AlX × List IW
section
variable {fa : List He.Fa} {fn : List He.DefD} {ts : List He.Tab} {tf : List He.Defn} {ex : PySem.W.Frag → Bool} {cs : List Str} {vs : List IW} {w : World} {h : Heap}
theorem saysX_as {as : List Addr} (e1 : He.obsT fa fn ts (He.frT h.get? as) = He.valT fn ts w) (e2 : (ex (He.frT h.get? as) && He.tabsB h.get? tf (He.frT h.get? as)) = true) : He.SaysX fa fn ts tf ex w h (He.frT h.get? as) := by
  obtain ⟨h1, h2⟩ := He.ba e2
  have key : ∀ p ∈ tf, PySem.W.codeHdIn (He.frT h.get? as) (He.cT (He.frT h.get? as) p).1 (He.cT (He.frT h.get? as) p).2 = true ∧ ∃ o, h.get? (He.cT (He.frT h.get? as) p).2 = some o ∧ He.emptyTab o = true := fun p hp => by
    have hp2 := List.all_eq_true.mp h2 p hp
    obtain ⟨k1, k2⟩ := He.ba hp2
    refine ⟨k1, ?_⟩
    match q : h.get? (He.cT (He.frT h.get? as) p).2, k2 with
    | some o, k2 => exact ⟨o, rfl, k2⟩
    | none, k2 => cases k2
  refine ⟨e1, h1, fun p hp => (key p hp).1, fun p hp => ?_, fun p hp => ?_⟩
  · obtain ⟨_, o, q, z⟩ := key p hp
    exact He.frT_none q z
  · obtain ⟨_, o, q, z⟩ := key p hp
    rw [q, He.emptyTab_eq z]
def obsY (fa : List He.Fa) (fn : List He.DefD) (ts : List He.Tab) (tf : List He.Defn) (ex : PySem.W.Frag → Bool) (cs : List Str) (g : Addr → Option Obj) : AlY :=
  ((He.obsT fa fn ts (He.frT g (asY g)), ex (He.frT g (asY g)) && He.tabsB g tf (He.frT g (asY g))), cs.map fun c => iw (He.frT g (asY g)) (He.ga (He.frT g (asY g)) c))
structure SaysY (fa : List He.Fa) (fn : List He.DefD) (ts : List He.Tab) (tf : List He.Defn) (ex : PySem.W.Frag → Bool) (cs : List Str) (vs : List IW) (w : World) (h : Heap) (K : PySem.W.Frag) : Prop where
  x : He.SaysX fa fn ts tf ex w h K
  i : (cs.map fun c => iw K (He.ga K c)) = vs
def hookY (fa : List He.Fa) (fn : List He.DefD) (ts : List He.Tab) (tf : List He.Defn) (ex : PySem.W.Frag → Bool) (cs : List Str) (vs : List IW) : PySem.W.Hook where
  α := AlY
  obs := fun s => obsY fa fn ts tf ex cs s.heap.get?
  val := fun w => (He.valX fn ts w, vs)
  says := fun w h => ∃ K : PySem.W.Frag, K.In h ∧ SaysY fa fn ts tf ex cs vs w h K
  of := fun _ _ e => ⟨_, He.frT_in, saysX_as (congrArg (fun z : AlY => z.1.1) e) (congrArg (fun z : AlY => z.1.2) e), congrArg (fun z : AlY => z.2) e⟩
  keeps := fun _ _ _ ⟨K, hK, c⟩ k => ⟨K, PySem.W.Frag.In.keeps hK k, ⟨c.x.t, c.x.more, c.x.hd, c.x.out, fun p hp => k _ _ (c.x.empty p hp)⟩, c.i⟩
end
/-! ### what the written part says of a class right over a built-in one -/
def tysB : List Value → List String → Bool
  | [], [] => true
  | .type a :: r, b :: s => decide (a = b) && tysB r s
  | _, _ => false
def clB (K : PySem.W.Frag) (C : Addr) (newId : String) (ns : List String) : Bool := match K.lookup C with
  | some ⟨.type t, _, .cls cd, sl⟩ => decide (t = "type") && (match cd.mro, sl.toList with
    | .ref C' :: bm, [_, _, _, _, some (.builtin n), _] => decide (C' = C) && (decide (n = newId) && (!cd.hasDel && (cd.hasDict && tysB bm ns)))
    | _, _ => false)
  | _ => false
def inB (K : PySem.W.Frag) (C : Addr) (fl : Str) : Bool := match K.lookup (He.ma K C "__init__") with
  | some ⟨_, _, .func fd, _⟩ => (match fd.defaults with
    | .none => true
    | _ => false) && (PySem.W.codeIn K fd.code fd.qualname && ((match fd.code with
    | .ref c => (match K.lookup c with
      | some ⟨_, _, .fields vs, _⟩ => (match vs.toList with
        | _ :: _ :: .str n _ :: _ => fl == n
        | _ => false)
      | _ => false)
    | _ => false) && (match fd.closure with
    | [(_, cc)] => (match K.lookup cc with
      | some ⟨_, _, .cell (some (.ref C')), _⟩ => decide (C' = C)
      | _ => false)
    | _ => false)))
  | _ => false
def ovB (K : PySem.W.Frag) (C : Addr) (fl : Str) (newId : String) (ns : List String) (fld : Str) : Bool :=
  He.eqO (PySem.W.findIn K (.ref C) "__init__") (some (some (.ref (He.ma K C "__init__")))) && (decide (PySem.W.typeIn K (.ref (He.ma K C "__init__")) = some (.type "function")) && (He.eqO (PySem.W.findIn K (.ref C) "__setattr__") (some (some (.builtin "object.__setattr__"))) &&
  (decide (PySem.W.subIn K (.ref C) (.type "BaseException") = some true) && (decide (PySem.W.typeIn K (.ref C) = some (.type "type")) && (PySem.W.keepIn K (.ref C) && (He.eqO (PySem.W.nsIn K cStatics "thirdparty.any") (some none) && (He.eqO (PySem.W.findIn K (.ref C) fld) (some none) &&
  (clB K C newId ns && inB K C fl))))))))
end Fm

namespace Fm
open PySem PySem.Spec PyProof.Rows L2 PySem.Fm6
/-! ### a hook that looks at named objects alone -/
section
variable {as : (Addr → Option Obj) → List Addr} {fa : List He.Fa} {fn : List He.DefD} {ts : List He.Tab} {tf : List He.Defn} {ex : PySem.W.Frag → Bool} {w : World} {h : Heap}
def obsZ (as : (Addr → Option Obj) → List Addr) (fa : List He.Fa) (fn : List He.DefD) (ts : List He.Tab) (tf : List He.Defn) (ex : PySem.W.Frag → Bool) (g : Addr → Option Obj) : He.AlX :=
  (He.obsT fa fn ts (He.frT g (as g)), ex (He.frT g (as g)) && He.tabsB g tf (He.frT g (as g)))
def hookZ (as : (Addr → Option Obj) → List Addr) (fa : List He.Fa) (fn : List He.DefD) (ts : List He.Tab) (tf : List He.Defn) (ex : PySem.W.Frag → Bool) : PySem.W.Hook where
  α := He.AlX
  obs := fun s => obsZ as fa fn ts tf ex s.heap.get?
  val := fun w => He.valX fn ts w
  says := fun w h => ∃ K : PySem.W.Frag, K.In h ∧ He.SaysX fa fn ts tf ex w h K
  of := fun _ _ e => ⟨_, He.frT_in, saysX_as (congrArg (fun z : He.AlX => z.1) e) (congrArg (fun z : He.AlX => z.2) e)⟩
  keeps := fun _ _ _ ⟨K, hK, c⟩ k => ⟨K, PySem.W.Frag.In.keeps hK k, ⟨c.t, c.more, c.hd, c.out, fun p hp => k _ _ (c.empty p hp)⟩⟩
theorem obsZ_eq {g : Addr → Option Obj} {s : Shared} (e : ∀ a, g a = s.heap.get? a) : obsZ as fa fn ts tf ex g = (hookZ as fa fn ts tf ex).obs s := by
  rw [funext e]
  rfl
end
theorem map_two {α β γ : Type} {o : Option α} {f : α → β} {g : α → γ} {b : β} {c : γ} (h1 : o.map f = some b) (h2 : o.map g = some c) : (o.map fun s => (f s, g s)) = some (b, c) := by
  cases o with
  | none => cases h1
  | some s => exact congrArg some (Prod.ext (Option.some.inj h1) (Option.some.inj h2))
end Fm

namespace Fm
open PySem PySem.Spec PyProof.Rows L2
def topS (i : Nat) : Stmt := PySem.Challenge.pw_fewmirrors_k18_leading_refused.main.body.getD i (.Pass ⟨0, 0, 0, 0⟩)
def clsB0 : Stmt → List Stmt
  | .ClassDef (body := b) .. => b
  | _ => []
def d_is_whole : He.DefD := ⟨("is_whole", none), "is_whole", "is_whole", defArgs (topS 22), defBody (topS 22), defScope (topS 22), [], []⟩
def d_common_divisor : He.DefD := ⟨("common_divisor", none), "common_divisor", "common_divisor", defArgs (topS 23), defBody (topS 23), defScope (topS 23), [], []⟩
def d_whole_root : He.DefD := ⟨("whole_root", none), "whole_root", "whole_root", defArgs (topS 24), defBody (topS 24), defScope (topS 24), [], []⟩
def d_is_ground : He.DefD := ⟨("is_ground", none), "is_ground", "is_ground", defArgs (topS 27), defBody (topS 27), defScope (topS 27), [], []⟩
def d_is_number : He.DefD := ⟨("is_number", none), "is_number", "is_number", defArgs (topS 28), defBody (topS 28), defScope (topS 28), [], []⟩
def d_lowest : He.DefD := ⟨("lowest", none), "lowest", "lowest", defArgs (topS 29), defBody (topS 29), defScope (topS 29), [], []⟩
def d_wheel_back : He.DefD := ⟨("wheel_back", none), "wheel_back", "wheel_back", defArgs (topS 30), defBody (topS 30), defScope (topS 30), [], []⟩
def d_plus : He.DefD := ⟨("plus", none), "plus", "plus", defArgs (topS 31), defBody (topS 31), defScope (topS 31), [], []⟩
def d_less : He.DefD := ⟨("less", none), "less", "less", defArgs (topS 32), defBody (topS 32), defScope (topS 32), [], []⟩
def d_times : He.DefD := ⟨("times", none), "times", "times", defArgs (topS 33), defBody (topS 33), defScope (topS 33), [], []⟩
def d_over : He.DefD := ⟨("over", none), "over", "over", defArgs (topS 34), defBody (topS 34), defScope (topS 34), [], []⟩
def d_root_or_none : He.DefD := ⟨("root_or_none", none), "root_or_none", "root_or_none", defArgs (topS 35), defBody (topS 35), defScope (topS 35), [], []⟩
def d_fraction_root : He.DefD := ⟨("fraction_root", none), "fraction_root", "fraction_root", defArgs (topS 36), defBody (topS 36), defScope (topS 36), [], []⟩
def d_wheel_root : He.DefD := ⟨("wheel_root", none), "wheel_root", "wheel_root", defArgs (topS 37), defBody (topS 37), defScope (topS 37), [], []⟩
def d_is_row : He.DefD := ⟨("is_row", none), "is_row", "is_row", defArgs (topS 40), defBody (topS 40), defScope (topS 40), [], []⟩
def d_is_table : He.DefD := ⟨("is_table", none), "is_table", "is_table", defArgs (topS 41), defBody (topS 41), defScope (topS 41), [], []⟩
def d_product : He.DefD := ⟨("product", none), "product", "product", defArgs (topS 42), defBody (topS 42), defScope (topS 42), [], []⟩
def d_product_row : He.DefD := ⟨("product_row", none), "product_row", "product_row", defArgs (topS 43), defBody (topS 43), defScope (topS 43), [], []⟩
def d_dot : He.DefD := ⟨("dot", none), "dot", "dot", defArgs (topS 44), defBody (topS 44), defScope (topS 44), [], []⟩
def d_whole_row : He.DefD := ⟨("whole_row", none), "whole_row", "whole_row", defArgs (topS 45), defBody (topS 45), defScope (topS 45), [], []⟩
def d_turned : He.DefD := ⟨("turned", none), "turned", "turned", defArgs (topS 46), defBody (topS 46), defScope (topS 46), [], []⟩
def d_determinant : He.DefD := ⟨("determinant", none), "determinant", "determinant", defArgs (topS 47), defBody (topS 47), defScope (topS 47), [], []⟩
def d_whole_determinant : He.DefD := ⟨("whole_determinant", none), "whole_determinant", "whole_determinant", defArgs (topS 48), defBody (topS 48), defScope (topS 48), [], []⟩
def d_smaller_row : He.DefD := ⟨("smaller_row", none), "smaller_row", "smaller_row", defArgs (topS 49), defBody (topS 49), defScope (topS 49), [], []⟩
def d_head_place : He.DefD := ⟨("head_place", none), "head_place", "head_place", defArgs (topS 50), defBody (topS 50), defScope (topS 50), [], []⟩
def d_row_plus : He.DefD := ⟨("row_plus", none), "row_plus", "row_plus", defArgs (topS 51), defBody (topS 51), defScope (topS 51), [], []⟩
def d_row_less : He.DefD := ⟨("row_less", none), "row_less", "row_less", defArgs (topS 52), defBody (topS 52), defScope (topS 52), [], []⟩
def d_row_times : He.DefD := ⟨("row_times", none), "row_times", "row_times", defArgs (topS 53), defBody (topS 53), defScope (topS 53), [], []⟩
def d_is_form_table : He.DefD := ⟨("is_form_table", none), "is_form_table", "is_form_table", defArgs (topS 60), defBody (topS 60), defScope (topS 60), [], []⟩
def d_want_rows : He.DefD := ⟨("want_rows", none), "want_rows", "want_rows", defArgs (topS 61), defBody (topS 61), defScope (topS 61), [], []⟩
def d_want_worths : He.DefD := ⟨("want_worths", none), "want_worths", "want_worths", defArgs (topS 62), defBody (topS 62), defScope (topS 62), [], []⟩
def d_products : He.DefD := ⟨("products", none), "products", "products", defArgs (topS 63), defBody (topS 63), defScope (topS 63), [], []⟩
def d_worth_of : He.DefD := ⟨("worth_of", none), "worth_of", "worth_of", defArgs (topS 64), defBody (topS 64), defScope (topS 64), [], []⟩
def d_leading : He.DefD := ⟨("leading", none), "leading", "leading", defArgs (topS 66), defBody (topS 66), defScope (topS 66), [], []⟩
def d_led : He.DefD := ⟨("led", none), "led", "led", defArgs (topS 67), defBody (topS 67), defScope (topS 67), [], []⟩
def d_leading_mirrors : He.DefD := ⟨("leading_mirrors", none), "leading_mirrors", "leading_mirrors", defArgs (topS 68), defBody (topS 68), defScope (topS 68), [], []⟩
def d__law_bag : He.DefD := ⟨("_law_bag", none), "_law_bag", "_law_bag", defArgs (topS 70), defBody (topS 70), defScope (topS 70), [], []⟩
def d__law_take : He.DefD := ⟨("_law_take", none), "_law_take", "_law_take", defArgs (topS 71), defBody (topS 71), defScope (topS 71), [], []⟩
def d__law_mixed : He.DefD := ⟨("_law_mixed", none), "_law_mixed", "_law_mixed", defArgs (topS 72), defBody (topS 72), defScope (topS 72), [], []⟩
def d__law_is_whole : He.DefD := ⟨("_law_is_whole", none), "_law_is_whole", "_law_is_whole", defArgs (topS 73), defBody (topS 73), defScope (topS 73), [], []⟩
def d__law_shared : He.DefD := ⟨("_law_shared", none), "_law_shared", "_law_shared", defArgs (topS 74), defBody (topS 74), defScope (topS 74), [], []⟩
def d__law_low : He.DefD := ⟨("_law_low", none), "_law_low", "_law_low", defArgs (topS 75), defBody (topS 75), defScope (topS 75), [], []⟩
def d__law_is_number : He.DefD := ⟨("_law_is_number", none), "_law_is_number", "_law_is_number", defArgs (topS 76), defBody (topS 76), defScope (topS 76), [], []⟩
def d__law_plus : He.DefD := ⟨("_law_plus", none), "_law_plus", "_law_plus", defArgs (topS 77), defBody (topS 77), defScope (topS 77), [], []⟩
def d__law_times : He.DefD := ⟨("_law_times", none), "_law_times", "_law_times", defArgs (topS 78), defBody (topS 78), defScope (topS 78), [], []⟩
def d__law_minus : He.DefD := ⟨("_law_minus", none), "_law_minus", "_law_minus", defArgs (topS 79), defBody (topS 79), defScope (topS 79), [], []⟩
def d__law_sum : He.DefD := ⟨("_law_sum", none), "_law_sum", "_law_sum", defArgs (topS 80), defBody (topS 80), defScope (topS 80), [], []⟩
def d__law_scaled : He.DefD := ⟨("_law_scaled", none), "_law_scaled", "_law_scaled", defArgs (topS 81), defBody (topS 81), defScope (topS 81), [], []⟩
def d__law_added : He.DefD := ⟨("_law_added", none), "_law_added", "_law_added", defArgs (topS 82), defBody (topS 82), defScope (topS 82), [], []⟩
def d__law_through : He.DefD := ⟨("_law_through", none), "_law_through", "_law_through", defArgs (topS 83), defBody (topS 83), defScope (topS 83), [], []⟩
def d__law_product : He.DefD := ⟨("_law_product", none), "_law_product", "_law_product", defArgs (topS 84), defBody (topS 84), defScope (topS 84), [], []⟩
def d__law_turned : He.DefD := ⟨("_law_turned", none), "_law_turned", "_law_turned", defArgs (topS 85), defBody (topS 85), defScope (topS 85), [], []⟩
def d__law_ones : He.DefD := ⟨("_law_ones", none), "_law_ones", "_law_ones", defArgs (topS 86), defBody (topS 86), defScope (topS 86), [], []⟩
def d__law_pair : He.DefD := ⟨("_law_pair", none), "_law_pair", "_law_pair", defArgs (topS 87), defBody (topS 87), defScope (topS 87), [], []⟩
def d__law_worth : He.DefD := ⟨("_law_worth", none), "_law_worth", "_law_worth", defArgs (topS 88), defBody (topS 88), defScope (topS 88), [], []⟩
def d__law_is_row : He.DefD := ⟨("_law_is_row", none), "_law_is_row", "_law_is_row", defArgs (topS 89), defBody (topS 89), defScope (topS 89), [], []⟩
def d__law_ground : He.DefD := ⟨("_law_ground", none), "_law_ground", "_law_ground", defArgs (topS 90), defBody (topS 90), defScope (topS 90), [], []⟩
def d__law_number : He.DefD := ⟨("_law_number", none), "_law_number", "_law_number", defArgs (topS 91), defBody (topS 91), defScope (topS 91), [], []⟩
def d__law_other_than_nought : He.DefD := ⟨("_law_other_than_nought", none), "_law_other_than_nought", "_law_other_than_nought", defArgs (topS 92), defBody (topS 92), defScope (topS 92), [], []⟩
def d__law_row : He.DefD := ⟨("_law_row", none), "_law_row", "_law_row", defArgs (topS 93), defBody (topS 93), defScope (topS 93), [], []⟩
def d__law_letters : He.DefD := ⟨("_law_letters", none), "_law_letters", "_law_letters", defArgs (topS 94), defBody (topS 94), defScope (topS 94), [], []⟩
def d__law_changed : He.DefD := ⟨("_law_changed", none), "_law_changed", "_law_changed", defArgs (topS 95), defBody (topS 95), defScope (topS 95), [], []⟩
def d__law_form : He.DefD := ⟨("_law_form", none), "_law_form", "_law_form", defArgs (topS 96), defBody (topS 96), defScope (topS 96), [], []⟩
def d__law_with_worth : He.DefD := ⟨("_law_with_worth", none), "_law_with_worth", "_law_with_worth", defArgs (topS 97), defBody (topS 97), defScope (topS 97), [], []⟩
def d__law_odd : He.DefD := ⟨("_law_odd", none), "_law_odd", "_law_odd", defArgs (topS 98), defBody (topS 98), defScope (topS 98), [], []⟩
def d__law_refusal : He.DefD := ⟨("_law_refusal", none), "_law_refusal", "_law_refusal", defArgs (topS 99), defBody (topS 99), defScope (topS 99), [], []⟩
def d__law_odd_row : He.DefD := ⟨("_law_odd_row", none), "_law_odd_row", "_law_odd_row", defArgs (topS 100), defBody (topS 100), defScope (topS 100), [], []⟩
def d__law_due : He.DefD := ⟨("_law_due", none), "_law_due", "_law_due", defArgs (topS 101), defBody (topS 101), defScope (topS 101), [], []⟩
def d__law_is_refused : He.DefD := ⟨("_law_is_refused", none), "_law_is_refused", "_law_is_refused", defArgs (topS 102), defBody (topS 102), defScope (topS 102), [], []⟩
def d_law : He.DefD := ⟨("law", none), "law", "law", defArgs (topS 103), defBody (topS 103), defScope (topS 103), [], []⟩
def d_Form___init__ : He.DefD := ⟨("Form", some "__init__"), "__init__", "Form.__init__", defArgs ((clsB0 (topS 59)).getD 0 (.Pass ⟨0, 0, 0, 0⟩)), defBody ((clsB0 (topS 59)).getD 0 (.Pass ⟨0, 0, 0, 0⟩)), defScope ((clsB0 (topS 59)).getD 0 (.Pass ⟨0, 0, 0, 0⟩)), [.int 0], []⟩
def fn : List He.DefD := [d_is_whole, d_common_divisor, d_whole_root, d_is_ground, d_is_number, d_lowest, d_wheel_back, d_plus, d_less, d_times, d_over, d_root_or_none, d_fraction_root, d_wheel_root, d_is_row, d_is_table, d_product, d_product_row, d_dot, d_whole_row, d_turned, d_determinant, d_whole_determinant, d_smaller_row, d_head_place, d_row_plus, d_row_less, d_row_times, d_is_form_table, d_want_rows, d_want_worths, d_products, d_worth_of, d_leading, d_led, d_leading_mirrors, d__law_bag, d__law_take, d__law_mixed, d__law_is_whole, d__law_shared, d__law_low, d__law_is_number, d__law_plus, d__law_times, d__law_minus, d__law_sum, d__law_scaled, d__law_added, d__law_through, d__law_product, d__law_turned, d__law_ones, d__law_pair, d__law_worth, d__law_is_row, d__law_ground, d__law_number, d__law_other_than_nought, d__law_row, d__law_letters, d__law_changed, d__law_form, d__law_with_worth, d__law_odd, d__law_refusal, d__law_odd_row, d__law_due, d__law_is_refused, d_law, d_Form___init__]
def fa : List He.Fa := [.glo "is_whole", .glo "common_divisor", .glo "whole_root", .glo "is_ground", .glo "is_number", .glo "lowest", .glo "wheel_back", .glo "plus", .glo "less", .glo "times", .glo "over", .glo "root_or_none", .glo "fraction_root", .glo "wheel_root", .glo "is_row", .glo "is_table", .glo "product", .glo "product_row", .glo "dot", .glo "whole_row", .glo "turned", .glo "determinant", .glo "whole_determinant", .glo "smaller_row", .glo "head_place", .glo "row_plus", .glo "row_less", .glo "row_times", .glo "is_form_table", .glo "want_rows", .glo "want_worths", .glo "products", .glo "worth_of", .glo "leading", .glo "led", .glo "leading_mirrors", .glo "_law_bag", .glo "_law_take", .glo "_law_mixed", .glo "_law_is_whole", .glo "_law_shared", .glo "_law_low", .glo "_law_is_number", .glo "_law_plus", .glo "_law_times", .glo "_law_minus", .glo "_law_sum", .glo "_law_scaled", .glo "_law_added", .glo "_law_through", .glo "_law_product", .glo "_law_turned", .glo "_law_ones", .glo "_law_pair", .glo "_law_worth", .glo "_law_is_row", .glo "_law_ground", .glo "_law_number", .glo "_law_other_than_nought", .glo "_law_row", .glo "_law_letters", .glo "_law_changed", .glo "_law_form", .glo "_law_with_worth", .glo "_law_odd", .glo "_law_refusal", .glo "_law_odd_row", .glo "_law_due", .glo "_law_is_refused", .glo "law", .free "isinstance", .free "int", .free "bool", .free "abs", .free "tuple", .free "len", .free "range", .free "all", .free "sum", .free "zip", .free "list", .free "ValueError", .free "max", .free "min", .glo "GROUNDS", .int "MOST_LETTERS" 5, .int "MOST_LETTERS_ON_A_WHEEL" 4, .glo "Form", .cls "Form", .mkr "Form", .noat "Form" "table", .noat "Form" "ground", .glo "MirrorError", .glo "NoGround", .glo "NoNumber", .glo "NoRow", .glo "NoTable", .glo "NoForm", .glo "NoKeeper", .glo "NoWorth", .glo "NoSeat", .glo "NoFour", .glo "NoPlace", .glo "NoClaim", .glo "NoText", .glo "NoSaying", .glo "TooMany", .glo "NotKept", .glo "OverNought", .glo "Flat", .glo "NoName", .exc "NoRow", .exc "NoWorth", .exc "NoPlace"]
def tf : List He.Defn := [("_law_is_refused", none)]
abbrev PP : Program := (PySem.Challenge.rw_fewmirrors_k18_leading_refused).prog
def exB (M : PySem.W.Frag) : Bool := mirB M "NoRow" && mirB M "NoWorth" && mirB M "NoPlace" && He.tupB M "GROUNDS" [.int 0, .int 3, .int 5, .int 7, .int 11, .int 13]
abbrev R : PySem.W.OpenRow := PySem.W.OpenLaw.row PySem.Challenge.rw_fewmirrors_k18_leading_refused
/-- the objects that the facts name: the functions with their code, the classes with their methods -/
def nmF : List PySem.Str := (["is_whole", "common_divisor", "whole_root", "is_ground", "is_number", "lowest", "wheel_back", "plus", "less", "times", "over", "root_or_none", "fraction_root", "wheel_root", "is_row", "is_table", "product", "product_row", "dot", "whole_row"] : List PySem.Str) ++ (["turned", "determinant", "whole_determinant", "smaller_row", "head_place", "row_plus", "row_less", "row_times", "is_form_table", "want_rows", "want_worths", "products", "worth_of", "leading", "led", "leading_mirrors", "_law_bag", "_law_take", "_law_mixed", "_law_is_whole"] : List PySem.Str) ++ (["_law_shared", "_law_low", "_law_is_number", "_law_plus", "_law_times", "_law_minus", "_law_sum", "_law_scaled", "_law_added", "_law_through", "_law_product", "_law_turned", "_law_ones", "_law_pair", "_law_worth", "_law_is_row", "_law_ground", "_law_number", "_law_other_than_nought", "_law_row"] : List PySem.Str) ++ (["_law_letters", "_law_changed", "_law_form", "_law_with_worth", "_law_odd", "_law_refusal", "_law_odd_row", "_law_due", "_law_is_refused", "law", "GROUNDS"] : List PySem.Str)
def nmC : List PySem.Str := (["Form", "MirrorError", "NoGround", "NoNumber", "NoRow", "NoTable", "NoForm", "NoKeeper", "NoWorth", "NoSeat", "NoFour", "NoPlace", "NoClaim", "NoText", "NoSaying", "TooMany", "NotKept", "OverNought", "Flat", "NoName"] : List PySem.Str)
def rfs (g : Addr → Option Obj) (as : List Addr) : List Addr := as.flatMap fun a => match g a with
  | some o => He.refsD o
  | none => []
def asN2 (g : Addr → Option Obj) (a c : List Addr) : List Addr := mainGlobals :: (a ++ (rfs g a ++ (c ++ (rfs g c ++ (rfs g (rfs g c) ++ rfs g (rfs g (rfs g c)))))))
def asN (g : Addr → Option Obj) : List Addr := asN2 g (nmF.map (He.ga (He.frG g [mainGlobals]))) (nmC.map (He.ga (He.frG g [mainGlobals])))
def hk : PySem.W.Hook := hookZ asN fa fn [] tf exB
def ob (s : PySem.W.SharedT) : He.AlX := obsZ asN fa fn [] tf exB (HandSHeadRun.getT s)
theorem ob_eq (s : PySem.W.SharedT) : ob s = hk.obs s.abs := obsZ_eq (HandSHeadRun.getT_eq s)
def loose : List PySem.Str := (["MirrorError", "NoGround", "NoNumber", "NoRow", "NoTable", "NoForm", "NoKeeper", "NoWorth", "NoSeat", "NoFour", "NoPlace", "NoClaim", "NoText", "NoSaying", "TooMany", "NotKept", "OverNought", "Flat", "NoName", "Form"] : List PySem.Str) ++ (["GROUNDS", "MOST_LETTERS", "MOST_LETTERS_ON_A_WHEEL", "_wall", "is_whole", "common_divisor", "whole_root", "is_ground", "is_number", "lowest", "wheel_back", "plus", "less", "times", "over", "root_or_none", "fraction_root", "wheel_root", "show_number", "is_row"] : List PySem.Str) ++ (["is_table", "product", "product_row", "dot", "whole_row", "turned", "determinant", "whole_determinant", "smaller_row", "head_place", "row_plus", "row_less", "row_times", "show_row", "show_table", "is_form_table", "want_rows", "want_worths", "products", "worth_of"] : List PySem.Str) ++ (["leading", "led", "leading_mirrors", "_law_bag", "_law_take", "_law_mixed", "_law_is_whole", "_law_shared", "_law_low", "_law_is_number", "_law_plus", "_law_times", "_law_minus", "_law_sum", "_law_scaled", "_law_added", "_law_through", "_law_product", "_law_turned", "_law_ones"] : List PySem.Str) ++ (["_law_pair", "_law_worth", "_law_is_row", "_law_ground", "_law_number", "_law_other_than_nought", "_law_row", "_law_letters", "_law_changed", "_law_form", "_law_with_worth", "_law_odd", "_law_refusal", "_law_odd_row", "_law_due", "_law_is_refused"] : List PySem.Str)
/-! the run of the top, in three looks (one after another they take less memory) -/
open HandSHeadRun PySem.W in
theorem run1 (w : World) (os : OsState) : ((endF (stepQ (denQ tabQ) R.prog w) 9000 R.prog w os).map fun s => looksF R.prog (boot_heap w.params) s.abs) = some true := by
  kernel_rfl
open HandSHeadRun PySem.W in
theorem run2 (w : World) (os : OsState) : ((endF (stepQ (denQ tabQ) R.prog w) 9000 R.prog w os).map fun s => seenQ (PySem.W.view R.prog [103]) loose (importedModules R.prog.main.body) (fun s => xlAt (PySem.W.view R.prog [103]) [] s && recOk R.toRowW.records s) s.abs) = some (openGood (PySem.W.view R.prog [103]) loose) := by
  kernel_rfl
open HandSHeadRun PySem.W in
theorem run3 (w : World) (os : OsState) : ((endF (stepQ (denQ tabQ) R.prog w) 9000 R.prog w os).map ob) = some (hk.val w) := by
  kernel_rfl
theorem run (w : World) : HandSHeadRun.RunEq R (PySem.W.view R.prog [103]) hk ob 9000 loose w := fun os => map_two (run1 w os) (map_two (run2 w os) (run3 w os))
end Fm
namespace Fd
/-! ### sums over a range -/
def S (f : Nat → Int) : Nat → Int
  | 0 => 0
  | n + 1 => S f n + f n
theorem S_congr {f g : Nat → Int} : ∀ {n : Nat}, (∀ i, i < n → f i = g i) → S f n = S g n
  | 0, _ => rfl
  | n + 1, h => by
    show S f n + f n = S g n + g n
    rw [S_congr (n := n) fun i hi => h i (by omega), h n (by omega)]
theorem S_zero : ∀ (n : Nat), S (fun _ => 0) n = 0
  | 0 => rfl
  | n + 1 => by
    show S (fun _ => 0) n + 0 = 0
    rw [S_zero n]
    rfl
theorem S_add (f g : Nat → Int) : ∀ (n : Nat), S (fun i => f i + g i) n = S f n + S g n
  | 0 => rfl
  | n + 1 => by
    show S (fun i => f i + g i) n + (f n + g n) = S f n + f n + (S g n + g n)
    rw [S_add f g n]
    omega
theorem S_mul (c : Int) (f : Nat → Int) : ∀ (n : Nat), S (fun i => c * f i) n = c * S f n
  | 0 => (Int.mul_zero c).symm
  | n + 1 => by
    show S (fun i => c * f i) n + c * f n = c * (S f n + f n)
    rw [S_mul c f n, Int.mul_add]
theorem S_neg (f : Nat → Int) (n : Nat) : S (fun i => -f i) n = -S f n := by
  have h := S_mul (-1) f n
  rw [S_congr (g := fun i => -1 * f i) fun i _ => by omega, h]
  omega
theorem S_comm (f : Nat → Nat → Int) (m : Nat) : ∀ (n : Nat), S (fun i => S (fun j => f i j) m) n = S (fun j => S (fun i => f i j) n) m
  | 0 => (S_zero m).symm
  | n + 1 => by
    show S (fun i => S (fun j => f i j) m) n + S (fun j => f n j) m = S (fun j => S (fun i => f i j) n + f n j) m
    rw [S_comm f m n, ← S_add]
def skip (i j : Nat) : Nat := if j < i then j else j + 1
theorem S_skip (f : Nat → Int) (i : Nat) : ∀ (n : Nat), i ≤ n → S (fun j => f (skip i j)) n = S (fun k => if k = i then 0 else f k) (n + 1)
  | 0, h => by
    have e : i = 0 := by omega
    subst e
    rfl
  | n + 1, h => by
    by_cases hi : i = n + 1
    · subst hi
      show S (fun j => f (skip (n + 1) j)) (n + 1) = S (fun k => if k = n + 1 then 0 else f k) (n + 1) + (if n + 1 = n + 1 then 0 else f (n + 1))
      rw [if_pos rfl, Int.add_zero]
      refine S_congr fun j hj => ?_
      unfold skip
      rw [if_pos hj, if_neg (by omega)]
    · show S (fun j => f (skip i j)) n + f (skip i n) = S (fun k => if k = i then 0 else f k) (n + 1) + (if n + 1 = i then 0 else f (n + 1))
      rw [S_skip f i n (by omega), if_neg (by omega)]
      unfold skip
      rw [if_neg (by omega)]
/-! ### signs -/
def sg (i : Nat) : Int := if i % 2 = 0 then 1 else -1
theorem sg_succ (i : Nat) : sg (i + 1) = -sg i := by
  unfold sg
  split <;> split <;> omega
theorem sg_sq (i : Nat) : sg i * sg i = 1 := by
  unfold sg
  split <;> rfl
/-! ### determinants of some columns of rows of whole numbers -/
def ent (rows : List (List Int)) (i c : Nat) : Int := (rows.getD i []).getD c 0
def dt : List (List Int) → List Nat → Int
  | _, [] => 1
  | rows, c :: cs => S (fun i => sg i * ent rows i c * dt (rows.eraseIdx i) cs) rows.length
theorem ent_erase (rows : List (List Int)) (i j c : Nat) : ent (rows.eraseIdx i) j c = ent rows (skip i j) c := by
  have e : (rows.eraseIdx i).getD j [] = rows.getD (skip i j) [] := by
    rw [List.getD_eq_getElem?_getD, List.getD_eq_getElem?_getD, List.getElem?_eraseIdx]
    unfold skip
    split <;> rfl
  unfold ent
  rw [e]
def er2 (rows : List (List Int)) (i k : Nat) : List (List Int) := (rows.eraseIdx i).eraseIdx (if k < i then k else k - 1)
theorem er2_symm (rows : List (List Int)) {i k : Nat} (h : i ≠ k) : er2 rows i k = er2 rows k i := by
  unfold er2
  refine List.ext_getElem? fun n => ?_
  rcases Nat.lt_or_gt_of_ne h with hk | hk
  · rw [if_neg (by omega), if_pos hk, List.getElem?_eraseIdx, List.getElem?_eraseIdx, List.getElem?_eraseIdx, List.getElem?_eraseIdx, List.getElem?_eraseIdx, List.getElem?_eraseIdx]
    by_cases h1 : n < i
    · rw [if_pos (show n < k - 1 by omega), if_pos h1, if_pos h1, if_pos (show n < k by omega)]
    · by_cases h2 : n < k - 1
      · rw [if_pos h2, if_neg h1, if_neg h1, if_pos (show n + 1 < k by omega)]
      · rw [if_neg h2, if_neg (show ¬ n + 1 < i by omega), if_neg h1, if_neg (show ¬ n + 1 < k by omega)]
  · rw [if_pos hk, if_neg (by omega), List.getElem?_eraseIdx, List.getElem?_eraseIdx, List.getElem?_eraseIdx, List.getElem?_eraseIdx, List.getElem?_eraseIdx, List.getElem?_eraseIdx]
    by_cases h1 : n < k
    · rw [if_pos h1, if_pos (show n < i by omega), if_pos (show n < i - 1 by omega), if_pos h1]
    · by_cases h2 : n < i - 1
      · rw [if_neg h1, if_pos (show n + 1 < i by omega), if_pos h2, if_neg h1]
      · rw [if_neg h1, if_neg (show ¬ n + 1 < i by omega), if_neg h2, if_neg (show ¬ n + 1 < k by omega)]
/-- the sign of taking i and then k -/
def s2 (i k : Nat) : Int := if k < i then sg i * sg k else -(sg i * sg k)
theorem dt_two (rows : List (List Int)) (a b : Nat) (cs : List Nat) : dt rows (a :: b :: cs) = S (fun i => S (fun k => if k = i then 0 else s2 i k * ent rows i a * ent rows k b * dt (er2 rows i k) cs) rows.length) rows.length := by
  show S (fun i => sg i * ent rows i a * S (fun j => sg j * ent (rows.eraseIdx i) j b * dt ((rows.eraseIdx i).eraseIdx j) cs) (rows.eraseIdx i).length) rows.length = _
  refine S_congr fun i hi => ?_
  have hl : rows.length = (rows.eraseIdx i).length + 1 := by rw [List.length_eraseIdx_of_lt hi]; omega
  rw [← S_mul]
  have e := S_skip (fun k => s2 i k * ent rows i a * ent rows k b * dt (er2 rows i k) cs) i (rows.eraseIdx i).length (by omega)
  rw [← hl] at e
  rw [← e]
  refine S_congr fun j hj => ?_
  rw [ent_erase]
  have e1 : s2 i (skip i j) = sg i * sg j := by
    unfold s2 skip
    by_cases h : j < i
    · rw [if_pos h, if_pos h]
    · rw [if_neg h, if_neg (by omega), sg_succ, Int.mul_neg, Int.neg_neg]
  have e2 : er2 rows i (skip i j) = (rows.eraseIdx i).eraseIdx j := by
    unfold er2 skip
    by_cases h : j < i
    · rw [if_pos h, if_pos h]
    · rw [if_neg h, if_neg (by omega)]
      rfl
  rw [e1, e2]
  simp only [Int.mul_assoc, Int.mul_left_comm, Int.mul_comm]
theorem s2_anti {i k : Nat} (h : i ≠ k) : s2 i k = -s2 k i := by
  unfold s2
  rcases Nat.lt_or_gt_of_ne h with hk | hk
  · rw [if_neg (by omega), if_pos hk, Int.mul_comm]
  · rw [if_pos hk, if_neg (by omega), Int.neg_neg, Int.mul_comm]
/-- two columns exchanged -/
theorem dt_swap (rows : List (List Int)) (a b : Nat) (cs : List Nat) : dt rows (a :: b :: cs) = -dt rows (b :: a :: cs) := by
  rw [dt_two, dt_two rows b a, S_comm, ← S_neg]
  refine S_congr fun k hk => ?_
  rw [← S_neg]
  refine S_congr fun i hi => ?_
  by_cases h : k = i
  · subst h
    rw [if_pos rfl, if_pos rfl]
    rfl
  · rw [if_neg h, if_neg (fun z => h z.symm), s2_anti (fun z => h z.symm), er2_symm rows (fun z => h z.symm)]
    simp only [Int.neg_mul]
    grind
/-- a column twice -/
theorem dt_twice (c : Nat) : ∀ (cs : List Nat) (rows : List (List Int)), c ∈ cs → dt rows (c :: cs) = 0
  | [], _, h => nomatch h
  | a :: cs, rows, h => by
    by_cases e : c = a
    · subst e
      have := dt_swap rows c c cs
      omega
    · have hm : c ∈ cs := by
        rcases List.mem_cons.mp h with z | z
        · exact absurd z e
        · exact z
      rw [dt_swap]
      show -S (fun i => sg i * ent rows i a * dt (rows.eraseIdx i) (c :: cs)) rows.length = 0
      rw [S_congr (g := fun _ => 0) fun i _ => by rw [dt_twice c cs _ hm, Int.mul_zero], S_zero]
      rfl
/-- a sum that isn't nought has a part that isn't -/
theorem S_ne {f : Nat → Int} : ∀ {n : Nat}, S f n ≠ 0 → ∃ i, i < n ∧ f i ≠ 0
  | 0, h => absurd rfl h
  | n + 1, h => by
    by_cases e : f n = 0
    · have h' : S f n ≠ 0 := fun z => h (by show S f n + f n = 0; rw [z, e]; rfl)
      obtain ⟨i, hi, hf⟩ := S_ne h'
      exact ⟨i, by omega, hf⟩
    · exact ⟨n, by omega, e⟩
/-- rows whose determinant at some columns isn't nought: none of them is a sum of the others there -/
theorem indep : ∀ (cs : List Nat) (P : List (List Int)) (δ : Nat → Int), P.length = cs.length → dt P cs ≠ 0 → (∀ c ∈ cs, S (fun i => δ i * ent P i c) P.length = 0) → ∀ i, i < P.length → δ i = 0
  | [], P, δ, hl, _, _, i, hi => by
    rw [hl] at hi
    exact absurd hi (Nat.not_lt_zero _)
  | c :: cs, P, δ, hl, hD, hz, i, hi => by
    have hD' : S (fun i => sg i * ent P i c * dt (P.eraseIdx i) cs) P.length ≠ 0 := hD
    obtain ⟨i0, hi0, hne⟩ := S_ne hD'
    have hg0 : dt (P.eraseIdx i0) cs ≠ 0 := fun z => hne (by rw [z, Int.mul_zero])
    -- the cofactors
    have hcof : ∀ c' ∈ cs, S (fun i => sg i * dt (P.eraseIdx i) cs * ent P i c') P.length = 0 := fun c' hc' => by
      have h := dt_twice c' cs P hc'
      rw [← h]
      show _ = S (fun i => sg i * ent P i c' * dt (P.eraseIdx i) cs) P.length
      exact S_congr fun i _ => by rw [Int.mul_assoc, Int.mul_assoc, Int.mul_comm (dt _ _)]
    have γ0 : sg i0 * dt (P.eraseIdx i0) cs ≠ 0 := by
      refine Int.mul_ne_zero (fun z => ?_) hg0
      have := sg_sq i0
      rw [z] at this
      cases this
    have hl' : (P.eraseIdx i0).length + 1 = P.length := by rw [List.length_eraseIdx_of_lt hi0]; omega
    have step : ∀ k, k < P.length → sg i0 * dt (P.eraseIdx i0) cs * δ k - δ i0 * (sg k * dt (P.eraseIdx k) cs) = 0 := by
      have ih := indep cs (P.eraseIdx i0) (fun j => (fun k => sg i0 * dt (P.eraseIdx i0) cs * δ k - δ i0 * (sg k * dt (P.eraseIdx k) cs)) (skip i0 j)) (by
        have : P.length = cs.length + 1 := hl
        omega) hg0 (fun c' hc' => by
          have e1 := S_skip (fun k => (sg i0 * dt (P.eraseIdx i0) cs * δ k - δ i0 * (sg k * dt (P.eraseIdx k) cs)) * ent P k c') i0 (P.eraseIdx i0).length (by omega)
          rw [hl'] at e1
          have e2 : S (fun j => (fun k => sg i0 * dt (P.eraseIdx i0) cs * δ k - δ i0 * (sg k * dt (P.eraseIdx k) cs)) (skip i0 j) * ent (P.eraseIdx i0) j c') (P.eraseIdx i0).length = S (fun j => (fun k => (sg i0 * dt (P.eraseIdx i0) cs * δ k - δ i0 * (sg k * dt (P.eraseIdx k) cs)) * ent P k c') (skip i0 j)) (P.eraseIdx i0).length := S_congr fun j _ => by rw [ent_erase]
          rw [e2, e1]
          have e3 : S (fun k => if k = i0 then 0 else (sg i0 * dt (P.eraseIdx i0) cs * δ k - δ i0 * (sg k * dt (P.eraseIdx k) cs)) * ent P k c') P.length = S (fun k => sg i0 * dt (P.eraseIdx i0) cs * (δ k * ent P k c') + -δ i0 * (sg k * dt (P.eraseIdx k) cs * ent P k c')) P.length := S_congr fun k _ => by
            by_cases hk : k = i0
            · subst hk
              rw [if_pos rfl]
              grind
            · rw [if_neg hk]
              grind
          rw [e3, S_add, S_mul, S_mul, hz c' (List.mem_cons_of_mem _ hc'), hcof c' hc', Int.mul_zero, Int.mul_zero]
          rfl)
      intro k hk
      by_cases e : k = i0
      · subst e
        grind
      · by_cases h : k < i0
        · have := ih k (by omega)
          simp only [skip, if_pos h] at this
          exact this
        · have := ih (k - 1) (by omega)
          simp only [skip, if_neg (show ¬ k - 1 < i0 by omega), show k - 1 + 1 = k by omega] at this
          exact this
    have hd0 : δ i0 = 0 := by
      have h1 := hz c List.mem_cons_self
      have h2 : S (fun k => sg i0 * dt (P.eraseIdx i0) cs * (δ k * ent P k c)) P.length = S (fun k => δ i0 * (sg k * ent P k c * dt (P.eraseIdx k) cs)) P.length := S_congr fun k hk => by
        have := step k hk
        grind
      rw [S_mul, S_mul, h1, Int.mul_zero] at h2
      rcases Int.mul_eq_zero.mp h2.symm with z | z
      · exact z
      · exact absurd z hD'
    have := step i hi
    rw [hd0, Int.zero_mul, Int.sub_zero] at this
    rcases Int.mul_eq_zero.mp this with z | z
    · exact absurd z γ0
    · exact z
/-! ### sizes -/
theorem S_abs {f : Nat → Int} {B : Nat} : ∀ {n : Nat}, (∀ i, i < n → (f i).natAbs ≤ B) → (S f n).natAbs ≤ n * B
  | 0, _ => by
    show (0 : Int).natAbs ≤ 0 * B
    rw [Nat.zero_mul]
    exact Nat.le_refl _
  | n + 1, h => by
    have h1 := S_abs (n := n) fun i hi => h i (by omega)
    have h2 := h n (by omega)
    show (S f n + f n).natAbs ≤ (n + 1) * B
    rw [Nat.succ_mul]
    omega
theorem dt_abs {A : Nat} : ∀ (cs : List Nat) (P : List (List Int)), P.length = cs.length → (∀ i c, (ent P i c).natAbs ≤ A) → (dt P cs).natAbs ≤ (cs.length * A) ^ cs.length
  | [], P, _, _ => by
    show 1 ≤ (0 * A) ^ 0
    rw [Nat.pow_zero]
    exact Nat.le_refl _
  | c :: cs, P, hl, hA => by
    have hl' : P.length = cs.length + 1 := hl
    show (S (fun i => sg i * ent P i c * dt (P.eraseIdx i) cs) P.length).natAbs ≤ _
    have hb : ∀ i, i < P.length → (sg i * ent P i c * dt (P.eraseIdx i) cs).natAbs ≤ A * ((cs.length + 1) * A) ^ cs.length := fun i hi => by
      rw [Int.natAbs_mul, Int.natAbs_mul]
      have h1 : (sg i).natAbs = 1 := by
        unfold sg
        split <;> rfl
      have h2 := dt_abs (A := A) cs (P.eraseIdx i) (by rw [List.length_eraseIdx_of_lt hi]; omega) fun j c' => by rw [ent_erase]; exact hA _ _
      have h3 : (cs.length * A) ^ cs.length ≤ ((cs.length + 1) * A) ^ cs.length := Nat.pow_le_pow_left (Nat.mul_le_mul_right A (by omega)) _
      rw [h1, Nat.one_mul]
      exact Nat.mul_le_mul (hA i c) (Nat.le_trans h2 h3)
    refine Nat.le_trans (S_abs hb) ?_
    rw [hl']
    show (cs.length + 1) * (A * ((cs.length + 1) * A) ^ cs.length) ≤ ((cs.length + 1) * A) ^ (cs.length + 1)
    rw [Nat.pow_succ, ← Nat.mul_assoc, Nat.mul_comm]
    exact Nat.le_refl _
end Fd

namespace Fd
/-! ### rows cleared at columns: how great their numbers are -/
abbrev gt (r : List Int) (x : Nat) : Int := r.getD x 0
theorem S_front (f : Nat → Int) : ∀ (n : Nat), S f (n + 1) = f 0 + S (fun i => f (i + 1)) n
  | 0 => by
    show 0 + f 0 = f 0 + 0
    omega
  | n + 1 => by
    show S f (n + 1) + f (n + 1) = f 0 + (S (fun i => f (i + 1)) n + f (n + 1))
    rw [S_front f n]
    omega
theorem ent_zero (o : List Int) (P : List (List Int)) (x : Nat) : ent (o :: P) 0 x = gt o x := rfl
theorem ent_succ (o : List Int) (P : List (List Int)) (i x : Nat) : ent (o :: P) (i + 1) x = ent P i x := rfl
/-- a column moved to the front -/
theorem dt_move : ∀ (cs : List Nat) (P : List (List Int)) (j c : Nat), cs[j]? = some c → dt P (c :: cs.eraseIdx j) = sg j * dt P cs
  | [], _, _, _, h => by simp at h
  | a :: cs, P, 0, c, h => by
    have e : a = c := Option.some.inj h
    subst e
    show dt P (a :: cs) = 1 * dt P (a :: cs)
    omega
  | a :: cs, P, j + 1, c, h => by
    have h' : cs[j]? = some c := h
    show dt P (c :: a :: cs.eraseIdx j) = _
    rw [dt_swap]
    show -S (fun i => sg i * ent P i a * dt (P.eraseIdx i) (c :: cs.eraseIdx j)) P.length = sg (j + 1) * S (fun i => sg i * ent P i a * dt (P.eraseIdx i) cs) P.length
    rw [sg_succ, Int.neg_mul, ← S_mul]
    congr 1
    exact S_congr fun i _ => by rw [dt_move cs (P.eraseIdx i) j c h']; grind
/-- the bordered minors as a sum of the rows -/
theorem dt_front (o : List Int) (P : List (List Int)) (c : List Nat) (x : Nat) : dt (o :: P) (x :: c) = dt P c * gt o x + S (fun i => sg (i + 1) * dt ((o :: P).eraseIdx (i + 1)) c * ent P i x) P.length := by
  show S (fun i => sg i * ent (o :: P) i x * dt ((o :: P).eraseIdx i) c) (P.length + 1) = _
  rw [S_front]
  have e1 : sg 0 * ent (o :: P) 0 x * dt ((o :: P).eraseIdx 0) c = dt P c * gt o x := by
    show 1 * gt o x * dt P c = _
    rw [Int.one_mul, Int.mul_comm]
  rw [e1]
  congr 1
  exact S_congr fun i _ => by rw [ent_succ]; grind
theorem dt_rows (P : List (List Int)) (c : List Nat) (x : Nat) : dt P (x :: c) = S (fun i => sg i * dt (P.eraseIdx i) c * ent P i x) P.length := by
  show S (fun i => sg i * ent P i x * dt (P.eraseIdx i) c) P.length = _
  exact S_congr fun i _ => by grind
/-- a row out of o and P that is nought at the columns c -/
def NonP (P : List (List Int)) (c : List Nat) (o r : List Int) : Prop := ∃ (a b : Int) (β : Nat → Int), a ≠ 0 ∧ b ≠ 0 ∧ (∀ x, a * gt r x = b * gt o x + S (fun i => β i * ent P i x) P.length) ∧ ∀ k ∈ c, gt r k = 0
/-- a row out of P that is nought at the columns c but the one at j -/
def PivP (P : List (List Int)) (c : List Nat) (j : Nat) (r : List Int) : Prop := ∃ (a : Int) (β : Nat → Int), a ≠ 0 ∧ (∀ x, a * gt r x = S (fun i => β i * ent P i x) P.length) ∧ (∀ k ∈ c.eraseIdx j, gt r k = 0) ∧ ∃ k, c[j]? = some k ∧ gt r k ≠ 0
theorem S_lin (u v : Int) (f g : Nat → Int) (n : Nat) : S (fun i => u * f i - v * g i) n = u * S f n - v * S g n := by
  have e : S (fun i => u * f i - v * g i) n = S (fun i => u * f i + -v * g i) n := S_congr fun i _ => by grind
  rw [e, S_add, S_mul, S_mul]
  grind
theorem NonP.par {P : List (List Int)} {c : List Nat} {o r : List Int} (hl : P.length = c.length) (hD : dt P c ≠ 0) (h : NonP P c o r) : ∃ a b : Int, a ≠ 0 ∧ b ≠ 0 ∧ ∀ x, a * gt r x = b * dt (o :: P) (x :: c) := by
  obtain ⟨a, b, β, ha, hb, hx, hz⟩ := h
  refine ⟨dt P c * a, b, Int.mul_ne_zero hD ha, hb, ?_⟩
  have key : ∀ x, dt P c * a * gt r x - b * dt (o :: P) (x :: c) = S (fun i => (dt P c * β i - b * (sg (i + 1) * dt ((o :: P).eraseIdx (i + 1)) c)) * ent P i x) P.length := fun x => by
    have e : S (fun i => (dt P c * β i - b * (sg (i + 1) * dt ((o :: P).eraseIdx (i + 1)) c)) * ent P i x) P.length = S (fun i => dt P c * (β i * ent P i x) - b * (sg (i + 1) * dt ((o :: P).eraseIdx (i + 1)) c * ent P i x)) P.length := S_congr fun i _ => by grind
    rw [e, S_lin, dt_front, Int.mul_assoc, hx]
    grind
  have z := indep c P (fun i => dt P c * β i - b * (sg (i + 1) * dt ((o :: P).eraseIdx (i + 1)) c)) hl hD fun k hk => by
    rw [← key k, hz k hk, dt_twice k c (o :: P) hk]
    grind
  intro x
  have h2 := key x
  rw [S_congr (g := fun _ => 0) fun i hi => by rw [z i hi, Int.zero_mul], S_zero] at h2
  omega
theorem PivP.par {P : List (List Int)} {c : List Nat} {j : Nat} {r : List Int} (hl : P.length = c.length) (hD : dt P c ≠ 0) (h : PivP P c j r) : ∃ a b : Int, a ≠ 0 ∧ b ≠ 0 ∧ ∀ x, a * gt r x = b * dt P (x :: c.eraseIdx j) := by
  obtain ⟨a, β, ha, hx, hz, k, hk, hne⟩ := h
  have hw : dt P (k :: c.eraseIdx j) ≠ 0 := by
    rw [dt_move c P j k hk]
    refine Int.mul_ne_zero (fun z => ?_) hD
    have := sg_sq j
    rw [z] at this
    cases this
  refine ⟨dt P (k :: c.eraseIdx j) * a, a * gt r k, Int.mul_ne_zero hw ha, Int.mul_ne_zero ha hne, ?_⟩
  have key : ∀ x, dt P (k :: c.eraseIdx j) * a * gt r x - a * gt r k * dt P (x :: c.eraseIdx j) = S (fun i => (dt P (k :: c.eraseIdx j) * β i - a * gt r k * (sg i * dt (P.eraseIdx i) (c.eraseIdx j))) * ent P i x) P.length := fun x => by
    have e : S (fun i => (dt P (k :: c.eraseIdx j) * β i - a * gt r k * (sg i * dt (P.eraseIdx i) (c.eraseIdx j))) * ent P i x) P.length = S (fun i => dt P (k :: c.eraseIdx j) * (β i * ent P i x) - a * gt r k * (sg i * dt (P.eraseIdx i) (c.eraseIdx j) * ent P i x)) P.length := S_congr fun i _ => by grind
    rw [e, S_lin, ← dt_rows, ← hx]
    grind
  have z := indep c P (fun i => dt P (k :: c.eraseIdx j) * β i - a * gt r k * (sg i * dt (P.eraseIdx i) (c.eraseIdx j))) hl hD fun m hm => by
    rw [← key m]
    obtain ⟨i, hi⟩ := List.getElem?_of_mem hm
    by_cases e : i = j
    · subst e
      have : m = k := Option.some.inj (hi.symm.trans hk)
      subst this
      grind
    · have hm2 : m ∈ c.eraseIdx j := by
        refine List.mem_eraseIdx_iff_getElem?.mpr ⟨i, e, hi⟩
      rw [hz m hm2, dt_twice m (c.eraseIdx j) P hm2]
      grind
  intro x
  have h2 := key x
  rw [S_congr (g := fun _ => 0) fun i hi => by rw [z i hi, Int.zero_mul], S_zero] at h2
  omega
/-- no whole number but 1 and -1 divides all -/
def Prim (r : List Int) : Prop := ∀ d : Int, (∀ x, d ∣ gt r x) → d.natAbs = 1
theorem prim_le {r : List Int} {w : Nat → Int} {a b : Int} (hp : Prim r) (ha : a ≠ 0) (hb : b ≠ 0) (h : ∀ x, a * gt r x = b * w x) : ∀ x, (gt r x).natAbs ≤ (w x).natAbs := by
  have hg : (Int.gcd a b : Int) ≠ 0 := fun z => ha (Int.gcd_eq_zero_iff.mp (Int.ofNat_eq_zero.mp z)).1
  obtain ⟨a', ea⟩ : (Int.gcd a b : Int) ∣ a := Int.gcd_dvd_left ..
  obtain ⟨b', eb⟩ : (Int.gcd a b : Int) ∣ b := Int.gcd_dvd_right ..
  have hcop : Int.gcd a' b' = 1 := by
    have h1 : Int.gcd a b = Int.gcd a b * Int.gcd a' b' := by
      have h2 : Int.gcd ((Int.gcd a b : Int) * a') ((Int.gcd a b : Int) * b') = (Int.gcd a b : Int).natAbs * Int.gcd a' b' := Int.gcd_mul_left ..
      rw [← ea, ← eb, Int.natAbs_natCast] at h2
      exact h2
    have h3 : 0 < Int.gcd a b := Nat.pos_of_ne_zero fun z => hg (by omega)
    exact Nat.eq_of_mul_eq_mul_left h3 (by omega)
  have h' : ∀ x, a' * gt r x = b' * w x := fun x => by
    have : (Int.gcd a b : Int) * (a' * gt r x) = (Int.gcd a b : Int) * (b' * w x) := by
      rw [← Int.mul_assoc, ← Int.mul_assoc, ← ea, ← eb]
      exact h x
    exact Int.eq_of_mul_eq_mul_left hg this
  have hdiv : ∀ x, b' ∣ gt r x := fun x => Fm.dvd_cop hcop ⟨w x, h' x⟩
  have hb1 := hp b' hdiv
  have ha0 : a' ≠ 0 := fun z => ha (by rw [ea, z, Int.mul_zero])
  intro x
  have e := congrArg Int.natAbs (h' x)
  rw [Int.natAbs_mul, Int.natAbs_mul, hb1, Nat.one_mul] at e
  rw [← e]
  exact Nat.le_mul_of_pos_left _ (by omega)
theorem pow_mono {m n A : Nat} (h : m ≤ n) (hA : 1 ≤ n * A) : (m * A) ^ m ≤ (n * A) ^ n := Nat.le_trans (Nat.pow_le_pow_left (Nat.mul_le_mul_right A h) m) (Nat.pow_le_pow_right hA h)
/-- nought everywhere -/
def Nul (r : List Int) : Prop := ∀ x, gt r x = 0
/-- what is known of the rows: P the pivots' own rows, c their columns, the last one first; O the others' own rows -/
structure Sz (A n : Nat) (P O : List (List Int)) (c : List Nat) (rows : List (List Int)) : Prop where
  lc : P.length = c.length
  lr : P.length + O.length = rows.length
  det : dt P c ≠ 0
  bP : ∀ i x, (ent P i x).natAbs ≤ A
  bO : ∀ i x, (ent O i x).natAbs ≤ A
  piv : ∀ (i : Nat) (r : List Int), i < P.length → rows[i]? = some r → PivP P c (P.length - 1 - i) r
  non : ∀ (i : Nat) (o r : List Int), O[i]? = some o → rows[P.length + i]? = some r → NonP P c o r
  pri : ∀ r ∈ rows, Prim r ∨ Nul r
theorem Sz.bound {A n : Nat} {P O : List (List Int)} {c : List Nat} {rows : List (List Int)} (h : Sz A n P O c rows) {m : Nat} (hm : rows.length ≤ m) (hA : 1 ≤ A) : ∀ r ∈ rows, ∀ x, (gt r x).natAbs ≤ (m * A) ^ m := fun r hr x => by
  obtain ⟨i, hi⟩ := List.getElem?_of_mem hr
  have hlt := (List.getElem?_eq_some_iff.mp hi).1
  rcases h.pri r hr with hp | hz
  · by_cases hip : i < P.length
    · have hpv := h.piv i r hip hi
      obtain ⟨a, b, ha, hb, e⟩ := hpv.par h.lc h.det
      refine Nat.le_trans (prim_le hp ha hb e x) ?_
      obtain ⟨_, _, _, _, _, k, hk, _⟩ := hpv
      have hj := (List.getElem?_eq_some_iff.mp hk).1
      have hl : P.length = (x :: c.eraseIdx (P.length - 1 - i)).length := by
        rw [List.length_cons, List.length_eraseIdx_of_lt hj, h.lc]
        omega
      refine Nat.le_trans (dt_abs _ P hl h.bP) ?_
      rw [← hl]
      have := h.lr
      exact pow_mono (by omega) (Nat.mul_le_mul (show 1 ≤ m by omega) hA)
    · have hO : O[i - P.length]? = some (O[i - P.length]'(by have := h.lr; omega)) := List.getElem?_eq_getElem _
      have hnp := h.non (i - P.length) _ r hO (by rw [show P.length + (i - P.length) = i by omega]; exact hi)
      obtain ⟨a, b, ha, hb, e⟩ := hnp.par h.lc h.det
      refine Nat.le_trans (prim_le hp ha hb e x) ?_
      refine Nat.le_trans (dt_abs (A := A) _ _ (by rw [List.length_cons, List.length_cons, h.lc]) fun k y => ?_) ?_
      · cases k with
        | zero =>
          rw [ent_zero]
          have := h.bO (i - P.length) y
          have e3 : O.getD (i - P.length) [] = O[i - P.length]'(by have := h.lr; omega) := by rw [List.getD_eq_getElem?_getD, hO]; rfl
          unfold ent at this
          rw [e3] at this
          exact this
        | succ k =>
          rw [ent_succ]
          exact h.bP k y
      · rw [List.length_cons, ← h.lc]
        have := h.lr
        exact pow_mono (by omega) (Nat.mul_le_mul (show 1 ≤ m by omega) hA)
  · rw [hz x]
    exact Nat.zero_le _
/-- what clearing makes: r' times a number is r times h less head times r's own -/
def Clr (h ρ : Int) (head r r' : List Int) : Prop := ∃ s : Int, s ≠ 0 ∧ ∀ x, s * gt r' x = h * gt r x - ρ * gt head x
theorem NonP.head {P : List (List Int)} {c : List Nat} {o r : List Int} {at_ : Nat} (h : NonP P c o r) (hne : gt r at_ ≠ 0) : PivP (o :: P) (at_ :: c) 0 r := by
  obtain ⟨a, b, β, ha, hb, hx, hz⟩ := h
  refine ⟨a, fun i => match i with | 0 => b | i + 1 => β i, ha, fun x => ?_, hz, at_, rfl, hne⟩
  show _ = S _ (P.length + 1)
  rw [S_front, hx x]
  rfl
theorem NonP.clear {P : List (List Int)} {c : List Nat} {o oh r head r' : List Int} {at_ : Nat} (h : NonP P c o r) (hh : NonP P c oh head) (hne : gt head at_ ≠ 0) (hc : Clr (gt head at_) (gt r at_) head r r') : NonP (oh :: P) (at_ :: c) o r' := by
  obtain ⟨a, b, β, ha, hb, hx, hz⟩ := h
  obtain ⟨a', b', β', ha', hb', hx', hz'⟩ := hh
  obtain ⟨s, hs, e⟩ := hc
  have hmul : ∀ x, a * a' * s * gt r' x = a' * gt head at_ * (a * gt r x) - a * gt r at_ * (a' * gt head x) := fun x => by
    have := e x
    grind
  refine ⟨a * a' * s, a' * gt head at_ * b, fun i => match i with | 0 => -(a * gt r at_ * b') | i + 1 => a' * gt head at_ * β i - a * gt r at_ * β' i, Int.mul_ne_zero (Int.mul_ne_zero ha ha') hs, Int.mul_ne_zero (Int.mul_ne_zero ha' hne) hb, fun x => ?_, fun k hk => ?_⟩
  · rw [hmul x, hx x, hx' x]
    show _ = _ + S _ (P.length + 1)
    rw [S_front]
    have e2 : S (fun i => (a' * gt head at_ * β i - a * gt r at_ * β' i) * ent P i x) P.length = a' * gt head at_ * S (fun i => β i * ent P i x) P.length - a * gt r at_ * S (fun i => β' i * ent P i x) P.length := by
      rw [← S_lin]
      exact S_congr fun i _ => by grind
    show _ = _ + (-(a * gt r at_ * b') * gt oh x + S (fun i => (a' * gt head at_ * β i - a * gt r at_ * β' i) * ent P i x) P.length)
    rw [e2]
    grind
  · have h1 : s * gt r' k = 0 := by
      rw [e k]
      rcases List.mem_cons.mp hk with rfl | hk
      · grind
      · rw [hz k hk, hz' k hk]
        grind
    rcases Int.mul_eq_zero.mp h1 with z | z
    · exact absurd z hs
    · exact z
theorem PivP.clear {P : List (List Int)} {c : List Nat} {j : Nat} {oh r head r' : List Int} {at_ : Nat} (h : PivP P c j r) (hh : NonP P c oh head) (hne : gt head at_ ≠ 0) (hc : Clr (gt head at_) (gt r at_) head r r') : PivP (oh :: P) (at_ :: c) (j + 1) r' := by
  obtain ⟨a, β, ha, hx, hz, k, hk, hkn⟩ := h
  obtain ⟨a', b', β', ha', hb', hx', hz'⟩ := hh
  obtain ⟨s, hs, e⟩ := hc
  have hmul : ∀ x, a * a' * s * gt r' x = a' * gt head at_ * (a * gt r x) - a * gt r at_ * (a' * gt head x) := fun x => by
    have := e x
    grind
  refine ⟨a * a' * s, fun i => match i with | 0 => -(a * gt r at_ * b') | i + 1 => a' * gt head at_ * β i - a * gt r at_ * β' i, Int.mul_ne_zero (Int.mul_ne_zero ha ha') hs, fun x => ?_, fun m hm => ?_, k, hk, fun z => ?_⟩
  · rw [hmul x, hx x, hx' x]
    show _ = S _ (P.length + 1)
    rw [S_front]
    have e2 : S (fun i => (a' * gt head at_ * β i - a * gt r at_ * β' i) * ent P i x) P.length = a' * gt head at_ * S (fun i => β i * ent P i x) P.length - a * gt r at_ * S (fun i => β' i * ent P i x) P.length := by
      rw [← S_lin]
      exact S_congr fun i _ => by grind
    show _ = -(a * gt r at_ * b') * gt oh x + S (fun i => (a' * gt head at_ * β i - a * gt r at_ * β' i) * ent P i x) P.length
    rw [e2]
    grind
  · have hm' : m ∈ at_ :: c.eraseIdx j := hm
    have h1 : s * gt r' m = 0 := by
      rw [e m]
      rcases List.mem_cons.mp hm' with rfl | hk'
      · grind
      · rw [hz m hk', hz' m (List.mem_of_mem_eraseIdx hk')]
        grind
    rcases Int.mul_eq_zero.mp h1 with z | z
    · exact absurd z hs
    · exact z
  · have h2 := e k
    rw [z, hz' k (List.mem_of_getElem? hk), Int.mul_zero, Int.mul_zero, Int.sub_zero] at h2
    rcases Int.mul_eq_zero.mp h2.symm with y | y
    · exact hne y
    · exact hkn y
/-- the pivot's minor stays other than nought -/
theorem NonP.det {P : List (List Int)} {c : List Nat} {o r : List Int} {at_ : Nat} (hl : P.length = c.length) (hD : dt P c ≠ 0) (h : NonP P c o r) (hne : gt r at_ ≠ 0) : dt (o :: P) (at_ :: c) ≠ 0 := by
  obtain ⟨a, b, ha, hb, e⟩ := h.par hl hD
  intro z
  have := e at_
  rw [z, Int.mul_zero] at this
  rcases Int.mul_eq_zero.mp this with y | y
  · exact ha y
  · exact hne y
end Fd

namespace Fd
/-! ### minors bordered twice; what rows span is told by columns -/
/-- two sums of the rows that are the same at the columns are the same -/
theorem dt_ext {P : List (List Int)} {c : List Nat} (hl : P.length = c.length) (hD : dt P c ≠ 0) {f g : Nat → Int} (β γ : Nat → Int) (hf : ∀ x, f x = S (fun i => β i * ent P i x) P.length) (hg : ∀ x, g x = S (fun i => γ i * ent P i x) P.length) (he : ∀ k ∈ c, f k = g k) : ∀ x, f x = g x := by
  have key : ∀ x, f x - g x = S (fun i => (β i - γ i) * ent P i x) P.length := fun x => by
    have e : S (fun i => (β i - γ i) * ent P i x) P.length = S (fun i => 1 * (β i * ent P i x) - 1 * (γ i * ent P i x)) P.length := S_congr fun i _ => by grind
    rw [e, S_lin, hf, hg]
    omega
  have z := indep c P (fun i => β i - γ i) hl hD fun k hk => by
    rw [← key k, he k hk]
    omega
  intro x
  have h2 := key x
  rw [S_congr (g := fun _ => 0) fun i hi => by rw [z i hi, Int.zero_mul], S_zero] at h2
  omega
/-- a row and others, bordered by one row and column more -/
theorem dt_syl {P : List (List Int)} {c : List Nat} (hl : P.length = c.length) {o h : List Int} {k : Nat} (hD : dt (h :: P) (k :: c) ≠ 0) (x : Nat) :
    dt P c * dt (o :: h :: P) (x :: k :: c) = dt (o :: P) (x :: c) * dt (h :: P) (k :: c) - dt (o :: P) (k :: c) * dt (h :: P) (x :: c) := by
  have hl' : (h :: P).length = (k :: c).length := by rw [List.length_cons, List.length_cons, hl]
  have e1 : ∀ x, dt (o :: h :: P) (x :: k :: c) = dt (h :: P) (k :: c) * gt o x + S (fun i => sg (i + 1) * dt ((o :: h :: P).eraseIdx (i + 1)) (k :: c) * ent (h :: P) i x) (h :: P).length := fun x => dt_front o (h :: P) (k :: c) x
  have e2 : ∀ x, dt (o :: P) (x :: c) = dt P c * gt o x + S (fun i => sg (i + 1) * dt ((o :: P).eraseIdx (i + 1)) c * ent P i x) P.length := fun x => dt_front o P c x
  have e3 : ∀ x, dt (h :: P) (x :: c) = dt P c * gt h x + S (fun i => sg (i + 1) * dt ((h :: P).eraseIdx (i + 1)) c * ent P i x) P.length := fun x => dt_front h P c x
  have hh := dt_ext hl' hD (f := fun x => dt P c * dt (o :: h :: P) (x :: k :: c) - dt P c * dt (h :: P) (k :: c) * gt o x) (g := fun x => dt (o :: P) (x :: c) * dt (h :: P) (k :: c) - dt (o :: P) (k :: c) * dt (h :: P) (x :: c) - dt P c * dt (h :: P) (k :: c) * gt o x)
    (fun i => dt P c * (sg (i + 1) * dt ((o :: h :: P).eraseIdx (i + 1)) (k :: c)))
    (fun i => match i with | 0 => -(dt (o :: P) (k :: c) * dt P c) | i + 1 => dt (h :: P) (k :: c) * (sg (i + 1) * dt ((o :: P).eraseIdx (i + 1)) c) - dt (o :: P) (k :: c) * (sg (i + 1) * dt ((h :: P).eraseIdx (i + 1)) c))
    (fun x => by
      have e : S (fun i => dt P c * (sg (i + 1) * dt ((o :: h :: P).eraseIdx (i + 1)) (k :: c)) * ent (h :: P) i x) (h :: P).length = dt P c * S (fun i => sg (i + 1) * dt ((o :: h :: P).eraseIdx (i + 1)) (k :: c) * ent (h :: P) i x) (h :: P).length := by
        rw [← S_mul]
        exact S_congr fun i _ => by grind
      rw [e]
      have := e1 x
      grind)
    (fun x => by
      show _ = S _ (P.length + 1)
      rw [S_front]
      have e : S (fun i => (dt (h :: P) (k :: c) * (sg (i + 1) * dt ((o :: P).eraseIdx (i + 1)) c) - dt (o :: P) (k :: c) * (sg (i + 1) * dt ((h :: P).eraseIdx (i + 1)) c)) * ent P i x) P.length = dt (h :: P) (k :: c) * S (fun i => sg (i + 1) * dt ((o :: P).eraseIdx (i + 1)) c * ent P i x) P.length - dt (o :: P) (k :: c) * S (fun i => sg (i + 1) * dt ((h :: P).eraseIdx (i + 1)) c * ent P i x) P.length := by
        rw [← S_lin]
        exact S_congr fun i _ => by grind
      show _ = -(dt (o :: P) (k :: c) * dt P c) * gt h x + S (fun i => (dt (h :: P) (k :: c) * (sg (i + 1) * dt ((o :: P).eraseIdx (i + 1)) c) - dt (o :: P) (k :: c) * (sg (i + 1) * dt ((h :: P).eraseIdx (i + 1)) c)) * ent P i x) P.length
      rw [e]
      have h2 := e2 x
      have h3 := e3 x
      grind)
    (fun m hm => by
      have z1 : dt (o :: h :: P) (m :: k :: c) = 0 := dt_twice m (k :: c) _ hm
      show dt P c * dt (o :: h :: P) (m :: k :: c) - _ = _
      rw [z1]
      rcases List.mem_cons.mp hm with rfl | hm'
      · grind
      · rw [dt_twice m c (o :: P) hm', dt_twice m c (h :: P) hm']
        grind) x
  have hh' : dt P c * dt (o :: h :: P) (x :: k :: c) - dt P c * dt (h :: P) (k :: c) * gt o x = dt (o :: P) (x :: c) * dt (h :: P) (k :: c) - dt (o :: P) (k :: c) * dt (h :: P) (x :: c) - dt P c * dt (h :: P) (k :: c) * gt o x := hh
  omega
/-- the pivots' rows, with one row and column more -/
theorem dt_piv {P : List (List Int)} {c : List Nat} (hl : P.length = c.length) {h : List Int} {k j m : Nat} (hj : c[j]? = some m) (hD : dt (h :: P) (k :: c) ≠ 0) (x : Nat) :
    dt P c * dt (h :: P) (x :: k :: c.eraseIdx j) = -(dt P (x :: c.eraseIdx j) * dt (h :: P) (k :: c) - dt P (k :: c.eraseIdx j) * dt (h :: P) (x :: c)) := by
  have hl' : (h :: P).length = (k :: c).length := by rw [List.length_cons, List.length_cons, hl]
  have mv := dt_move c P j m hj
  have mvh := dt_move (k :: c) (h :: P) (j + 1) m hj
  have mvh' : dt (h :: P) (m :: k :: c.eraseIdx j) = sg (j + 1) * dt (h :: P) (k :: c) := mvh
  have e3 : ∀ x, dt (h :: P) (x :: c) = dt P c * gt h x + S (fun i => sg (i + 1) * dt ((h :: P).eraseIdx (i + 1)) c * ent P i x) P.length := fun x => dt_front h P c x
  refine dt_ext hl' hD (f := fun x => dt P c * dt (h :: P) (x :: k :: c.eraseIdx j)) (g := fun x => -(dt P (x :: c.eraseIdx j) * dt (h :: P) (k :: c) - dt P (k :: c.eraseIdx j) * dt (h :: P) (x :: c)))
    (fun i => dt P c * (sg i * dt ((h :: P).eraseIdx i) (k :: c.eraseIdx j)))
    (fun i => match i with | 0 => dt P (k :: c.eraseIdx j) * dt P c | i + 1 => -(dt (h :: P) (k :: c) * (sg i * dt (P.eraseIdx i) (c.eraseIdx j))) + dt P (k :: c.eraseIdx j) * (sg (i + 1) * dt ((h :: P).eraseIdx (i + 1)) c))
    (fun x => ?_) (fun x => ?_) (fun y hy => ?_) x
  · show dt P c * dt (h :: P) (x :: k :: c.eraseIdx j) = _
    rw [dt_rows (h :: P) (k :: c.eraseIdx j) x, ← S_mul]
    exact S_congr fun i _ => by grind
  · show _ = S _ (P.length + 1)
    rw [S_front]
    have e : S (fun i => (-(dt (h :: P) (k :: c) * (sg i * dt (P.eraseIdx i) (c.eraseIdx j))) + dt P (k :: c.eraseIdx j) * (sg (i + 1) * dt ((h :: P).eraseIdx (i + 1)) c)) * ent P i x) P.length = dt P (k :: c.eraseIdx j) * S (fun i => sg (i + 1) * dt ((h :: P).eraseIdx (i + 1)) c * ent P i x) P.length - dt (h :: P) (k :: c) * S (fun i => sg i * dt (P.eraseIdx i) (c.eraseIdx j) * ent P i x) P.length := by
      rw [← S_lin]
      exact S_congr fun i _ => by grind
    show _ = dt P (k :: c.eraseIdx j) * dt P c * gt h x + S (fun i => (-(dt (h :: P) (k :: c) * (sg i * dt (P.eraseIdx i) (c.eraseIdx j))) + dt P (k :: c.eraseIdx j) * (sg (i + 1) * dt ((h :: P).eraseIdx (i + 1)) c)) * ent P i x) P.length
    rw [e, ← dt_rows]
    have h3 := e3 x
    grind
  · show dt P c * dt (h :: P) (y :: k :: c.eraseIdx j) = -(dt P (y :: c.eraseIdx j) * dt (h :: P) (k :: c) - dt P (k :: c.eraseIdx j) * dt (h :: P) (y :: c))
    rcases List.mem_cons.mp hy with rfl | hy'
    · rw [dt_twice y (y :: c.eraseIdx j) (h :: P) List.mem_cons_self]
      grind
    · rw [dt_twice y c (h :: P) hy']
      obtain ⟨i, hi⟩ := List.getElem?_of_mem hy'
      by_cases e : i = j
      · subst e
        have : y = m := Option.some.inj (hi.symm.trans hj)
        subst this
        rw [mv, mvh', sg_succ]
        grind
      · have hm2 : y ∈ c.eraseIdx j := List.mem_eraseIdx_iff_getElem?.mpr ⟨i, e, hi⟩
        rw [dt_twice y (c.eraseIdx j) P hm2, dt_twice y (k :: c.eraseIdx j) (h :: P) (List.mem_cons_of_mem _ hm2)]
        grind
end Fd
namespace Fr
open Lean.Grind
variable {F : Type} [CommRing F]
/-! ### how many rows: none of rows that the others don't span more than rows that span them -/
theorem InS.mono {L M : List (Row F)} {v : Row F} (h : InS L v) (hs : ∀ r ∈ L, r ∈ M) : InS M v := h.trans fun r hr => InS.mem (hs r hr)
theorem InS.split {l : Row F} {L : List (Row F)} {v : Row F} (h : InS (l :: L) v) : ∃ (a : F) (u : Row F), InS L u ∧ v = fun j => a * l j + u j := by
  refine h (fun v => ∃ (a : F) (u : Row F), InS L u ∧ v = fun j => a * l j + u j) ⟨⟨0, fun _ => 0, (InS.spc L).zero, funext fun j => by grind⟩, fun u v hu hv => ?_, fun c u hu => ?_⟩ fun r hr => ?_
  · obtain ⟨a, u', h1, rfl⟩ := hu
    obtain ⟨b, v', h2, rfl⟩ := hv
    exact ⟨a + b, _, (InS.spc L).add _ _ h1 h2, funext fun j => by grind⟩
  · obtain ⟨a, u', h1, rfl⟩ := hu
    exact ⟨c * a, _, (InS.spc L).mul c _ h1, funext fun j => by grind⟩
  · rcases List.mem_cons.mp hr with rfl | hr
    · exact ⟨1, fun _ => 0, (InS.spc L).zero, funext fun j => by grind⟩
    · exact ⟨0, r, InS.mem hr, funext fun j => by grind⟩
/-- none is spanned by those behind it -/
def Ind : List (Row F) → Prop
  | [] => True
  | v :: M => ¬ InS M v ∧ Ind M
end Fr

namespace Fr
open Lean.Grind
variable {F : Type} [CommRing F]
/-! ### determinants in any ring: by the first column; as what is linear in each row and nought where two rows are the same -/
def SF (f : Nat → F) : Nat → F
  | 0 => 0
  | n + 1 => SF f n + f n
theorem SF_congr {f g : Nat → F} : ∀ {n : Nat}, (∀ i, i < n → f i = g i) → SF f n = SF g n
  | 0, _ => rfl
  | n + 1, h => by
    show SF f n + f n = SF g n + g n
    rw [SF_congr (n := n) fun i hi => h i (by omega), h n (by omega)]
theorem SF_zero : ∀ (n : Nat), SF (fun _ => (0 : F)) n = 0
  | 0 => rfl
  | n + 1 => by
    show SF (fun _ => (0 : F)) n + 0 = 0
    rw [SF_zero n]
    grind
theorem SF_nul {f : Nat → F} {n : Nat} (h : ∀ i, i < n → f i = 0) : SF f n = 0 := by rw [SF_congr h, SF_zero]
theorem SF_add (f g : Nat → F) : ∀ (n : Nat), SF (fun i => f i + g i) n = SF f n + SF g n
  | 0 => by
    show (0 : F) = 0 + 0
    grind
  | n + 1 => by
    show SF (fun i => f i + g i) n + (f n + g n) = SF f n + f n + (SF g n + g n)
    rw [SF_add f g n]
    grind
theorem SF_mul (c : F) (f : Nat → F) : ∀ (n : Nat), SF (fun i => c * f i) n = c * SF f n
  | 0 => by
    show (0 : F) = c * 0
    grind
  | n + 1 => by
    show SF (fun i => c * f i) n + c * f n = c * (SF f n + f n)
    rw [SF_mul c f n]
    grind
theorem SF_front (f : Nat → F) : ∀ (n : Nat), SF f (n + 1) = f 0 + SF (fun i => f (i + 1)) n
  | 0 => by
    show (0 : F) + f 0 = f 0 + 0
    grind
  | n + 1 => by
    show SF f (n + 1) + f (n + 1) = f 0 + (SF (fun i => f (i + 1)) n + f (n + 1))
    rw [SF_front f n]
    grind
theorem SF_split (f : Nat → F) (a : Nat) : ∀ (b : Nat), SF f (a + 1 + b) = SF f a + f a + SF (fun i => f (a + 1 + i)) b
  | 0 => by
    show SF f a + f a = SF f a + f a + 0
    grind
  | b + 1 => by
    show SF f (a + 1 + b) + f (a + 1 + b) = SF f a + f a + (SF (fun i => f (a + 1 + i)) b + f (a + 1 + b))
    rw [SF_split f a b]
    grind
def sF (k : Nat) : F := if k % 2 = 0 then 1 else -1
theorem sF_succ (k : Nat) : (sF (k + 1) : F) = -sF k := by
  unfold sF
  by_cases h : k % 2 = 0
  · rw [if_pos h, if_neg (by omega)]
  · rw [if_neg h, if_pos (by omega)]
    grind
theorem sF_sq (k : Nat) : (sF k * sF k : F) = 1 := by
  unfold sF
  split <;> grind
def zr : Row F := fun _ => 0
def dC : List (Row F) → List Nat → F
  | _, [] => 1
  | rows, c :: cs => SF (fun i => sF i * (rows.getD i zr) c * dC (rows.eraseIdx i) cs) rows.length
def dR : List (Row F) → List Nat → F
  | [], _ => 1
  | r :: rs, cs => SF (fun k => sF k * r (cs.getD k 0) * dR rs (cs.eraseIdx k)) cs.length
theorem dC_at (pre : List (Row F)) (u : Row F) (post : List (Row F)) (c : Nat) (cs : List Nat) : dC (pre ++ u :: post) (c :: cs) = SF (fun i => sF i * (pre.getD i zr) c * dC (pre.eraseIdx i ++ u :: post) cs) pre.length + sF pre.length * u c * dC (pre ++ post) cs + SF (fun j => sF (pre.length + 1 + j) * (post.getD j zr) c * dC (pre ++ u :: post.eraseIdx j) cs) post.length := by
  show SF (fun i => sF i * ((pre ++ u :: post).getD i zr) c * dC ((pre ++ u :: post).eraseIdx i) cs) (pre ++ u :: post).length = _
  rw [show (pre ++ u :: post).length = pre.length + 1 + post.length by rw [List.length_append, List.length_cons]; omega, SF_split]
  congr 1
  · congr 1
    · refine SF_congr fun i hi => ?_
      rw [List.eraseIdx_append_of_lt_length hi]
      congr 2
      rw [List.getD_eq_getElem?_getD, List.getD_eq_getElem?_getD, List.getElem?_append_left hi]
    · have e1 : (pre ++ u :: post).getD pre.length zr = u := by
        rw [List.getD_eq_getElem?_getD, List.getElem?_append_right (Nat.le_refl _), Nat.sub_self]
        rfl
      rw [e1, List.eraseIdx_append_of_length_le (Nat.le_refl _), Nat.sub_self]
      rfl
  · refine SF_congr fun j hj => ?_
    have e1 : (pre ++ u :: post).getD (pre.length + 1 + j) zr = post.getD j zr := by
      rw [List.getD_eq_getElem?_getD, List.getD_eq_getElem?_getD, List.getElem?_append_right (by omega), show pre.length + 1 + j - pre.length = j + 1 by omega]
      rfl
    rw [e1, List.eraseIdx_append_of_length_le (by omega), show pre.length + 1 + j - pre.length = j + 1 by omega]
    rfl
/-- linear in each of m rows; nought where two that stand beside each other are the same -/
structure Alt (m : Nat) (f : List (Row F) → F) : Prop where
  add : ∀ (pre : List (Row F)) (u v : Row F) (post : List (Row F)), pre.length + post.length + 1 = m → f (pre ++ (fun j => u j + v j) :: post) = f (pre ++ u :: post) + f (pre ++ v :: post)
  mul : ∀ (pre : List (Row F)) (c : F) (u : Row F) (post : List (Row F)), pre.length + post.length + 1 = m → f (pre ++ (fun j => c * u j) :: post) = c * f (pre ++ u :: post)
  alt : ∀ (pre : List (Row F)) (u : Row F) (post : List (Row F)), pre.length + post.length + 2 = m → f (pre ++ u :: u :: post) = 0
theorem dC_alt : ∀ (cs : List Nat), Alt cs.length (fun rows : List (Row F) => dC rows cs)
  | [] => ⟨fun _ _ _ _ h => by simp at h, fun _ _ _ _ h => by simp at h, fun _ _ _ h => by simp at h⟩
  | c :: cs => by
    have ih := dC_alt cs
    refine ⟨fun pre u v post h => ?_, fun pre k u post h => ?_, fun pre u post h => ?_⟩
    · rw [List.length_cons] at h
      show dC (pre ++ (fun j => u j + v j) :: post) (c :: cs) = dC (pre ++ u :: post) (c :: cs) + dC (pre ++ v :: post) (c :: cs)
      rw [dC_at, dC_at, dC_at]
      have e1 : SF (fun i => sF i * (pre.getD i zr) c * dC (pre.eraseIdx i ++ (fun j => u j + v j) :: post) cs) pre.length = SF (fun i => sF i * (pre.getD i zr) c * dC (pre.eraseIdx i ++ u :: post) cs) pre.length + SF (fun i => sF i * (pre.getD i zr) c * dC (pre.eraseIdx i ++ v :: post) cs) pre.length := by
        rw [← SF_add]
        refine SF_congr fun i hi => ?_
        have := ih.add (pre.eraseIdx i) u v post (by rw [List.length_eraseIdx_of_lt hi]; omega)
        rw [this]
        grind
      have e2 : SF (fun j => sF (pre.length + 1 + j) * (post.getD j zr) c * dC (pre ++ (fun j => u j + v j) :: post.eraseIdx j) cs) post.length = SF (fun j => sF (pre.length + 1 + j) * (post.getD j zr) c * dC (pre ++ u :: post.eraseIdx j) cs) post.length + SF (fun j => sF (pre.length + 1 + j) * (post.getD j zr) c * dC (pre ++ v :: post.eraseIdx j) cs) post.length := by
        rw [← SF_add]
        refine SF_congr fun i hi => ?_
        have := ih.add pre u v (post.eraseIdx i) (by rw [List.length_eraseIdx_of_lt hi]; omega)
        rw [this]
        grind
      rw [e1, e2]
      grind
    · rw [List.length_cons] at h
      show dC (pre ++ (fun j => k * u j) :: post) (c :: cs) = k * dC (pre ++ u :: post) (c :: cs)
      rw [dC_at, dC_at]
      have e1 : SF (fun i => sF i * (pre.getD i zr) c * dC (pre.eraseIdx i ++ (fun j => k * u j) :: post) cs) pre.length = k * SF (fun i => sF i * (pre.getD i zr) c * dC (pre.eraseIdx i ++ u :: post) cs) pre.length := by
        rw [← SF_mul]
        refine SF_congr fun i hi => ?_
        have := ih.mul (pre.eraseIdx i) k u post (by rw [List.length_eraseIdx_of_lt hi]; omega)
        rw [this]
        grind
      have e2 : SF (fun j => sF (pre.length + 1 + j) * (post.getD j zr) c * dC (pre ++ (fun j => k * u j) :: post.eraseIdx j) cs) post.length = k * SF (fun j => sF (pre.length + 1 + j) * (post.getD j zr) c * dC (pre ++ u :: post.eraseIdx j) cs) post.length := by
        rw [← SF_mul]
        refine SF_congr fun i hi => ?_
        have := ih.mul pre k u (post.eraseIdx i) (by rw [List.length_eraseIdx_of_lt hi]; omega)
        rw [this]
        grind
      rw [e1, e2]
      grind
    · rw [List.length_cons] at h
      show dC (pre ++ u :: u :: post) (c :: cs) = 0
      rw [dC_at, List.length_cons, SF_front]
      have e1 : SF (fun i => sF i * (pre.getD i zr) c * dC (pre.eraseIdx i ++ u :: u :: post) cs) pre.length = 0 := SF_nul fun i hi => by
        have := ih.alt (pre.eraseIdx i) u post (by rw [List.length_eraseIdx_of_lt hi]; omega)
        rw [this]
        grind
      have e2 : SF (fun i => sF (pre.length + 1 + (i + 1)) * ((u :: post).getD (i + 1) zr) c * dC (pre ++ u :: (u :: post).eraseIdx (i + 1)) cs) post.length = 0 := SF_nul fun i hi => by
        have := ih.alt pre u (post.eraseIdx i) (by rw [List.length_eraseIdx_of_lt hi]; omega)
        show sF (pre.length + 1 + (i + 1)) * (post.getD i zr) c * dC (pre ++ u :: u :: post.eraseIdx i) cs = 0
        rw [this]
        grind
      rw [e1, e2]
      show 0 + sF pre.length * u c * dC (pre ++ u :: post) cs + (sF (pre.length + 1) * u c * dC (pre ++ u :: post) cs + 0) = 0
      rw [sF_succ]
      grind
section
variable {m : Nat} {f : List (Row F) → F}
theorem Alt.zero (a : Alt m f) {pre post : List (Row F)} (h : pre.length + post.length + 1 = m) : f (pre ++ (fun _ => 0) :: post) = 0 := by
  have := a.mul pre 0 (fun _ => 0) post h
  have e : (fun j : Nat => (0 : F) * (fun _ : Nat => (0 : F)) j) = fun _ => 0 := funext fun j => by grind
  rw [e] at this
  rw [this]
  grind
theorem Alt.swap (a : Alt m f) {pre post : List (Row F)} {u v : Row F} (h : pre.length + post.length + 2 = m) : f (pre ++ u :: v :: post) = -f (pre ++ v :: u :: post) := by
  have h1 := a.alt pre (fun j => u j + v j) post h
  have h2 := a.add pre u v ((fun j => u j + v j) :: post) (by rw [List.length_cons]; omega)
  have h3 := a.add (pre ++ [u]) u v post (by rw [List.length_append]; show pre.length + 1 + post.length + 1 = m; omega)
  have h4 := a.add (pre ++ [v]) u v post (by rw [List.length_append]; show pre.length + 1 + post.length + 1 = m; omega)
  have h5 := a.alt pre u post h
  have h6 := a.alt pre v post h
  simp only [List.append_assoc, List.singleton_append] at h3 h4
  rw [h1, h3, h4, h5, h6] at h2
  grind
theorem Alt.move (a : Alt m f) {u : Row F} : ∀ (mid pre post : List (Row F)), pre.length + mid.length + post.length + 1 = m → f (pre ++ u :: (mid ++ post)) = sF mid.length * f (pre ++ mid ++ u :: post)
  | [], pre, post, _ => by
    show f (pre ++ u :: post) = 1 * f (pre ++ [] ++ u :: post)
    rw [List.append_nil]
    grind
  | v :: mid, pre, post, h => by
    rw [List.length_cons] at h
    have h1 := a.swap (pre := pre) (post := mid ++ post) (u := u) (v := v) (by rw [List.length_append]; omega)
    have h2 := Alt.move a mid (pre ++ [v]) post (by rw [List.length_append]; show pre.length + 1 + mid.length + post.length + 1 = m; omega) (u := u)
    simp only [List.append_assoc, List.singleton_append] at h2
    show f (pre ++ u :: v :: (mid ++ post)) = sF (mid.length + 1) * f (pre ++ v :: mid ++ u :: post)
    rw [h1, h2, sF_succ]
    simp only [List.append_assoc, List.cons_append]
    grind
/-- nought where a row stands twice -/
theorem Alt.twice (a : Alt m f) {u : Row F} (pre mid post : List (Row F)) (h : pre.length + mid.length + post.length + 2 = m) : f (pre ++ u :: (mid ++ u :: post)) = 0 := by
  rw [a.move mid pre (u :: post) (by rw [List.length_cons]; omega)]
  have := a.alt (pre ++ mid) u post (by rw [List.length_append]; omega)
  rw [this]
  grind
theorem Alt.clear1 (a : Alt m f) {u r : Row F} {k : F} {pre post : List (Row F)} (hu : u ∈ pre) (h : pre.length + post.length + 1 = m) : f (pre ++ (fun j => r j + k * u j) :: post) = f (pre ++ r :: post) := by
  rw [a.add pre r (fun j => k * u j) post h, a.mul pre k u post h]
  obtain ⟨p1, p2, rfl⟩ := List.append_of_mem hu
  rw [List.length_append, List.length_cons] at h
  have := a.twice (u := u) p1 p2 post (by omega)
  rw [show p1 ++ u :: p2 ++ u :: post = p1 ++ u :: (p2 ++ u :: post) by rw [List.append_assoc]; rfl, this]
  grind
theorem Alt.clear (a : Alt m f) {u : Row F} {k : Row F → F} : ∀ (rs pre : List (Row F)), u ∈ pre → pre.length + rs.length = m → f (pre ++ rs.map fun r j => r j + k r * u j) = f (pre ++ rs)
  | [], _, _, _ => rfl
  | r :: rs, pre, hu, h => by
    rw [List.length_cons] at h
    have h1 := a.clear1 (r := r) (k := k r) (pre := pre) (post := rs.map fun r j => r j + k r * u j) hu (by rw [List.length_map]; omega)
    have h2 := Alt.clear a (k := k) rs (pre ++ [r]) (List.mem_append_left _ hu) (by rw [List.length_append]; show pre.length + 1 + rs.length = m; omega)
    simp only [List.append_assoc, List.singleton_append] at h2
    show f (pre ++ (fun j => r j + k r * u j) :: rs.map fun r j => r j + k r * u j) = _
    rw [h1, h2]
theorem Alt.sum (a : Alt m f) {pre post : List (Row F)} (h : pre.length + post.length + 1 = m) (c : Nat → F) (U : Nat → Row F) : ∀ n, f (pre ++ (fun j => SF (fun k => c k * U k j) n) :: post) = SF (fun k => c k * f (pre ++ U k :: post)) n
  | 0 => a.zero h
  | n + 1 => by
    show f (pre ++ (fun j => SF (fun k => c k * U k j) n + c n * U n j) :: post) = SF (fun k => c k * f (pre ++ U k :: post)) n + c n * f (pre ++ U n :: post)
    rw [a.add pre (fun j => SF (fun k => c k * U k j) n) (fun j => c n * U n j) post h, a.mul pre (c n) (U n) post h, Alt.sum a h c U n]
theorem Alt.tail (a : Alt (m + 1) f) (u : Row F) : Alt m fun rows => f (u :: rows) :=
  ⟨fun pre v w post h => a.add (u :: pre) v w post (by rw [List.length_cons]; omega), fun pre c v post h => a.mul (u :: pre) c v post (by rw [List.length_cons]; omega), fun pre v post h => a.alt (u :: pre) v post (by rw [List.length_cons]; omega)⟩
end
def unit (c : Nat) : Row F := fun j => if j = c then 1 else 0
theorem by_units (r : Row F) (j : Nat) : ∀ (cs : List Nat), cs.Nodup → SF (fun k => r (cs.getD k 0) * unit (cs.getD k 0) j) cs.length = if j ∈ cs then r j else 0
  | [], _ => by
    rw [if_neg (by simp)]
    rfl
  | c :: cs, h => by
    rw [List.length_cons, SF_front]
    have hc := List.nodup_cons.mp h
    have ih := by_units r j cs hc.2
    show r c * unit c j + SF (fun k => r (cs.getD k 0) * unit (cs.getD k 0) j) cs.length = _
    rw [ih]
    unfold unit
    by_cases e : j = c
    · subst e
      rw [if_pos rfl, if_neg hc.1, if_pos List.mem_cons_self]
      grind
    · rw [if_neg e]
      by_cases hm : j ∈ cs
      · rw [if_pos hm, if_pos (List.mem_cons_of_mem _ hm)]
        grind
      · rw [if_neg hm, if_neg (fun z => (List.mem_cons.mp z).elim e hm)]
        grind
theorem dR_congr : ∀ (rs ss : List (Row F)) (cs : List Nat), rs.length = ss.length → (∀ (i : Nat) (r s : Row F), rs[i]? = some r → ss[i]? = some s → ∀ j ∈ cs, r j = s j) → dR rs cs = dR ss cs
  | [], [], _, _, _ => rfl
  | [], _ :: _, _, h, _ => by cases h
  | _ :: _, [], _, h, _ => by cases h
  | r :: rs, s :: ss, cs, h, he => by
    show SF _ cs.length = SF _ cs.length
    refine SF_congr fun k hk => ?_
    have hm : cs.getD k 0 ∈ cs := by
      rw [List.getD_eq_getElem?_getD, List.getElem?_eq_getElem hk]
      exact List.getElem_mem hk
    rw [he 0 r s rfl rfl _ hm, dR_congr rs ss (cs.eraseIdx k) (Nat.succ.inj h) fun i a b ha hb j hj => he (i + 1) a b ha hb j (List.mem_of_mem_eraseIdx hj)]
theorem erase_parts {α : Type} {cs : List α} {k : Nat} {d : α} (h : k < cs.length) : cs = cs.take k ++ cs.getD k d :: cs.drop (k + 1) ∧ cs.eraseIdx k = cs.take k ++ cs.drop (k + 1) := by
  refine ⟨?_, List.eraseIdx_eq_take_drop_succ ..⟩
  rw [List.getD_eq_getElem?_getD, List.getElem?_eq_getElem h]
  show cs = cs.take k ++ cs[k] :: cs.drop (k + 1)
  rw [← List.drop_eq_getElem_cons h, List.take_append_drop]
/-- what is linear so is the determinant times its worth at ones -/
theorem alt_det : ∀ (rs : List (Row F)) (cs : List Nat) (f : List (Row F) → F), Alt cs.length f → rs.length = cs.length → cs.Nodup → (∀ r ∈ rs, ∀ j, j ∉ cs → r j = 0) → f rs = dR rs cs * f (cs.map unit)
  | [], cs, f, a, hl, _, _ => by
    have : cs = [] := List.length_eq_zero_iff.mp hl.symm
    subst this
    show f [] = 1 * f []
    grind
  | r :: rs, cs, f, a, hl, hn, hs => by
    obtain ⟨m, hm⟩ : ∃ m, cs.length = m + 1 := ⟨rs.length, hl.symm⟩
    have hrs : rs.length = m := by rw [List.length_cons] at hl; omega
    rw [hm] at a
    have er : r = fun j => SF (fun k => r (cs.getD k 0) * unit (cs.getD k 0) j) cs.length := by
      funext j
      rw [by_units r j cs hn]
      by_cases h : j ∈ cs
      · rw [if_pos h]
      · rw [if_neg h]
        exact hs r List.mem_cons_self j h
    have h1 : f (r :: rs) = SF (fun k => r (cs.getD k 0) * f (unit (cs.getD k 0) :: rs)) cs.length := by
      have := a.sum (pre := []) (post := rs) (by rw [List.length_nil]; omega) (fun k => r (cs.getD k 0)) (fun k => unit (cs.getD k 0)) cs.length
      have e2 : f (r :: rs) = f ([] ++ (fun j => SF (fun k => r (cs.getD k 0) * unit (cs.getD k 0) j) cs.length) :: rs) := by
        rw [← er]
        rfl
      rw [e2, this]
      rfl
    rw [h1]
    show _ = SF (fun k => sF k * r (cs.getD k 0) * dR rs (cs.eraseIdx k)) cs.length * f (cs.map unit)
    have h2 : SF (fun k => sF k * r (cs.getD k 0) * dR rs (cs.eraseIdx k)) cs.length * f (cs.map unit) = SF (fun k => f (cs.map unit) * (sF k * r (cs.getD k 0) * dR rs (cs.eraseIdx k))) cs.length := by
      rw [SF_mul]
      grind
    rw [h2]
    refine SF_congr fun k hk => ?_
    obtain ⟨ep, ee⟩ := erase_parts (d := 0) hk
    generalize hck : cs.getD k 0 = ck at *
    have hnd : ck ∉ cs.eraseIdx k := by
      rw [ee]
      rw [ep] at hn
      have h3 := List.nodup_append.mp hn
      intro z
      rcases List.mem_append.mp z with z | z
      · exact h3.2.2 ck z ck List.mem_cons_self rfl
      · exact (List.nodup_cons.mp h3.2.1).1 z
    have hl2 : (cs.eraseIdx k).length = m := by rw [List.length_eraseIdx_of_lt hk]; omega
    -- the column cleared
    have h3 : f (unit ck :: rs) = f (unit ck :: rs.map fun r j => r j + -(r ck) * unit ck j) := by
      have := a.clear (u := unit ck) (k := fun r => -(r ck)) rs [unit ck] List.mem_cons_self (by show 1 + rs.length = m + 1; omega)
      exact this.symm
    have h4 := alt_det (rs.map fun r j => r j + -(r ck) * unit ck j) (cs.eraseIdx k) (fun rows => f (unit ck :: rows)) (by rw [hl2]; exact a.tail (unit ck)) (by rw [List.length_map, hl2, hrs]) (hn.sublist (List.eraseIdx_sublist ..)) (fun s hs' j hj => by
      obtain ⟨s0, h0, rfl⟩ := List.mem_map.mp hs'
      show s0 j + -(s0 ck) * unit ck j = 0
      unfold unit
      by_cases e : j = ck
      · subst e
        rw [if_pos rfl]
        grind
      · rw [if_neg e]
        have : j ∉ cs := fun z => by
          rw [ep] at z
          rw [ee] at hj
          rcases List.mem_append.mp z with z | z
          · exact hj (List.mem_append_left _ z)
          · rcases List.mem_cons.mp z with z | z
            · exact e z
            · exact hj (List.mem_append_right _ z)
        rw [hs s0 (List.mem_cons_of_mem _ h0) j this]
        grind)
    have h5 : dR (rs.map fun r j => r j + -(r ck) * unit ck j) (cs.eraseIdx k) = dR rs (cs.eraseIdx k) := dR_congr _ _ _ (by rw [List.length_map]) fun i x y hx hy j hj => by
      rw [List.getElem?_map, hy] at hx
      have ex : x = fun j => y j + -(y ck) * unit ck j := (Option.some.inj hx).symm
      rw [ex]
      show y j + -(y ck) * unit ck j = y j
      unfold unit
      rw [if_neg (fun z => hnd (by rw [← z]; exact hj))]
      grind
    have h6 : f (unit ck :: (cs.eraseIdx k).map unit) = sF k * f (cs.map unit) := by
      have := a.move (u := unit ck) ((cs.take k).map unit) [] ((cs.drop (k + 1)).map unit) (by rw [List.length_nil, List.length_map, List.length_map, List.length_take, List.length_drop]; omega)
      have e1 : (cs.eraseIdx k).map unit = (cs.take k).map unit ++ (cs.drop (k + 1)).map (unit (F := F)) := by rw [ee, List.map_append]
      have e2 : cs.map unit = [] ++ (cs.take k).map unit ++ unit ck :: (cs.drop (k + 1)).map (unit (F := F)) := by
        rw [List.nil_append]
        have : cs.map (unit (F := F)) = (cs.take k ++ ck :: cs.drop (k + 1)).map unit := by rw [← ep]
        rw [this, List.map_append]
        rfl
      rw [e1, e2]
      have e3 : ((cs.take k).map (unit (F := F))).length = k := by rw [List.length_map, List.length_take]; omega
      rw [e3] at this
      exact this
    have h4' : f (unit ck :: rs.map fun r j => r j + -(r ck) * unit ck j) = dR (rs.map fun r j => r j + -(r ck) * unit ck j) (cs.eraseIdx k) * f (unit ck :: (cs.eraseIdx k).map unit) := h4
    rw [h3, h4', h5, h6]
    grind
termination_by rs => rs.length
decreasing_by
  simp
theorem dC_units : ∀ (cs : List Nat), cs.Nodup → dC (cs.map (unit (F := F))) cs = 1
  | [], _ => rfl
  | c :: cs, h => by
    have hc := List.nodup_cons.mp h
    show SF (fun i => sF i * (((c :: cs).map (unit (F := F))).getD i zr) c * dC (((c :: cs).map (unit (F := F))).eraseIdx i) cs) ((c :: cs).map (unit (F := F))).length = 1
    rw [List.length_map, List.length_cons, SF_front]
    have e1 : SF (fun i => sF (i + 1) * (((c :: cs).map (unit (F := F))).getD (i + 1) zr) c * dC (((c :: cs).map (unit (F := F))).eraseIdx (i + 1)) cs) cs.length = 0 := SF_nul fun i hi => by
      have e2 : ((c :: cs).map (unit (F := F))).getD (i + 1) zr = unit cs[i] := by
        rw [List.getD_eq_getElem?_getD, List.getElem?_map, List.getElem?_cons_succ, List.getElem?_eq_getElem hi]
        rfl
      rw [e2]
      unfold unit
      rw [if_neg (fun z => hc.1 (by rw [z]; exact List.getElem_mem hi))]
      grind
    rw [e1]
    show sF 0 * unit c c * dC (cs.map unit) cs + 0 = 1
    rw [dC_units cs hc.2]
    unfold unit sF
    rw [if_pos rfl, if_pos rfl]
    grind
theorem dC_congr : ∀ (cs : List Nat) (rs ss : List (Row F)), rs.length = ss.length → (∀ (i : Nat) (r s : Row F), rs[i]? = some r → ss[i]? = some s → ∀ j ∈ cs, r j = s j) → dC rs cs = dC ss cs
  | [], _, _, _, _ => rfl
  | c :: cs, rs, ss, hl, h => by
    show SF _ rs.length = SF _ ss.length
    rw [← hl]
    refine SF_congr fun i hi => ?_
    have g1 : rs[i]? = some rs[i] := List.getElem?_eq_getElem hi
    have g2 : ss[i]? = some (ss[i]'(by omega)) := List.getElem?_eq_getElem _
    have e : (rs.getD i zr) c = (ss.getD i zr) c := by
      rw [List.getD_eq_getElem?_getD, List.getD_eq_getElem?_getD, g1, g2]
      exact h i _ _ g1 g2 c List.mem_cons_self
    rw [e, dC_congr cs (rs.eraseIdx i) (ss.eraseIdx i) (by rw [List.length_eraseIdx_of_lt hi, List.length_eraseIdx_of_lt (by omega), hl]) fun j r s hr hs x hx => by
      rw [List.getElem?_eraseIdx] at hr hs
      split at hr
      · rename_i hji
        rw [if_pos hji] at hs
        exact h j r s hr hs x (List.mem_cons_of_mem _ hx)
      · rename_i hji
        rw [if_neg hji] at hs
        exact h (j + 1) r s hr hs x (List.mem_cons_of_mem _ hx)]
/-- by the first column or by the first row -/
theorem dC_dR {rs : List (Row F)} {cs : List Nat} (hl : rs.length = cs.length) (hn : cs.Nodup) : dC rs cs = dR rs cs := by
  have key := alt_det (rs.map fun r j => if j ∈ cs then r j else 0) cs (fun rows => dC rows cs) (dC_alt cs) (by rw [List.length_map]; exact hl) hn (fun r hr j hj => by
    obtain ⟨s, _, rfl⟩ := List.mem_map.mp hr
    exact if_neg hj)
  have e1 : dC (rs.map fun r j => if j ∈ cs then r j else 0) cs = dC rs cs := dC_congr cs _ _ (by rw [List.length_map]) fun i x y hx hy j hj => by
    rw [List.getElem?_map, hy] at hx
    rw [← Option.some.inj hx]
    exact if_pos hj
  have e2 : dR (rs.map fun r j => if j ∈ cs then r j else 0) cs = dR rs cs := dR_congr _ _ cs (by rw [List.length_map]) fun i x y hx hy j hj => by
    rw [List.getElem?_map, hy] at hx
    rw [← Option.some.inj hx]
    exact if_pos hj
  rw [e1, e2, dC_units cs hn] at key
  rw [key]
  grind
/-- a row put through rows -/
def thr (B : List (Row F)) (r : Row F) : Row F := fun j => SF (fun i => r i * (B.getD i zr) j) B.length
/-- of a product the product -/
theorem dC_mul {A B : List (Row F)} {n : Nat} (hA : A.length = n) (hB : B.length = n) {cs : List Nat} (hc : cs.length = n) : dC (A.map (thr B)) cs = dC A (List.range n) * dC B cs := by
  have lin1 : ∀ u v : Row F, thr B (fun j => u j + v j) = fun j => thr B u j + thr B v j := fun u v => funext fun j => by
    show SF (fun i => (u i + v i) * (B.getD i zr) j) B.length = SF (fun i => u i * (B.getD i zr) j) B.length + SF (fun i => v i * (B.getD i zr) j) B.length
    rw [← SF_add]
    exact SF_congr fun i _ => by grind
  have lin2 : ∀ (c : F) (u : Row F), thr B (fun j => c * u j) = fun j => c * thr B u j := fun c u => funext fun j => by
    show SF (fun i => c * u i * (B.getD i zr) j) B.length = c * SF (fun i => u i * (B.getD i zr) j) B.length
    rw [← SF_mul]
    exact SF_congr fun i _ => by grind
  have a0 := dC_alt cs (F := F)
  rw [hc] at a0
  have a : Alt n fun rows => dC (rows.map (thr B)) cs := by
    refine ⟨fun pre u v post h => ?_, fun pre c u post h => ?_, fun pre u post h => ?_⟩
    · simp only [List.map_append, List.map_cons, lin1]
      exact a0.add _ _ _ _ (by rw [List.length_map, List.length_map]; exact h)
    · simp only [List.map_append, List.map_cons, lin2]
      exact a0.mul _ _ _ _ (by rw [List.length_map, List.length_map]; exact h)
    · simp only [List.map_append, List.map_cons]
      exact a0.alt _ _ _ (by rw [List.length_map, List.length_map]; exact h)
  have hnr : (List.range n).Nodup := List.nodup_range
  have hlr : (List.range n).length = n := List.length_range
  have key := alt_det (A.map fun r j => if j ∈ List.range n then r j else 0) (List.range n) (fun rows => dC (rows.map (thr B)) cs) (by rw [hlr]; exact a) (by rw [List.length_map, hlr]; exact hA) hnr (fun r hr j hj => by
    obtain ⟨s, _, rfl⟩ := List.mem_map.mp hr
    exact if_neg hj)
  have e1 : (A.map fun r j => if j ∈ List.range n then r j else 0).map (thr B) = A.map (thr B) := by
    rw [List.map_map]
    refine List.map_congr_left fun r _ => funext fun j => ?_
    show SF (fun i => (if i ∈ List.range n then r i else 0) * (B.getD i zr) j) B.length = SF (fun i => r i * (B.getD i zr) j) B.length
    exact SF_congr fun i hi => by rw [if_pos (List.mem_range.mpr (by omega))]
  have e2 : dR (A.map fun r j => if j ∈ List.range n then r j else 0) (List.range n) = dC A (List.range n) := by
    rw [dC_dR (by rw [hlr]; exact hA) hnr]
    exact dR_congr _ _ _ (by rw [List.length_map]) fun i x y hx hy j hj => by
      rw [List.getElem?_map, hy] at hx
      rw [← Option.some.inj hx]
      exact if_pos hj
  have e3 : ((List.range n).map (unit (F := F))).map (thr B) = B := by
    rw [List.map_map]
    refine List.ext_getElem? fun i => ?_
    rw [List.getElem?_map]
    by_cases hi : i < n
    · rw [List.getElem?_range hi, List.getElem?_eq_getElem (show i < B.length by omega)]
      show some (thr B (unit i)) = some B[i]
      congr 1
      funext j
      show SF (fun k => unit i k * (B.getD k zr) j) B.length = B[i] j
      have hs := SF_split (fun k => unit (F := F) i k * (B.getD k zr) j) i (B.length - i - 1)
      rw [show i + 1 + (B.length - i - 1) = B.length by omega] at hs
      rw [hs, SF_nul (f := fun k => unit i k * (B.getD k zr) j) (n := i) fun k hk => by
        show unit i k * _ = 0
        unfold unit
        rw [if_neg (by omega)]
        grind, SF_nul (f := fun k => unit i (i + 1 + k) * (B.getD (i + 1 + k) zr) j) fun k hk => by
        show unit i (i + 1 + k) * _ = 0
        unfold unit
        rw [if_neg (by omega)]
        grind]
      show 0 + unit i i * (B.getD i zr) j + 0 = _
      rw [List.getD_eq_getElem?_getD, List.getElem?_eq_getElem (show i < B.length by omega)]
      show 0 + unit i i * B[i] j + 0 = _
      unfold unit
      rw [if_pos rfl]
      grind
    · rw [List.getElem?_eq_none (by rw [hlr]; omega), List.getElem?_eq_none (by omega)]
      rfl
  rw [e1, e2, e3] at key
  exact key
/-- of the rows turned the same -/
theorem dR_turn : ∀ (rs : List (Row F)) (cs : List Nat) (ts : List (Row F)) (is : List Nat), ts.length = cs.length → is.length = rs.length → (∀ (i k a c : Nat) (r t : Row F), rs[i]? = some r → is[i]? = some a → cs[k]? = some c → ts[k]? = some t → r c = t a) → dR rs cs = dC ts is
  | [], cs, ts, is, _, hi, _ => by
    have : is = [] := List.length_eq_zero_iff.mp hi
    subst this
    rfl
  | r :: rs, cs, ts, [], _, hi, _ => by cases hi
  | r :: rs, cs, ts, a :: is, ht, hi, h => by
    show SF (fun k => sF k * r (cs.getD k 0) * dR rs (cs.eraseIdx k)) cs.length = SF (fun k => sF k * (ts.getD k zr) a * dC (ts.eraseIdx k) is) ts.length
    rw [ht]
    refine SF_congr fun k hk => ?_
    have g1 : cs[k]? = some cs[k] := List.getElem?_eq_getElem hk
    have g2 : ts[k]? = some (ts[k]'(by omega)) := List.getElem?_eq_getElem _
    have e1 : r (cs.getD k 0) = (ts.getD k zr) a := by
      rw [List.getD_eq_getElem?_getD, List.getD_eq_getElem?_getD, g1, g2]
      exact h 0 k a _ r _ rfl rfl g1 g2
    rw [e1, dR_turn rs (cs.eraseIdx k) (ts.eraseIdx k) is (by rw [List.length_eraseIdx_of_lt hk, List.length_eraseIdx_of_lt (by omega), ht]) (Nat.succ.inj hi) fun i l b c r' t' hr' hb hc ht' => by
      rw [List.getElem?_eraseIdx] at hc ht'
      split at hc
      · rename_i hlk
        rw [if_pos hlk] at ht'
        exact h (i + 1) l b c r' t' hr' hb hc ht'
      · rename_i hlk
        rw [if_neg hlk] at ht'
        exact h (i + 1) (l + 1) b c r' t' hr' hb hc ht']
end Fr

namespace Fm
open Lean.Grind PySem L2 Fr Fd
/-! ### least rows: the program's steps over whole numbers, in the field -/
def fr {g : Int} {F : Type} [CommRing F] (V : GV g F) (r : List Int) : Row F := fun j => V.i (gt r j)
def er {g : Int} {F : Type} [CommRing F] (V : GV g F) (r : List (Int × Int)) : Row F := fun j => V.e (r.getD j (0, 1))
/-- the greatest common divisor of all -/
def gcdL (r : List Int) : Int := r.foldl (fun s x => (Int.gcd s x : Int)) 0
def plainF (g : Int) (r : List Int) : List Int := if g ≠ 0 then r.map (fun x => x.fmod g) else if gcdL r = 0 then r else r.map (fun x => x.fdiv (gcdL r))
def clearF (g : Int) (at_ : Nat) (head row : List Int) : List Int := if gt row at_ = 0 then row else plainF g (List.zipWith (fun x y => x * gt head at_ - y * gt row at_) row head)
/-- whole numbers of the ground -/
def InG (g : Int) (r : List Int) : Prop := g ≠ 0 → ∀ x, 0 ≤ gt r x ∧ gt r x < g
theorem gcd_fold : ∀ (r : List Int) (s : Int), (r.foldl (fun s x => (Int.gcd s x : Int)) s ∣ s) ∧ (∀ x ∈ r, r.foldl (fun s x => (Int.gcd s x : Int)) s ∣ x) ∧ ∀ d, d ∣ s → (∀ x ∈ r, d ∣ x) → d ∣ r.foldl (fun s x => (Int.gcd s x : Int)) s
  | [], s => ⟨Int.dvd_refl s, fun x hx => (by cases hx), fun d h _ => h⟩
  | a :: r, s => by
    obtain ⟨h1, h2, h3⟩ := gcd_fold r (Int.gcd s a : Int)
    refine ⟨Int.dvd_trans h1 (Int.gcd_dvd_left ..), fun x hx => ?_, fun d hd hx => h3 d (Int.dvd_coe_gcd hd (hx a (List.mem_cons_self ..))) fun x m => hx x (List.mem_cons_of_mem _ m)⟩
    rcases List.mem_cons.mp hx with rfl | m
    · exact Int.dvd_trans h1 (Int.gcd_dvd_right ..)
    · exact h2 x m
theorem gcdL_dvd {r : List Int} : (∀ x ∈ r, gcdL r ∣ x) ∧ ∀ d, (∀ x ∈ r, d ∣ x) → d ∣ gcdL r := ⟨(gcd_fold r 0).2.1, fun d h => (gcd_fold r 0).2.2 d (Int.dvd_zero d) h⟩
theorem gt_map {f : Int → Int} {r : List Int} (h0 : f 0 = 0) (x : Nat) : gt (r.map f) x = f (gt r x) := by
  unfold gt
  rw [List.getD_eq_getElem?_getD, List.getD_eq_getElem?_getD, List.getElem?_map]
  cases r[x]? with
  | none => exact h0.symm
  | some y => rfl
theorem gt_mem {r : List Int} {x : Nat} (h : gt r x ≠ 0) : gt r x ∈ r := by
  unfold gt at h ⊢
  rw [List.getD_eq_getElem?_getD] at h ⊢
  cases e : r[x]? with
  | none => rw [e] at h; exact absurd rfl h
  | some y => exact List.mem_of_getElem? e
theorem dvd_gt {r : List Int} {d : Int} (h : ∀ x ∈ r, d ∣ x) (x : Nat) : d ∣ gt r x := by
  by_cases e : gt r x = 0
  · rw [e]; exact Int.dvd_zero d
  · exact h _ (gt_mem e)
theorem gcd0_nul {r : List Int} (h : gcdL r = 0) : Nul r := fun x => by
  have := dvd_gt gcdL_dvd.1 x (r := r)
  rw [h] at this
  exact Int.zero_dvd.mp this
/-- a plain row is the row over a number -/
theorem plain_zero {r : List Int} : ∃ s : Int, s ≠ 0 ∧ (∀ x, s * gt (plainF 0 r) x = gt r x) ∧ (Prim (plainF 0 r) ∨ Nul (plainF 0 r)) := by
  unfold plainF
  rw [if_neg (by decide)]
  by_cases h : gcdL r = 0
  · rw [if_pos h]
    exact ⟨1, by decide, fun x => Int.one_mul _, .inr (gcd0_nul h)⟩
  · rw [if_neg h]
    have e : ∀ x, gcdL r * gt (r.map fun x => x.fdiv (gcdL r)) x = gt r x := fun x => by
      rw [gt_map (by rw [Int.zero_fdiv])]
      obtain ⟨q, hq⟩ := dvd_gt gcdL_dvd.1 x (r := r)
      rw [hq, Int.mul_fdiv_cancel_left _ h]
    refine ⟨gcdL r, h, e, .inl fun d hd => ?_⟩
    have h1 : gcdL r * d ∣ gcdL r := gcdL_dvd.2 _ fun x hx => by
      obtain ⟨i, hi, rfl⟩ := List.mem_iff_getElem.mp hx
      have h2 := e i
      have h3 : gt r i = r[i] := by unfold gt; rw [List.getD_eq_getElem?_getD, List.getElem?_eq_getElem hi]; rfl
      rw [h3] at h2
      rw [← h2]
      exact Int.mul_dvd_mul_left _ (hd i)
    obtain ⟨q, hq⟩ := h1
    have h4 : 1 = d * q := by
      have : gcdL r * 1 = gcdL r * (d * q) := by rw [Int.mul_one, ← Int.mul_assoc]; exact hq
      exact Int.eq_of_mul_eq_mul_left h this
    have h5 := congrArg Int.natAbs h4
    rw [Int.natAbs_mul] at h5
    exact Nat.dvd_one.mp ⟨q.natAbs, h5⟩
theorem gt_zip {r h : List Int} (hl : r.length = h.length) (a b : Int) (x : Nat) : gt (List.zipWith (fun x y => x * a - y * b) r h) x = gt r x * a - gt h x * b := by
  unfold gt
  rw [List.getD_eq_getElem?_getD, List.getD_eq_getElem?_getD, List.getD_eq_getElem?_getD, List.getElem?_zipWith]
  by_cases hx : x < r.length
  · rw [List.getElem?_eq_getElem hx, List.getElem?_eq_getElem (by omega)]
    rfl
  · rw [List.getElem?_eq_none (by omega), List.getElem?_eq_none (by omega)]
    show (0 : Int) = 0 * a - 0 * b
    omega
/-- clearing, for the fractions -/
theorem clear_zero {at_ : Nat} {head r : List Int} (hl : r.length = head.length) (hne : gt head at_ ≠ 0) (hp : Prim r ∨ Nul r) : Clr (gt head at_) (gt r at_) head r (clearF 0 at_ head r) ∧ (Prim (clearF 0 at_ head r) ∨ Nul (clearF 0 at_ head r)) := by
  unfold clearF
  by_cases h : gt r at_ = 0
  · rw [if_pos h]
    refine ⟨⟨gt head at_, hne, fun x => ?_⟩, hp⟩
    rw [h]
    omega
  · rw [if_neg h]
    obtain ⟨s, hs, e, hpr⟩ := plain_zero (r := List.zipWith (fun x y => x * gt head at_ - y * gt r at_) r head)
    refine ⟨⟨s, hs, fun x => ?_⟩, hpr⟩
    rw [e x, gt_zip hl]
    grind
theorem plain_len (g : Int) (r : List Int) : (plainF g r).length = r.length := by
  unfold plainF
  split
  · rw [List.length_map]
  · split
    · rfl
    · rw [List.length_map]
theorem clear_len {g : Int} {at_ : Nat} {head r : List Int} (hl : r.length = head.length) : (clearF g at_ head r).length = r.length := by
  unfold clearF
  split
  · rfl
  · rw [plain_len, List.length_zipWith]
    omega
section
variable {g : Int} {F : Type} [CommRing F] (V : GV g F)
theorem GV.imod (hg : g ≠ 0) (x : Int) : V.i (x.fmod g) = V.i x := by
  have e : x = g * x.fdiv g + x.fmod g := (Int.mul_fdiv_add_fmod x g).symm
  have h := V.iadd (g * x.fdiv g) (x.fmod g)
  rw [← e, V.imul, V.gz hg] at h
  grind
theorem GV.iz {r : List Int} (hr : InG g r) {x : Nat} (h : V.i (gt r x) = 0) : gt r x = 0 := by
  by_cases hg : g = 0
  · exact (V.ker _ h).1 hg
  · have h1 := (V.ker _ h).2 hg
    obtain ⟨h2, h3⟩ := hr hg x
    rw [fmod_pos _ (by omega), Int.emod_eq_of_lt h2 h3] at h1
    exact h1
theorem plain_ing (hg : g = 0 ∨ Gr5 g) (r : List Int) : InG g (plainF g r) := fun z x => by
  have g0 : 0 < g := by
    have h5 := hg.resolve_left z
    unfold Gr5 at h5
    omega
  unfold plainF
  rw [if_pos z, gt_map (Int.zero_fmod g), fmod_pos _ g0]
  exact ⟨Int.emod_nonneg _ (by omega), Int.emod_lt_of_pos _ g0⟩
/-- a plain row, in the field -/
theorem GV.plain (r : List Int) : ∃ s : F, s ≠ 0 ∧ ∀ x, s * V.i (gt (plainF g r) x) = V.i (gt r x) := by
  by_cases hg : g = 0
  · subst hg
    obtain ⟨s, hs, e, _⟩ := plain_zero (r := r)
    refine ⟨V.i s, V.ine hs fun z => absurd rfl z, fun x => ?_⟩
    rw [← V.imul, e x]
  · refine ⟨1, V.ne, fun x => ?_⟩
    unfold plainF
    rw [if_pos hg, gt_map (Int.zero_fmod g), V.imod hg]
    grind
theorem GV.clear {at_ : Nat} {head r : List Int} (hh : InG g head) (hl : r.length = head.length) (hne : gt head at_ ≠ 0) : ∃ s : F, s ≠ 0 ∧ ∀ x, s * V.i (gt (clearF g at_ head r) x) = V.i (gt head at_) * V.i (gt r x) - V.i (gt r at_) * V.i (gt head x) := by
  unfold clearF
  by_cases h : gt r at_ = 0
  · rw [if_pos h]
    refine ⟨V.i (gt head at_), fun z => hne (V.iz hh z), fun x => ?_⟩
    rw [h, V.i0]
    grind
  · rw [if_neg h]
    obtain ⟨s, hs, e⟩ := V.plain (List.zipWith (fun x y => x * gt head at_ - y * gt r at_) r head)
    refine ⟨s, hs, fun x => ?_⟩
    rw [e x, gt_zip hl, V.isub, V.imul, V.imul]
    grind
theorem clear_ing (hg : g = 0 ∨ Gr5 g) {at_ : Nat} {head r : List Int} (hr : InG g r) : InG g (clearF g at_ head r) := by
  unfold clearF
  split
  · exact hr
  · exact plain_ing hg _
/-- the loop's state behind the columns ahead of at_: h the heads -/
structure Fst (at_ n : Nat) (orig rows : List (List Int)) (h : List Nat) : Prop where
  lr : h.length ≤ rows.length
  hd : ∀ p ∈ h, p < at_
  piv : ∃ A, Rr A h ∧ ∀ (i : Nat) (a : Row F) (r : List Int) (p : Nat), A[i]? = some a → rows[i]? = some r → h[i]? = some p → V.i (gt r p) ≠ 0 ∧ ∀ j, V.i (gt r j) = V.i (gt r p) * a j
  non : ∀ (i : Nat) (r : List Int), h.length ≤ i → rows[i]? = some r → ∀ j, j < at_ → V.i (gt r j) = 0
  sp1 : ∀ r ∈ rows, InS (orig.map (fr V)) (fr V r)
  sp2 : ∀ r ∈ orig, InS (rows.map (fr V)) (fr V r)
  ing : ∀ r ∈ rows, InG g r
  len : ∀ r ∈ rows, r.length = n
theorem rr_nil : Rr ([] : List (Row F)) [] := ⟨rfl, fun i k p q h => by simp at h, fun i a p h => by simp at h, fun i k a p h => by simp at h, fun i a p j h => by simp at h⟩
theorem Fst.start {n : Nat} {rows : List (List Int)} (hi : ∀ r ∈ rows, InG g r) (hl : ∀ r ∈ rows, r.length = n) : Fst V 0 n rows rows [] :=
  ⟨Nat.zero_le _, fun p hp => (by cases hp), ⟨[], rr_nil, fun i a r p h => by simp at h⟩, fun i r _ _ j hj => absurd hj (Nat.not_lt_zero _), fun r hr => InS.mem (List.mem_map.mpr ⟨r, hr, rfl⟩), fun r hr => InS.mem (List.mem_map.mpr ⟨r, hr, rfl⟩), hi, hl⟩
variable {V}
/-- a column without a head -/
theorem Fst.skip {at_ n : Nat} {orig rows : List (List Int)} {h : List Nat} (f : Fst V at_ n orig rows h) (hz : ∀ (i : Nat) (r : List Int), h.length ≤ i → rows[i]? = some r → gt r at_ = 0) : Fst V (at_ + 1) n orig rows h :=
  ⟨f.lr, fun p hp => Nat.lt_succ_of_lt (f.hd p hp), f.piv, fun i r hi hr j hj => by
    by_cases e : j = at_
    · rw [e, hz i r hi hr, V.i0]
    · exact f.non i r hi hr j (by omega), f.sp1, f.sp2, f.ing, f.len⟩
/-- the rows behind a column with its head at place -/
def stepF (g : Int) (at_ many place : Nat) (head : List Int) (rows : List (List Int)) : List (List Int) :=
  ((rows.eraseIdx place).map (clearF g at_ head)).take many ++ [head] ++ ((rows.eraseIdx place).map (clearF g at_ head)).drop many
theorem step_len {at_ many place : Nat} {head : List Int} {rows : List (List Int)} (hp : place < rows.length) (hm : many ≤ place) : (stepF g at_ many place head rows).length = rows.length := by
  unfold stepF
  rw [List.length_append, List.length_append, List.length_take, List.length_drop, List.length_map, List.length_eraseIdx_of_lt hp]
  show min many (rows.length - 1) + 1 + (rows.length - 1 - many) = _
  omega
theorem step_piv {at_ many place i : Nat} {head r' : List Int} {rows : List (List Int)} (hp : place < rows.length) (hm : many ≤ place) (hi : i < many) (e : (stepF g at_ many place head rows)[i]? = some r') : ∃ r, rows[i]? = some r ∧ r' = clearF g at_ head r := by
  unfold stepF at e
  have l1 : i < (((rows.eraseIdx place).map (clearF g at_ head)).take many).length := by
    rw [List.length_take, List.length_map, List.length_eraseIdx_of_lt hp]
    omega
  rw [List.append_assoc, List.getElem?_append_left l1, List.getElem?_take, if_pos hi, List.getElem?_map, List.getElem?_eraseIdx, if_pos (by omega)] at e
  cases er : rows[i]? with
  | none => rw [er] at e; cases e
  | some r =>
    rw [er] at e
    exact ⟨r, rfl, (Option.some.inj e).symm⟩
theorem step_mid {at_ many place : Nat} {head : List Int} {rows : List (List Int)} (hp : place < rows.length) (hm : many ≤ place) : (stepF g at_ many place head rows)[many]? = some head := by
  unfold stepF
  have l1 : (((rows.eraseIdx place).map (clearF g at_ head)).take many).length = many := by
    rw [List.length_take, List.length_map, List.length_eraseIdx_of_lt hp]
    omega
  rw [List.append_assoc, List.getElem?_append_right (by omega), l1, Nat.sub_self]
  rfl
theorem step_non {at_ many place i : Nat} {head r' : List Int} {rows : List (List Int)} (hp : place < rows.length) (hm : many ≤ place) (hi : many < i) (e : (stepF g at_ many place head rows)[i]? = some r') : ∃ r, rows[skip place (i - 1)]? = some r ∧ r' = clearF g at_ head r := by
  unfold stepF at e
  have l1 : (((rows.eraseIdx place).map (clearF g at_ head)).take many).length = many := by
    rw [List.length_take, List.length_map, List.length_eraseIdx_of_lt hp]
    omega
  rw [List.append_assoc, List.getElem?_append_right (by omega), l1, List.getElem?_append_right (by show 1 ≤ _; omega)] at e
  rw [List.getElem?_drop, List.getElem?_map, List.getElem?_eraseIdx, show many + (i - many - [head].length) = i - 1 by show many + (i - many - 1) = i - 1; omega] at e
  have e2 : (if i - 1 < place then rows[i - 1]? else rows[i - 1 + 1]?) = rows[skip place (i - 1)]? := by
    unfold skip
    split <;> rfl
  rw [e2] at e
  cases er : rows[skip place (i - 1)]? with
  | none => rw [er] at e; cases e
  | some r =>
    rw [er] at e
    exact ⟨r, rfl, (Option.some.inj e).symm⟩
/-- every row but the head is there, cleared -/
theorem step_all {at_ many place k : Nat} {head r : List Int} {rows : List (List Int)} (hp : place < rows.length) (hm : many ≤ place) (hk : k ≠ place) (e : rows[k]? = some r) : clearF g at_ head r ∈ stepF g at_ many place head rows := by
  have h1 : clearF g at_ head r ∈ (rows.eraseIdx place).map (clearF g at_ head) := List.mem_map.mpr ⟨r, List.mem_eraseIdx_iff_getElem?.mpr ⟨k, hk, e⟩, rfl⟩
  unfold stepF
  rw [← List.take_append_drop many ((rows.eraseIdx place).map (clearF g at_ head))] at h1
  rcases List.mem_append.mp h1 with h | h
  · exact List.mem_append_left _ (List.mem_append_left _ h)
  · exact List.mem_append_right _ h
theorem step_mem {at_ many place : Nat} {head r' : List Int} {rows : List (List Int)} (h : r' ∈ stepF g at_ many place head rows) : r' = head ∨ ∃ r ∈ rows, r' = clearF g at_ head r := by
  unfold stepF at h
  rcases List.mem_append.mp h with h | h
  · rcases List.mem_append.mp h with h | h
    · obtain ⟨r, hr, rfl⟩ := List.mem_map.mp (List.mem_of_mem_take h)
      exact .inr ⟨r, List.mem_of_mem_eraseIdx hr, rfl⟩
    · exact .inl (List.mem_singleton.mp h)
  · obtain ⟨r, hr, rfl⟩ := List.mem_map.mp (List.mem_of_mem_drop h)
    exact .inr ⟨r, List.mem_of_mem_eraseIdx hr, rfl⟩
theorem Fst.step (hg : g = 0 ∨ Gr5 g) {at_ n place : Nat} {orig rows : List (List Int)} {h : List Nat} {head : List Int} (f : Fst V at_ n orig rows h) (hm : h.length ≤ place) (hh : rows[place]? = some head) (hne : gt head at_ ≠ 0) : Fst V (at_ + 1) n orig (stepF g at_ h.length place head rows) (h ++ [at_]) := by
  have hp := (List.getElem?_eq_some_iff.mp hh).1
  have hmem := List.mem_of_getElem? hh
  have hln := f.len head hmem
  have ihead := f.ing head hmem
  have vne : V.i (gt head at_) ≠ 0 := fun z => hne (V.iz ihead z)
  obtain ⟨y, hy⟩ := V.inv _ vne
  have hz0 : ∀ j, j < at_ → V.i (gt head j) = 0 := f.non place head hm hh
  have cl : ∀ r ∈ rows, ∃ s : F, s ≠ 0 ∧ ∀ x, s * V.i (gt (clearF g at_ head r) x) = V.i (gt head at_) * V.i (gt r x) - V.i (gt r at_) * V.i (gt head x) := fun r hr => V.clear ihead (by rw [f.len r hr, hln]) hne
  obtain ⟨A, hA, hAr⟩ := f.piv
  have hb1 : (fun j => y * V.i (gt head j) : Row F) at_ = 1 := by
    show y * V.i (gt head at_) = 1
    grind
  have hR := hA.step (k := at_) (b := fun j => y * V.i (gt head j)) f.hd hb1 (fun j hj => by rw [hz0 j hj]; grind)
  have hspan : ∀ r ∈ rows, InS (rows.map (fr V)) (fr V r) := fun r hr => InS.mem (List.mem_map.mpr ⟨r, hr, rfl⟩)
  refine ⟨?_, fun p hp' => ?_, ⟨_, hR, fun i a r' p ha hr hpi => ?_⟩, fun i r' hi hr j hj => ?_, fun r' hr => ?_, fun r hr => ?_, fun r' hr => ?_, fun r' hr => ?_⟩
  · rw [step_len hp hm, List.length_append]
    show h.length + 1 ≤ rows.length
    omega
  · rcases List.mem_append.mp hp' with z | z
    · exact Nat.lt_succ_of_lt (f.hd p z)
    · rw [List.mem_singleton.mp z]
      exact Nat.lt_succ_self _
  · by_cases hi : i < h.length
    · rw [List.getElem?_append_left (by rw [List.length_map, hA.len]; exact hi), List.getElem?_map] at ha
      rw [List.getElem?_append_left hi] at hpi
      obtain ⟨r, er, rfl⟩ := step_piv hp hm hi hr
      cases ea : A[i]? with
      | none => rw [ea] at ha; cases ha
      | some a0 =>
        rw [ea] at ha
        have e0 : a = clr at_ (fun j => y * V.i (gt head j)) a0 := (Option.some.inj ha).symm
        obtain ⟨hn, hx⟩ := hAr i a0 r p ea er hpi
        obtain ⟨s, hs, e⟩ := cl r (List.mem_of_getElem? er)
        have hpz := hz0 p (f.hd p (List.mem_of_getElem? hpi))
        have ep := e p
        rw [hpz] at ep
        have hsp : s * V.i (gt (clearF g at_ head r) p) = V.i (gt head at_) * V.i (gt r p) := by grind
        refine ⟨fun z => ?_, fun j => ?_⟩
        · rw [z] at hsp
          have h0 : V.i (gt head at_) * V.i (gt r p) = 0 := by grind
          exact hn (V.dom h0 vne)
        · refine V.cancel (z := s) ?_ hs
          have ej := e j
          rw [hx j, hx at_] at ej
          rw [e0]
          show V.i (gt (clearF g at_ head r) j) * s = V.i (gt (clearF g at_ head r) p) * (a0 j + -(a0 at_) * (y * V.i (gt head j))) * s
          have h1 : V.i (gt (clearF g at_ head r) j) * s = V.i (gt head at_) * (V.i (gt r p) * a0 j) - V.i (gt r p) * a0 at_ * V.i (gt head j) := by
            rw [← ej]
            grind
          have h2 : V.i (gt (clearF g at_ head r) p) * (a0 j + -(a0 at_) * (y * V.i (gt head j))) * s = V.i (gt head at_) * V.i (gt r p) * (a0 j + -(a0 at_) * (y * V.i (gt head j))) := by
            rw [← hsp]
            grind
          rw [h1, h2]
          grind
    · have hlen : (A.map (clr at_ (fun j => y * V.i (gt head j)))).length = h.length := by rw [List.length_map, hA.len]
      rw [List.getElem?_append_right (by omega), hlen] at ha
      rw [List.getElem?_append_right (by omega)] at hpi
      cases hd : i - h.length with
      | succ m =>
        rw [hd] at hpi
        cases hpi
      | zero =>
        rw [hd] at ha hpi
        have ei : i = h.length := by omega
        subst ei
        rw [step_mid hp hm] at hr
        have e1 : head = r' := Option.some.inj hr
        have e2 : at_ = p := Option.some.inj hpi
        have e3 : (fun j => y * V.i (gt head j)) = a := Option.some.inj ha
        subst e1 e2 e3
        refine ⟨vne, fun j => ?_⟩
        show V.i (gt head j) = V.i (gt head at_) * (y * V.i (gt head j))
        grind
  · have hi' : h.length < i := by
      rw [List.length_append] at hi
      exact hi
    obtain ⟨r, er, rfl⟩ := step_non hp hm hi' hr
    obtain ⟨s, hs, e⟩ := cl r (List.mem_of_getElem? er)
    refine V.dom (x := s) ?_ hs
    rw [e j]
    by_cases ej : j = at_
    · subst ej
      grind
    · rw [f.non _ r (by unfold Fd.skip; split <;> omega) er j (by omega), hz0 j (by omega)]
      grind
  · rcases step_mem hr with rfl | ⟨r, hr', rfl⟩
    · exact f.sp1 _ hmem
    · obtain ⟨s, hs, e⟩ := cl r hr'
      obtain ⟨z, hz⟩ := V.inv s hs
      have s1 := InS.spc (orig.map (fr V))
      have e2 : fr V (clearF g at_ head r) = fun j => z * (V.i (gt head at_) * fr V r j + (-V.i (gt r at_)) * fr V head j) := by
        funext j
        show V.i (gt (clearF g at_ head r) j) = z * (V.i (gt head at_) * V.i (gt r j) + (-V.i (gt r at_)) * V.i (gt head j))
        have := e j
        grind
      rw [e2]
      exact s1.mul z _ (s1.add _ _ (s1.mul _ _ (f.sp1 r hr')) (s1.mul _ _ (f.sp1 head hmem)))
  · refine (f.sp2 r hr).trans fun u hu => ?_
    obtain ⟨r0, hr0, rfl⟩ := List.mem_map.mp hu
    obtain ⟨k, hk⟩ := List.getElem?_of_mem hr0
    have hhead : InS ((stepF g at_ h.length place head rows).map (fr V)) (fr V head) := InS.mem (List.mem_map.mpr ⟨head, List.mem_of_getElem? (step_mid hp hm), rfl⟩)
    by_cases ek : k = place
    · subst ek
      have : r0 = head := Option.some.inj (hk.symm.trans hh)
      rw [this]
      exact hhead
    · have hcl : InS ((stepF g at_ h.length place head rows).map (fr V)) (fr V (clearF g at_ head r0)) := InS.mem (List.mem_map.mpr ⟨_, step_all hp hm ek hk, rfl⟩)
      obtain ⟨s, hs, e⟩ := cl r0 hr0
      have s1 := InS.spc ((stepF g at_ h.length place head rows).map (fr V))
      have e2 : fr V r0 = fun j => y * (s * fr V (clearF g at_ head r0) j + V.i (gt r0 at_) * fr V head j) := by
        funext j
        show V.i (gt r0 j) = y * (s * V.i (gt (clearF g at_ head r0) j) + V.i (gt r0 at_) * V.i (gt head j))
        have := e j
        grind
      rw [e2]
      exact s1.mul y _ (s1.add _ _ (s1.mul _ _ hcl) (s1.mul _ _ hhead))
  · rcases step_mem hr with rfl | ⟨r, hr', rfl⟩
    · exact ihead
    · exact clear_ing hg (f.ing r hr')
  · rcases step_mem hr with rfl | ⟨r, hr', rfl⟩
    · exact hln
    · rw [clear_len (by rw [f.len r hr', hln]), f.len r hr']
end
/-- one head more, for the sizes -/
theorem _root_.Fd.Sz.step {A n at_ place : Nat} {P O : List (List Int)} {c : List Nat} {rows : List (List Int)} {head : List Int} (z : Sz A n P O c rows) (hm : P.length ≤ place) (hh : rows[place]? = some head) (hne : gt head at_ ≠ 0) (hl : ∀ r ∈ rows, r.length = head.length) :
    ∃ o O', Sz A n (o :: P) O' (at_ :: c) (stepF 0 at_ P.length place head rows) := by
  have hp := (List.getElem?_eq_some_iff.mp hh).1
  have hOl : place - P.length < O.length := by have := z.lr; omega
  have hO : O[place - P.length]? = some (O[place - P.length]'hOl) := List.getElem?_eq_getElem _
  have hnon := z.non (place - P.length) _ head hO (by rw [show P.length + (place - P.length) = place by omega]; exact hh)
  have cl : ∀ r ∈ rows, Clr (gt head at_) (gt r at_) head r (clearF 0 at_ head r) ∧ (Prim (clearF 0 at_ head r) ∨ Nul (clearF 0 at_ head r)) := fun r hr => clear_zero (hl r hr) hne (z.pri r hr)
  refine ⟨O[place - P.length]'hOl, O.eraseIdx (place - P.length), by rw [List.length_cons, List.length_cons, z.lc], ?_, hnon.det z.lc z.det hne, fun i x => ?_, fun i x => ?_, fun i r' hi hr => ?_, fun i o r' ho hr => ?_, fun r' hr => ?_⟩
  · rw [step_len hp hm, List.length_cons, List.length_eraseIdx_of_lt hOl]
    have := z.lr
    omega
  · cases i with
    | zero =>
      rw [ent_zero]
      have := z.bO (place - P.length) x
      have e3 : O.getD (place - P.length) [] = O[place - P.length]'hOl := by rw [List.getD_eq_getElem?_getD, hO]; rfl
      unfold ent at this
      rw [e3] at this
      exact this
    | succ i =>
      rw [ent_succ]
      exact z.bP i x
  · rw [ent_erase]
    exact z.bO _ x
  · rw [List.length_cons] at hi ⊢
    by_cases hi2 : i < P.length
    · obtain ⟨r, er, rfl⟩ := step_piv hp hm hi2 hr
      have := (z.piv i r hi2 er).clear hnon hne (cl r (List.mem_of_getElem? er)).1
      rw [show P.length + 1 - 1 - i = P.length - 1 - i + 1 by omega]
      exact this
    · have ei : i = P.length := by omega
      subst ei
      rw [step_mid hp hm] at hr
      cases hr
      rw [show P.length + 1 - 1 - P.length = 0 by omega]
      exact hnon.head hne
  · rw [List.length_cons, show P.length + 1 + i = P.length + i + 1 by omega] at hr
    obtain ⟨r, er, rfl⟩ := step_non hp hm (by omega) hr
    rw [show P.length + i + 1 - 1 = P.length + i by omega] at er
    refine NonP.clear ?_ hnon hne (cl r (List.mem_of_getElem? er)).1
    rw [List.getElem?_eraseIdx] at ho
    by_cases hi2 : i < place - P.length
    · rw [if_pos hi2] at ho
      refine z.non i o r ho ?_
      unfold skip at er
      rw [if_pos (by omega)] at er
      exact er
    · rw [if_neg hi2] at ho
      refine z.non (i + 1) o r ho ?_
      unfold skip at er
      rw [if_neg (by omega)] at er
      exact er
  · rcases step_mem hr with rfl | ⟨r, hr', rfl⟩
    · exact z.pri _ (List.mem_of_getElem? hh)
    · exact (cl r hr').2
theorem _root_.Fd.Sz.start {A n : Nat} {rows : List (List Int)} (hb : ∀ r ∈ rows, ∀ x, (gt r x).natAbs ≤ A) (hp : ∀ r ∈ rows, Prim r ∨ Nul r) : Sz A n [] rows [] rows := by
  refine ⟨rfl, by rw [List.length_nil, Nat.zero_add], by show (1 : Int) ≠ 0; decide, fun i x => ?_, fun i x => ?_, fun i r hi => absurd hi (Nat.not_lt_zero _), fun i o r ho hr => ?_, hp⟩
  · show (gt (([] : List (List Int)).getD i []) x).natAbs ≤ A
    have : ([] : List (List Int)).getD i [] = [] := by simp
    rw [this]
    exact Nat.zero_le _
  · show (gt (rows.getD i []) x).natAbs ≤ A
    cases e : rows[i]? with
    | none =>
      have e2 : rows.getD i [] = [] := by rw [List.getD_eq_getElem?_getD, e]; rfl
      rw [e2]
      exact Nat.zero_le _
    | some r =>
      have e2 : rows.getD i [] = r := by rw [List.getD_eq_getElem?_getD, e]; rfl
      rw [e2]
      exact hb r (List.mem_of_getElem? e) x
  · rw [List.length_nil, Nat.zero_add] at hr
    have e : o = r := Option.some.inj (ho.symm.trans hr)
    subst e
    refine ⟨1, 1, fun _ => 0, by decide, by decide, fun x => ?_, fun k hk => by cases hk⟩
    show 1 * gt o x = 1 * gt o x + 0
    omega
end Fm

namespace Fm
open Lean.Grind PySem L2 Fr Fd
/-! ### least rows as numbers -/
def hdF (r : List Int) : Int := ((r.filter fun x => decide (x ≠ 0)).head?).getD 0
def headF (g : Int) (r : List Int) : List (Int × Int) := r.map fun x => lowF g x (hdF r)
theorem hd_at : ∀ {r : List Int} {p : Nat}, (∀ j, j < p → gt r j = 0) → gt r p ≠ 0 → hdF r = gt r p
  | [], p, _, h => absurd (by unfold gt; simp) h
  | a :: r, 0, _, h => by
    have ha : a ≠ 0 := h
    unfold hdF
    rw [List.filter_cons, if_pos (decide_eq_true ha)]
    rfl
  | a :: r, p + 1, h0, h => by
    have ha : a = 0 := h0 0 (Nat.succ_pos _)
    have ih := hd_at (r := r) (p := p) (fun j hj => h0 (j + 1) (Nat.succ_lt_succ hj)) h
    unfold hdF at ih ⊢
    rw [List.filter_cons, if_neg (by rw [decide_eq_false (fun z => z ha)]; exact Bool.false_ne_true)]
    exact ih
section
variable {g : Int} {F : Type} [CommRing F] (V : GV g F)
/-- T: the least rows of t -/
structure LeastR (n k : Nat) (t T : List (List (Int × Int))) : Prop where
  row : ∀ r ∈ T, r.length = n ∧ ∀ a ∈ r, TN g k a
  rr : ∃ h, Rr (T.map (er V)) h ∧ ∀ p ∈ h, p < n
  s1 : ∀ r ∈ T, InS (t.map (er V)) (er V r)
  s2 : ∀ r ∈ t, InS (T.map (er V)) (er V r)
variable {V}
theorem er_at {r : List (Int × Int)} {j : Nat} (hj : j < r.length) : er V r j = V.e r[j] := by
  unfold er
  rw [List.getD_eq_getElem?_getD, List.getElem?_eq_getElem hj]
  rfl
theorem er_out {r : List (Int × Int)} {j : Nat} (hj : r.length ≤ j) : er V r j = 0 := by
  unfold er
  rw [List.getD_eq_getElem?_getD, List.getElem?_eq_none hj]
  exact V.zero
theorem er_inj (hg : g = 0 ∨ Gr5 g) {n k l : Nat} {r s : List (Int × Int)} (hr : r.length = n ∧ ∀ a ∈ r, TN g k a) (hs : s.length = n ∧ ∀ a ∈ s, TN g l a) (e : er V r = er V s) : r = s := by
  refine V.injL hg hr.2 hs.2 ?_
  refine List.ext_getElem (by rw [List.length_map, List.length_map, hr.1, hs.1]) fun i h1 h2 => ?_
  rw [List.length_map] at h1 h2
  rw [List.getElem_map, List.getElem_map, ← er_at h1, ← er_at h2, e]
theorem LeastR.uniq (hg : g = 0 ∨ Gr5 g) {n k l : Nat} {t t' T T' : List (List (Int × Int))} (a : LeastR V n k t T) (b : LeastR V n l t' T') (h1 : ∀ r ∈ t, InS (t'.map (er V)) (er V r)) (h2 : ∀ r ∈ t', InS (t.map (er V)) (er V r)) : T = T' := by
  obtain ⟨h, R, _⟩ := a.rr
  obtain ⟨h', R', _⟩ := b.rr
  have go : ∀ {t t' T T' : List (List (Int × Int))}, (∀ r ∈ T, InS (t.map (er V)) (er V r)) → (∀ r ∈ t, InS (t'.map (er V)) (er V r)) → (∀ r ∈ t', InS (T'.map (er V)) (er V r)) → ∀ u ∈ T.map (er V), InS (T'.map (er V)) u := fun {t t' T T'} x y z u hu => by
    obtain ⟨r, hr, rfl⟩ := List.mem_map.mp hu
    refine (InS.trans (M := t'.map (er V)) (x r hr) fun v hv => ?_).trans fun v hv => ?_
    · obtain ⟨q, hq, rfl⟩ := List.mem_map.mp hv
      exact y q hq
    · obtain ⟨q, hq, rfl⟩ := List.mem_map.mp hv
      exact z q hq
  have e := (R.uniq V.ne R' (go a.s1 h1 b.s2) (go b.s1 h2 a.s2)).1
  have hl : T.length = T'.length := by
    have := congrArg List.length e
    rw [List.length_map, List.length_map] at this
    exact this
  refine List.ext_getElem hl fun i i1 i2 => ?_
  have e2 : (T.map (er V))[i]? = (T'.map (er V))[i]? := by rw [e]
  rw [List.getElem?_map, List.getElem?_map, List.getElem?_eq_getElem i1, List.getElem?_eq_getElem i2] at e2
  exact er_inj hg (a.row _ (List.getElem_mem i1)) (b.row _ (List.getElem_mem i2)) (Option.some.inj e2)
/-- the program's whole numbers of a row: its numbers times one -/
theorem wr_fr (hg : g = 0 ∨ Gr5 g) {k : Nat} {r : List (Int × Int)} (hr : ∀ a ∈ r, TN g k a) : V.i (wrB r) ≠ 0 ∧ ∀ j, V.i (gt (wrT r) j) = V.i (wrB r) * er V r j := by
  have hpos : ∀ x ∈ r, 0 < x.2 := fun x hx => (hr x hx).pos
  have hb := (wrB_spec hpos).1
  refine ⟨V.ine (by omega) fun z => ?_, fun j => ?_⟩
  · have h5 := hg.resolve_left z
    have g0 : 0 < g := by unfold Gr5 at h5; omega
    rw [wrB_one fun x hx => (hr x hx).one g0]
    exact one_fmod h5
  · by_cases hj : j < r.length
    · have hm := List.getElem_mem hj
      have e1 : gt (wrT r) j = r[j].1 * (wrB r).fdiv r[j].2 := by
        unfold gt wrT
        rw [List.getD_eq_getElem?_getD, List.getElem?_map, List.getElem?_eq_getElem hj]
        rfl
      obtain ⟨q, hq⟩ := (wrB_spec hpos).2.1 _ hm
      have hp := hpos _ hm
      have e2 : (wrB r).fdiv r[j].2 = q := by
        rw [hq]
        exact Int.mul_fdiv_cancel_left _ (by omega)
      obtain ⟨e3, _⟩ := V.tn hg (hr _ hm)
      rw [e1, e2, er_at hj, hq, V.imul, V.imul, ← e3]
      grind
    · have e1 : gt (wrT r) j = 0 := by
        unfold gt wrT
        rw [List.getD_eq_getElem?_getD, List.getElem?_map, List.getElem?_eq_none (by omega)]
        rfl
      rw [e1, er_out (by omega), V.i0]
      grind
/-- behind the last column -/
theorem Fst.done (hg : g = 0 ∨ Gr5 g) {n k : Nat} {orig rows : List (List Int)} {h : List Nat} {t : List (List (Int × Int))} (f : Fst V n n orig rows h) (hk : 4 ≤ k) (hs : ∀ r ∈ rows, ∀ x, (gt r x).natAbs < 2 ^ k)
    (ht1 : ∀ r ∈ t, InS (orig.map (fr V)) (er V r)) (ht2 : ∀ o ∈ orig, InS (t.map (er V)) (fr V o)) : LeastR V n k t ((rows.take h.length).map (headF g)) := by
  obtain ⟨A, hA, hAr⟩ := f.piv
  have hlen : (rows.take h.length).length = h.length := by rw [List.length_take]; have := f.lr; omega
  -- each pivot's row by its head
  have key : ∀ (i : Nat) (r : List Int), i < h.length → rows[i]? = some r → ∃ a p, A[i]? = some a ∧ h[i]? = some p ∧ p < n ∧ gt r p ≠ 0 ∧ hdF r = gt r p ∧ er V (headF g r) = a ∧ (∀ j, V.i (gt r j) = V.i (gt r p) * a j) ∧ ∀ b ∈ headF g r, TN g k b := fun i r hi hr => by
    have ea : A[i]? = some (A[i]'(by rw [hA.len]; exact hi)) := List.getElem?_eq_getElem _
    have eh : h[i]? = some h[i] := List.getElem?_eq_getElem hi
    have hmem := List.mem_of_getElem? hr
    obtain ⟨hn, hx⟩ := hAr i _ r _ ea hr eh
    have ing := f.ing r hmem
    have hne : gt r h[i] ≠ 0 := fun z => hn (by rw [z, V.i0])
    have hd0 : hdF r = gt r h[i] := hd_at (fun j hj => V.iz ing (by rw [hx j, hA.ahead i _ _ j ea eh hj]; grind)) hne
    have hfm : g ≠ 0 → (gt r h[i]).fmod g ≠ 0 := fun z => by
      have h5 := hg.resolve_left z
      have g0 : 0 < g := by unfold Gr5 at h5; omega
      obtain ⟨q1, q2⟩ := ing z h[i]
      rw [fmod_pos _ g0, Int.emod_eq_of_lt q1 q2]
      exact hne
    have hlow : ∀ x : Int, V.e (lowF g x (gt r h[i])) * V.i (gt r h[i]) = V.i x := fun x => V.low hg hne hfm
    refine ⟨_, _, ea, eh, f.hd _ (List.getElem_mem hi), hne, hd0, funext fun j => ?_, hx, fun b hb => ?_⟩
    · refine V.cancel (z := V.i (gt r h[i])) ?_ hn
      by_cases hj : j < r.length
      · have hj' : j < (headF g r).length := by unfold headF; rw [List.length_map]; exact hj
        rw [er_at hj']
        have e1 : (headF g r)[j] = lowF g r[j] (gt r h[i]) := by
          rw [← hd0]
          exact List.getElem_map ..
        have e2 : gt r j = r[j] := by unfold gt; rw [List.getD_eq_getElem?_getD, List.getElem?_eq_getElem hj]; rfl
        rw [e1, hlow, ← e2, hx j]
        grind
      · rw [er_out (by unfold headF; rw [List.length_map]; omega)]
        have e2 : gt r j = 0 := by unfold gt; rw [List.getD_eq_getElem?_getD, List.getElem?_eq_none (by omega)]; rfl
        have h2 := hx j
        rw [e2, V.i0] at h2
        grind
    · obtain ⟨x, hx', rfl⟩ := List.mem_map.mp hb
      rw [hd0]
      obtain ⟨j, hj, rfl⟩ := List.mem_iff_getElem.mp hx'
      have e2 : gt r j = r[j] := by unfold gt; rw [List.getD_eq_getElem?_getD, List.getElem?_eq_getElem hj]; rfl
      rw [← e2]
      exact tn_low hg hne hfm hk (hs r hmem j) (hs r hmem _)
  have hmapA : ((rows.take h.length).map (headF g)).map (er V) = A := by
    refine List.ext_getElem? fun i => ?_
    rw [List.getElem?_map, List.getElem?_map]
    by_cases hi : i < h.length
    · rw [List.getElem?_take, if_pos hi]
      have hr : rows[i]? = some (rows[i]'(by have := f.lr; omega)) := List.getElem?_eq_getElem _
      obtain ⟨a, p, ea, _, _, _, _, e, _⟩ := key i _ hi hr
      rw [hr, ea]
      exact congrArg some e
    · rw [List.getElem?_take, if_neg hi, List.getElem?_eq_none (by rw [hA.len]; omega)]
      rfl
  -- rows of the field: the pivots' span all
  have hin : ∀ r ∈ rows, InS A (fr V r) := fun r hr => by
    obtain ⟨i, hi⟩ := List.getElem?_of_mem hr
    by_cases hi2 : i < h.length
    · obtain ⟨a, p, ea, _, _, _, _, _, hx, _⟩ := key i r hi2 hi
      have e2 : fr V r = fun j => V.i (gt r p) * a j := funext hx
      rw [e2]
      exact (InS.spc A).mul _ _ (InS.mem (List.mem_of_getElem? ea))
    · have e2 : fr V r = fun _ => 0 := funext fun j => by
        show V.i (gt r j) = 0
        by_cases hj : j < n
        · exact f.non i r (by omega) hi j hj
        · have : gt r j = 0 := by unfold gt; rw [List.getD_eq_getElem?_getD, List.getElem?_eq_none (by rw [f.len r hr]; omega)]; rfl
          rw [this, V.i0]
      rw [e2]
      exact (InS.spc A).zero
  refine ⟨fun r hr => ?_, ⟨h, by rw [hmapA]; exact hA, f.hd⟩, fun r hr => ?_, fun r hr => ?_⟩
  · obtain ⟨o, ho, rfl⟩ := List.mem_map.mp hr
    obtain ⟨i, hi⟩ := List.getElem?_of_mem ho
    rw [List.getElem?_take] at hi
    by_cases hi2 : i < h.length
    · rw [if_pos hi2] at hi
      obtain ⟨_, _, _, _, _, _, _, _, _, ht⟩ := key i o hi2 hi
      exact ⟨by unfold headF; rw [List.length_map]; exact f.len o (List.mem_of_getElem? hi), ht⟩
    · rw [if_neg hi2] at hi
      cases hi
  · obtain ⟨o, ho, rfl⟩ := List.mem_map.mp hr
    obtain ⟨i, hi⟩ := List.getElem?_of_mem ho
    rw [List.getElem?_take] at hi
    by_cases hi2 : i < h.length
    · rw [if_pos hi2] at hi
      obtain ⟨a, p, ea, _, _, hne, _, e, hx, _⟩ := key i o hi2 hi
      have hmem := List.mem_of_getElem? hi
      have hn : V.i (gt o p) ≠ 0 := fun z => hne (V.iz (f.ing o hmem) z)
      obtain ⟨y, hy⟩ := V.inv _ hn
      have e2 : er V (headF g o) = fun j => y * fr V o j := funext fun j => by
        rw [e]
        show a j = y * V.i (gt o j)
        rw [hx j]
        grind
      rw [e2]
      refine (InS.spc _).mul y _ ((f.sp1 o hmem).trans fun v hv => ?_)
      obtain ⟨q, hq, rfl⟩ := List.mem_map.mp hv
      exact ht2 q hq
    · rw [if_neg hi2] at hi
      cases hi
  · rw [hmapA]
    refine (InS.trans (M := rows.map (fr V)) (ht1 r hr) fun v hv => ?_).trans fun v hv => ?_
    · obtain ⟨q, hq, rfl⟩ := List.mem_map.mp hv
      exact f.sp2 q hq
    · obtain ⟨q, hq, rfl⟩ := List.mem_map.mp hv
      exact hin q hq
end
end Fm

namespace Fr
open Lean.Grind
variable {F : Type} [CommRing F]
/-! ### what only changes its sign where two neighbours are exchanged -/
def Sw {α : Type} (m : Nat) (f : List α → F) : Prop := ∀ (pre : List α) (u v : α) (post : List α), pre.length + post.length + 2 = m → f (pre ++ u :: v :: post) = -f (pre ++ v :: u :: post)
theorem Sw.move {α : Type} {m : Nat} {f : List α → F} (a : Sw m f) {u : α} : ∀ (mid pre post : List α), pre.length + mid.length + post.length + 1 = m → f (pre ++ u :: (mid ++ post)) = sF mid.length * f (pre ++ mid ++ u :: post)
  | [], pre, post, _ => by
    show f (pre ++ u :: post) = 1 * f (pre ++ [] ++ u :: post)
    rw [List.append_nil]
    grind
  | v :: mid, pre, post, h => by
    rw [List.length_cons] at h
    have h1 := a pre u v (mid ++ post) (by rw [List.length_append]; omega)
    have h2 := Sw.move a mid (pre ++ [v]) post (by rw [List.length_append]; show pre.length + 1 + mid.length + post.length + 1 = m; omega) (u := u)
    simp only [List.append_assoc, List.singleton_append] at h2
    show f (pre ++ u :: v :: (mid ++ post)) = sF (mid.length + 1) * f (pre ++ v :: mid ++ u :: post)
    rw [h1, h2, sF_succ]
    simp only [List.append_assoc, List.cons_append]
    grind
theorem Sw.tail {α : Type} {m : Nat} {f : List α → F} (a : Sw (m + 1) f) (u : α) : Sw m fun l => f (u :: l) := fun pre v w post h => a (u :: pre) v w post (by rw [List.length_cons]; omega)
/-- the sign of the other way about -/
def eF : Nat → F
  | 0 => 1
  | n + 1 => sF n * eF n
theorem eF_sq : ∀ n, (eF n * eF n : F) = 1
  | 0 => by
    show (1 : F) * 1 = 1
    grind
  | n + 1 => by
    show sF n * eF n * (sF n * eF n) = (1 : F)
    have h1 := eF_sq n
    have h2 := sF_sq n (F := F)
    grind
theorem Sw.rev {α : Type} : ∀ (l : List α) (f : List α → F), Sw l.length f → f l.reverse = eF l.length * f l
  | [], f, _ => by
    show f [] = 1 * f []
    grind
  | u :: l, f, a => by
    rw [List.length_cons] at a
    have h1 := a.move (u := u) l.reverse [] [] (by rw [List.length_reverse]; simp)
    have h2 := Sw.rev l (fun l => f (u :: l)) (a.tail u)
    rw [List.append_nil, List.nil_append, List.nil_append, List.length_reverse] at h1
    have h2' : f (u :: l.reverse) = eF l.length * f (u :: l) := h2
    rw [List.reverse_cons]
    show f (l.reverse ++ [u]) = sF l.length * eF l.length * f (u :: l)
    rw [h2'] at h1
    have h3 := sF_sq l.length (F := F)
    have : f (l.reverse ++ [u]) = sF l.length * (eF l.length * f (u :: l)) := by
      rw [h1]
      grind
    rw [this]
    grind
end Fr
namespace Fd
open Lean.Grind Fr
/-! ### whole numbers: after Bareiss -/
abbrev gR (r : List Int) : Row Int := fun x => gt r x
theorem S_SF (f : Nat → Int) : ∀ n, S f n = SF f n
  | 0 => rfl
  | n + 1 => by
    show S f n + f n = SF f n + f n
    rw [S_SF f n]
theorem sg_sF (i : Nat) : sg i = sF i := rfl
theorem dt_dC : ∀ (cs : List Nat) (P : List (List Int)), dt P cs = dC (P.map gR) cs
  | [], _ => rfl
  | c :: cs, P => by
    show S (fun i => sg i * ent P i c * dt (P.eraseIdx i) cs) P.length = SF (fun i => sF i * ((P.map gR).getD i zr) c * dC ((P.map gR).eraseIdx i) cs) (P.map gR).length
    rw [S_SF, List.length_map]
    refine SF_congr fun i hi => ?_
    rw [dt_dC cs (P.eraseIdx i)]
    have e1 : (P.eraseIdx i).map gR = (P.map gR).eraseIdx i := by rw [List.eraseIdx_eq_take_drop_succ, List.eraseIdx_eq_take_drop_succ, List.map_append, List.map_take, List.map_drop]
    have e2 : ent P i c = ((P.map gR).getD i zr) c := by
      have q1 : P.getD i [] = P[i] := by rw [List.getD_eq_getElem?_getD, List.getElem?_eq_getElem hi]; rfl
      have q2 : (P.map gR).getD i zr = gR P[i] := by rw [List.getD_eq_getElem?_getD, List.getElem?_map, List.getElem?_eq_getElem hi]; rfl
      unfold ent
      rw [q1, q2]
    rw [e1, e2]
    rfl
/-- the rows' signs -/
theorem dt_sw (cs : List Nat) : Sw cs.length (fun P : List (List Int) => dt P cs) := fun pre u v post h => by
  have a := (dC_alt cs (F := Int)).swap (pre := pre.map gR) (post := post.map gR) (u := gR u) (v := gR v) (by rw [List.length_map, List.length_map]; exact h)
  show dt (pre ++ u :: v :: post) cs = -dt (pre ++ v :: u :: post) cs
  rw [dt_dC, dt_dC, List.map_append, List.map_append, List.map_cons, List.map_cons, List.map_cons, List.map_cons]
  exact a
/-- the columns' signs -/
theorem dt_csw : ∀ (P : List (List Int)) (m : Nat), Sw m (fun cs : List Nat => dt P cs) := fun P m pre => by
  have go : ∀ (pre : List Nat) (P : List (List Int)) (u v : Nat) (post : List Nat), dt P (pre ++ u :: v :: post) = -dt P (pre ++ v :: u :: post) := fun pre => by
    induction pre with
    | nil => exact fun P u v post => dt_swap P u v post
    | cons c pre ih =>
      intro P u v post
      show S (fun i => sg i * ent P i c * dt (P.eraseIdx i) (pre ++ u :: v :: post)) P.length = -S (fun i => sg i * ent P i c * dt (P.eraseIdx i) (pre ++ v :: u :: post)) P.length
      rw [← S_neg]
      exact S_congr fun i _ => by
        rw [ih (P.eraseIdx i) u v post]
        grind
  exact fun u v post _ => go pre P u v post
theorem dt_rev {P : List (List Int)} {cs : List Nat} (hl : P.length = cs.length) : dt P.reverse cs.reverse = dt P cs := by
  have a1 := dt_sw cs.reverse
  rw [List.length_reverse, ← hl] at a1
  have h1 : dt P.reverse cs.reverse = eF P.length * dt P cs.reverse := Sw.rev P (fun P => dt P cs.reverse) a1
  have h2 : dt P cs.reverse = eF cs.length * dt P cs := Sw.rev cs (fun cs => dt P cs) (dt_csw P _)
  rw [h1, h2, hl]
  have := eF_sq cs.length (F := Int)
  grind
/-- a row of others brought ahead -/
theorem dt_head {P O : List (List Int)} {p : Nat} {o : List Int} {cs : List Nat} (hl : P.length + O.length = cs.length) (ho : O[p]? = some o) : dt (P ++ O) cs = sg p * dt (P ++ o :: O.eraseIdx p) cs := by
  have hp := (List.getElem?_eq_some_iff.mp ho).1
  obtain ⟨e1, e2⟩ := erase_parts (d := []) hp
  have e3 : O.getD p [] = o := by rw [List.getD_eq_getElem?_getD, ho]; rfl
  rw [e3] at e1
  have a := (dt_sw cs).move (u := o) (O.take p) P (O.drop (p + 1)) (by rw [← hl, List.length_take, List.length_drop]; omega)
  have hlen : (O.take p).length = p := by rw [List.length_take]; omega
  rw [hlen] at a
  have a' : dt (P ++ o :: (O.take p ++ O.drop (p + 1))) cs = sF p * dt (P ++ O.take p ++ o :: O.drop (p + 1)) cs := a
  rw [e2, a', List.append_assoc, ← e1, sg_sF]
  have := sF_sq p (F := Int)
  grind
/-- where no row has another number than nought at the next column the determinant is nought -/
theorem dt_none {P O : List (List Int)} {c : List Nat} {j : Nat} {cs : List Nat} (hlP : P.length = c.length) (hD : dt P c ≠ 0) (hn : (j :: c).Nodup) (hz : ∀ o ∈ O, dt (o :: P) (j :: c) = 0) (hc : ∀ k ∈ c, k ∈ cs) (hj : j ∉ cs) (L : List (List Int)) (hL : ∀ r ∈ L, r ∈ P ∨ r ∈ O) : dt L (j :: cs) = 0 := by
  -- each row at j by its numbers at c
  have hrow : ∀ r ∈ L, dt P c * gt r j = S (fun k => -(sg (k + 1) * dt P (j :: c.eraseIdx k)) * gt r (c.getD k 0)) c.length := fun r hr => by
    have h0 : dt (r :: P) (j :: c) = 0 := by
      rcases hL r hr with h | h
      · rw [dt_dC, List.map_cons]
        obtain ⟨p1, p2, rfl⟩ := List.append_of_mem h
        have a := (dC_alt (j :: c) (F := Int)).twice (u := gR r) [] (p1.map gR) (p2.map gR) (by rw [List.length_append, List.length_cons] at hlP; rw [List.length_nil, List.length_map, List.length_map, List.length_cons]; omega)
        rw [List.map_append, List.map_cons]
        exact a
      · exact hz r h
    have e := dC_dR (rs := (r :: P).map gR) (cs := j :: c) (by rw [List.length_map, List.length_cons, List.length_cons, hlP]) hn
    rw [← dt_dC, h0, List.map_cons] at e
    have e' : (0 : Int) = SF (fun k => sF k * gR r ((j :: c).getD k 0) * dR (P.map gR) ((j :: c).eraseIdx k)) (c.length + 1) := e
    rw [SF_front] at e'
    have hdR : ∀ cs' : List Nat, cs'.Nodup → P.length = cs'.length → dR (P.map gR) cs' = dt P cs' := fun cs' h1 h2 => by rw [dt_dC, dC_dR (by rw [List.length_map]; exact h2) h1]
    have hn2 := List.nodup_cons.mp hn
    have e0 : sF 0 * gR r ((j :: c).getD 0 0) * dR (P.map gR) ((j :: c).eraseIdx 0) = dt P c * gt r j := by
      show 1 * gt r j * dR (P.map gR) c = _
      rw [hdR c hn2.2 hlP]
      grind
    have e1 : SF (fun i => sF (i + 1) * gR r ((j :: c).getD (i + 1) 0) * dR (P.map gR) ((j :: c).eraseIdx (i + 1))) c.length = -S (fun k => -(sg (k + 1) * dt P (j :: c.eraseIdx k)) * gt r (c.getD k 0)) c.length := by
      rw [← S_neg, S_SF]
      refine SF_congr fun i hi => ?_
      show sF (i + 1) * gt r (c.getD i 0) * dR (P.map gR) (j :: c.eraseIdx i) = -(-(sg (i + 1) * dt P (j :: c.eraseIdx i)) * gt r (c.getD i 0))
      rw [hdR (j :: c.eraseIdx i) (List.nodup_cons.mpr ⟨fun z => hn2.1 (List.mem_of_mem_eraseIdx z), hn2.2.sublist (List.eraseIdx_sublist ..)⟩) (by rw [List.length_cons, List.length_eraseIdx_of_lt hi]; omega), sg_sF]
      grind
    rw [e0, e1] at e'
    omega
  have hmul : dt P c * dt L (j :: cs) = 0 := by
    show dt P c * S (fun i => sg i * ent L i j * dt (L.eraseIdx i) cs) L.length = 0
    rw [← S_mul]
    have e1 : S (fun i => dt P c * (sg i * ent L i j * dt (L.eraseIdx i) cs)) L.length = S (fun i => S (fun k => -(sg (k + 1) * dt P (j :: c.eraseIdx k)) * (sg i * ent L i (c.getD k 0) * dt (L.eraseIdx i) cs)) c.length) L.length := S_congr fun i hi => by
      have hm : L.getD i [] ∈ L := by
        rw [List.getD_eq_getElem?_getD, List.getElem?_eq_getElem hi]
        exact List.getElem_mem hi
      have h1 := hrow _ hm
      have h2 : dt P c * (sg i * ent L i j * dt (L.eraseIdx i) cs) = sg i * dt (L.eraseIdx i) cs * (dt P c * gt (L.getD i []) j) := by
        show dt P c * (sg i * gt (L.getD i []) j * dt (L.eraseIdx i) cs) = _
        grind
      rw [h2, h1, ← S_mul]
      refine S_congr fun k _ => ?_
      show _ = -(sg (k + 1) * dt P (j :: c.eraseIdx k)) * (sg i * gt (L.getD i []) (c.getD k 0) * dt (L.eraseIdx i) cs)
      grind
    rw [e1, S_comm]
    rw [S_congr (g := fun _ => 0) fun k hk => ?_, S_zero]
    rw [S_mul]
    have hck : c.getD k 0 ∈ cs := hc _ (by
      rw [List.getD_eq_getElem?_getD, List.getElem?_eq_getElem hk]
      exact List.getElem_mem hk)
    have := dt_twice (c.getD k 0) cs L hck
    have h2 : S (fun i => sg i * ent L i (c.getD k 0) * dt (L.eraseIdx i) cs) L.length = 0 := this
    rw [h2, Int.mul_zero]
  rcases Int.mul_eq_zero.mp hmul with z | z
  · exact absurd z hD
  · exact z
/-- the loop's state: j columns done -/
structure Bst (A n j : Nat) (orig rows : List (List Int)) (sign last : Int) : Prop where
  ex : ∃ P O : List (List Int), P.length = j ∧ O.length + j = n ∧ rows.length = O.length ∧ dt P (List.range j).reverse = last ∧
    (∀ (i : Nat) (o r : List Int), O[i]? = some o → rows[i]? = some r → r.length = n - j ∧ ∀ x, x < n - j → gt r x = dt (o :: P) ((j + x) :: (List.range j).reverse)) ∧
    sign * dt (P.reverse ++ O) (List.range n) = dt orig (List.range n) ∧ (∀ r, r ∈ P ∨ r ∈ O → ∀ x, (gt r x).natAbs ≤ A)
  ne : last ≠ 0
theorem Bst.start {A n : Nat} {orig : List (List Int)} (hl : orig.length = n) (hr : ∀ r ∈ orig, r.length = n ∧ ∀ x, (gt r x).natAbs ≤ A) : Bst A n 0 orig orig 1 1 := by
  refine ⟨⟨[], orig, rfl, by omega, rfl, rfl, fun i o r ho hr' => ?_, by show 1 * dt orig _ = _; omega, fun r h x => ?_⟩, by decide⟩
  · have e : o = r := Option.some.inj (ho.symm.trans hr')
    subst e
    refine ⟨(hr o (List.mem_of_getElem? ho)).1, fun x _ => ?_⟩
    show gt o x = 0 + sg 0 * ent [o] 0 (0 + x) * 1
    rw [Nat.zero_add]
    show gt o x = 0 + 1 * gt o x * 1
    omega
  · rcases h with h | h
    · cases h
    · exact (hr r h).2 x
theorem Bst.bound {A n j : Nat} {orig rows : List (List Int)} {sign last : Int} (b : Bst A n j orig rows sign last) (hA : 1 ≤ A) (hj : j < n) : (∀ r ∈ rows, r.length = n - j ∧ ∀ x, (gt r x).natAbs ≤ (n * A) ^ n) ∧ last.natAbs ≤ (n * A) ^ n := by
  obtain ⟨P, O, hP, hO, hrl, hlast, hx, _, hb⟩ := b.ex
  have hbP : ∀ i x, (ent P i x).natAbs ≤ A := fun i x => by
    show (gt (P.getD i []) x).natAbs ≤ A
    cases e : P[i]? with
    | none =>
      have q1 : P.getD i [] = [] := by rw [List.getD_eq_getElem?_getD, e]; rfl
      have : gt [] x = 0 := by unfold gt; simp
      rw [q1, this]
      exact Nat.zero_le _
    | some r =>
      have q1 : P.getD i [] = r := by rw [List.getD_eq_getElem?_getD, e]; rfl
      rw [q1]
      exact hb r (.inl (List.mem_of_getElem? e)) x
  have hlr : (List.range j).reverse.length = j := by rw [List.length_reverse, List.length_range]
  refine ⟨fun r hr => ?_, ?_⟩
  · obtain ⟨i, hi⟩ := List.getElem?_of_mem hr
    have hil := (List.getElem?_eq_some_iff.mp hi).1
    have ho : O[i]? = some (O[i]'(by omega)) := List.getElem?_eq_getElem _
    obtain ⟨h1, h2⟩ := hx i _ r ho hi
    refine ⟨h1, fun x => ?_⟩
    by_cases hxn : x < n - j
    · rw [h2 x hxn]
      refine Nat.le_trans (dt_abs (A := A) _ _ (by rw [List.length_cons, List.length_cons, hlr, hP]) fun k y => ?_) ?_
      · cases k with
        | zero => rw [ent_zero]; exact hb _ (.inr (List.mem_of_getElem? ho)) y
        | succ k => rw [ent_succ]; exact hbP k y
      · rw [List.length_cons, hlr]
        exact pow_mono (by omega) (Nat.mul_le_mul (show 1 ≤ n by omega) hA)
    · have : gt r x = 0 := by unfold gt; rw [List.getD_eq_getElem?_getD, List.getElem?_eq_none (by omega)]; rfl
      rw [this]
      exact Nat.zero_le _
  · rw [← hlast]
    refine Nat.le_trans (dt_abs (A := A) _ P (by rw [hlr, hP]) hbP) ?_
    rw [hlr]
    exact pow_mono (by omega) (Nat.mul_le_mul (show 1 ≤ n by omega) hA)
/-- the program's smaller rows -/
def smF (last : Int) (head row : List Int) : List Int := (List.range (row.length - 1)).map fun k => (gt row (k + 1) * gt head 0 - gt row 0 * gt head (k + 1)).fdiv last
theorem range_rev (j : Nat) : (List.range (j + 1)).reverse = j :: (List.range j).reverse := by rw [List.range_succ, List.reverse_append]; rfl
theorem Bst.step {A n j p : Nat} {orig rows : List (List Int)} {sign last : Int} {head : List Int} (b : Bst A n j orig rows sign last) (hj : j + 1 < n) (hh : rows[p]? = some head) (hne : gt head 0 ≠ 0) : Bst A n (j + 1) orig ((rows.eraseIdx p).map (smF last head)) (sign * sg p) (gt head 0) := by
  obtain ⟨P, O, hP, hO, hrl, hlast, hx, hs, hb⟩ := b.ex
  have hp := (List.getElem?_eq_some_iff.mp hh).1
  have ho : O[p]? = some (O[p]'(by omega)) := List.getElem?_eq_getElem _
  obtain ⟨hl1, hx1⟩ := hx p _ head ho hh
  have hlr : (List.range j).reverse.length = j := by rw [List.length_reverse, List.length_range]
  have hh0 : gt head 0 = dt (O[p]'(by omega) :: P) (j :: (List.range j).reverse) := hx1 0 (by omega)
  refine ⟨⟨O[p]'(by omega) :: P, O.eraseIdx p, by rw [List.length_cons, hP], by rw [List.length_eraseIdx_of_lt (by omega)]; omega, by rw [List.length_map, List.length_eraseIdx_of_lt hp, List.length_eraseIdx_of_lt (by omega), hrl], by rw [range_rev]; exact hh0.symm, fun i o r ho' hr' => ?_, ?_, fun r h x => ?_⟩, hne⟩
  · rw [List.getElem?_map] at hr'
    rw [List.getElem?_eraseIdx] at ho' hr'
    have fin : ∀ (q : Nat) (r0 : List Int), O[q]? = some o → rows[q]? = some r0 → r = smF last head r0 → r.length = n - (j + 1) ∧ ∀ x, x < n - (j + 1) → gt r x = dt (o :: O[p]'(by omega) :: P) ((j + 1 + x) :: (List.range (j + 1)).reverse) := fun q r0 hoq hrq er => by
      obtain ⟨hl2, hx2⟩ := hx q o r0 hoq hrq
      subst er
      refine ⟨by unfold smF; rw [List.length_map, List.length_range, hl2]; omega, fun x hxn => ?_⟩
      have e1 : gt (smF last head r0) x = (gt r0 (x + 1) * gt head 0 - gt r0 0 * gt head (x + 1)).fdiv last := by
        unfold smF gt
        rw [List.getD_eq_getElem?_getD, List.getElem?_map, List.getElem?_range (by omega)]
        rfl
      have hsyl := dt_syl (P := P) (c := (List.range j).reverse) (by rw [hlr, hP]) (o := o) (h := O[p]'(by omega)) (k := j) (by rw [← hh0]; exact hne) (j + 1 + x)
      have q1 := hx2 (x + 1) (by omega)
      have q2 := hx2 0 (by omega)
      have q3 := hx1 (x + 1) (by omega)
      rw [show j + (x + 1) = j + 1 + x by omega] at q1 q3
      rw [show j + 0 = j by omega] at q2
      rw [e1, q1, q2, q3, hh0, range_rev, ← hsyl, hlast]
      exact Int.mul_fdiv_cancel_left _ b.ne
    split at ho'
    · rename_i hip
      rw [if_pos hip] at hr'
      cases e : rows[i]? with
      | none => rw [e] at hr'; cases hr'
      | some r0 =>
        rw [e] at hr'
        exact fin i r0 ho' e (Option.some.inj hr').symm
    · rename_i hip
      rw [if_neg hip] at hr'
      cases e : rows[i + 1]? with
      | none => rw [e] at hr'; cases hr'
      | some r0 =>
        rw [e] at hr'
        exact fin (i + 1) r0 ho' e (Option.some.inj hr').symm
  · have := dt_head (P := P.reverse) (O := O) (cs := List.range n) (by rw [List.length_reverse, List.length_range]; omega) ho
    rw [List.reverse_cons, List.append_assoc]
    show sign * sg p * dt (P.reverse ++ O[p]'(by omega) :: O.eraseIdx p) (List.range n) = _
    rw [← hs, this]
    grind
  · refine hb r ?_ x
    rcases h with h | h
    · rcases List.mem_cons.mp h with h | h
      · rw [h]
        exact .inr (List.getElem_mem _)
      · exact .inl h
    · exact .inr (List.mem_of_mem_eraseIdx h)
theorem Bst.none {A n j : Nat} {orig rows : List (List Int)} {sign last : Int} (b : Bst A n j orig rows sign last) (hj : j < n) (hz : ∀ (i : Nat) (r : List Int), rows[i]? = some r → gt r 0 = 0) : dt orig (List.range n) = 0 := by
  obtain ⟨P, O, hP, hO, hrl, hlast, hx, hs, hb⟩ := b.ex
  have hlr : (List.range j).reverse.length = j := by rw [List.length_reverse, List.length_range]
  have hjn : (List.range n)[j]? = some j := List.getElem?_range hj
  have mv := dt_move (List.range n) (P.reverse ++ O) j j hjn
  have hk : ∀ k, k < j → k ∈ (List.range n).eraseIdx j := fun k hk => List.mem_eraseIdx_iff_getElem?.mpr ⟨k, by omega, List.getElem?_range (by omega)⟩
  have hjm : j ∉ (List.range n).eraseIdx j := fun z => by
    obtain ⟨i, hi, e⟩ := List.mem_eraseIdx_iff_getElem?.mp z
    have hl := (List.getElem?_eq_some_iff.mp e).1
    rw [List.length_range] at hl
    rw [List.getElem?_range hl] at e
    exact hi (Option.some.inj e)
  have hnone := dt_none (P := P) (O := O) (c := (List.range j).reverse) (j := j) (cs := (List.range n).eraseIdx j) (by rw [hlr, hP]) (by rw [hlast]; exact b.ne) (by rw [← range_rev]; exact (List.reverse_perm _).nodup_iff.mpr List.nodup_range) (fun o ho => by
    obtain ⟨i, hi⟩ := List.getElem?_of_mem ho
    have hil := (List.getElem?_eq_some_iff.mp hi).1
    have hr : rows[i]? = some (rows[i]'(by omega)) := List.getElem?_eq_getElem _
    have := (hx i o _ hi hr).2 0 (by omega)
    rw [hz i _ hr] at this
    exact this.symm) (fun k hk' => hk k (List.mem_range.mp (List.mem_reverse.mp hk'))) hjm (P.reverse ++ O) (fun r hr => (List.mem_append.mp hr).imp (fun h => List.mem_reverse.mp h) id)
  rw [hnone] at mv
  rw [← hs]
  rcases Int.mul_eq_zero.mp mv.symm with z | z
  · have := sg_sq j
    rw [z] at this
    cases this
  · rw [z, Int.mul_zero]
theorem Bst.done {A n j : Nat} {orig rows : List (List Int)} {sign last : Int} (b : Bst A n j orig rows sign last) (hj : j + 1 = n) {r : List Int} (hr : rows[0]? = some r) : sign * gt r 0 = dt orig (List.range n) := by
  obtain ⟨P, O, hP, hO, hrl, hlast, hx, hs, hb⟩ := b.ex
  have hO1 : O.length = 1 := by omega
  match O, hO1 with
  | [o], _ =>
    obtain ⟨_, h2⟩ := hx 0 o r rfl hr
    have h3 := h2 0 (by omega)
    rw [← hs, h3]
    have e : P.reverse ++ [o] = (o :: P).reverse := by rw [List.reverse_cons]
    have e2 : List.range n = ((List.range n).reverse).reverse := by rw [List.reverse_reverse]
    rw [e, e2, dt_rev (P := o :: P) (cs := (List.range n).reverse) (by rw [List.length_cons, List.length_reverse, List.length_range]; omega), ← hj, range_rev]
    rfl
end Fd

namespace Fm
open Lean.Grind PySem L2 Fr Fd
/-! ### least rows made of numbers one head after another, and how great these numbers are -/
abbrev ga (r : List (Int × Int)) (j : Nat) : Int × Int := r.getD j (0, 1)
def lheadF (g : Int) (j : Nat) (r : List (Int × Int)) : List (Int × Int) := r.map fun x => timesF g x (ovrF g (1, 1) (ga r j))
def lclrF (g : Int) (j : Nat) (h r : List (Int × Int)) : List (Int × Int) := List.zipWith (plusF g) r (h.map fun x => timesF g x (minusF g (ga r j)))
theorem red_le {a : Int × Int} {d n : Int} (h : Red a) (hd : d ≠ 0) (e : a.1 * d = a.2 * n) : a.1.natAbs ≤ n.natAbs ∧ a.2.natAbs ≤ d.natAbs := by
  have h2 : a.2 ≠ 0 := by have := h.1; omega
  obtain ⟨q, hq⟩ := dvd_cop h.2 ⟨n, e⟩
  have q0 : q ≠ 0 := fun z => hd (by rw [hq, z, Int.mul_zero])
  have hn : a.1 * q = n := by
    refine Int.eq_of_mul_eq_mul_left h2 ?_
    rw [← e, hq]
    grind
  refine ⟨?_, ?_⟩
  · rw [← hn, Int.natAbs_mul]
    exact Nat.le_mul_of_pos_right _ (by omega)
  · rw [hq, Int.natAbs_mul]
    exact Nat.le_mul_of_pos_right _ (by omega)
section
variable {g : Int} {F : Type} [CommRing F]
/-- the rows by minors: P the heads' own rows, c their columns -/
structure LSz (V : GV g F) (A : Nat) (P : List (List Int)) (c : List Nat) (found left : List (List (Int × Int))) : Prop where
  lc : P.length = c.length
  det : dt P c ≠ 0
  bP : ∀ i x, (ent P i x).natAbs ≤ A
  fnd : ∀ v ∈ found, ∃ j m, c[j]? = some m ∧ ∀ x, er V v x * V.i (sg j * dt P c) = V.i (dt P (x :: c.eraseIdx j))
  lft : ∀ v ∈ left, ∃ (o : List Int) (b : Int), b ≠ 0 ∧ b.natAbs ≤ A ∧ (∀ x, (gt o x).natAbs ≤ A) ∧ ∀ x, er V v x * V.i (b * dt P c) = V.i (dt (o :: P) (x :: c))
variable {V : GV g F}
theorem sg_ne (j : Nat) : sg j ≠ 0 := fun z => by
  have := sg_sq j
  rw [z] at this
  cases this
theorem sg_one (j : Nat) : (sg j).natAbs = 1 := by
  unfold sg
  split <;> rfl
theorem red_of (hg0 : g = 0) {k : Nat} {a : Int × Int} (h : TN g k a) : Red a := by
  subst hg0
  exact h.red
theorem ei_z (hg0 : g = 0) {a b : Int} (h : V.i a = V.i b) : a = b := by
  have : V.i (a - b) = 0 := by rw [V.isub, h]; grind
  have := (V.ker _ this).1 hg0
  omega
/-- a number out of two whole ones in the field: its parts are no greater -/
theorem tn_by (hg : g = 0 ∨ Gr5 g) (hg0 : g = 0) {k : Nat} {a : Int × Int} (h : TN g k a) {d n : Int} (hd : d ≠ 0) (e : V.e a * V.i d = V.i n) : a.1.natAbs ≤ n.natAbs ∧ a.2.natAbs ≤ d.natAbs := by
  refine red_le (red_of hg0 h) hd (ei_z (V := V) hg0 ?_)
  obtain ⟨e1, n1⟩ := V.tn hg h
  rw [V.imul, V.imul, ← e1, ← e]
  grind
theorem LSz.bound (hg : g = 0 ∨ Gr5 g) (hg0 : g = 0) {A k n : Nat} {P : List (List Int)} {c : List Nat} {found left : List (List (Int × Int))} (z : LSz V A P c found left) (hc : c.length ≤ n) (hA : 1 ≤ A) :
    ∀ v ∈ found ++ left, (∀ a ∈ v, TN g k a) → ∀ a ∈ v, a.1.natAbs ≤ A * ((n + 1) * A) ^ (n + 1) ∧ a.2.natAbs ≤ A * ((n + 1) * A) ^ (n + 1) := fun v hv ht a ha => by
  obtain ⟨x, hx, rfl⟩ := List.mem_iff_getElem.mp ha
  have ta := ht _ (List.getElem_mem hx)
  have hD : ∀ (Q : List (List Int)) (cs : List Nat), Q.length = cs.length → cs.length ≤ n + 1 → (∀ i y, (ent Q i y).natAbs ≤ A) → (dt Q cs).natAbs ≤ ((n + 1) * A) ^ (n + 1) := fun Q cs h1 h2 h3 => Nat.le_trans (dt_abs cs Q h1 h3) (pow_mono h2 (Nat.mul_le_mul (show 1 ≤ n + 1 by omega) hA))
  have hB : ((n + 1) * A) ^ (n + 1) ≤ A * ((n + 1) * A) ^ (n + 1) := Nat.le_mul_of_pos_left _ hA
  rcases List.mem_append.mp hv with h | h
  · obtain ⟨j, m, hj, e⟩ := z.fnd v h
    have hjl := (List.getElem?_eq_some_iff.mp hj).1
    have e1 := e x
    rw [er_at hx] at e1
    have hl : P.length = (x :: c.eraseIdx j).length := by
      rw [List.length_cons, List.length_eraseIdx_of_lt hjl, z.lc]
      omega
    obtain ⟨b1, b2⟩ := tn_by hg hg0 ta (Int.mul_ne_zero (sg_ne j) z.det) e1
    rw [Int.natAbs_mul, sg_one, Nat.one_mul] at b2
    have d1 := hD P c z.lc (by omega) z.bP
    have d2 := hD P _ hl (by rw [← hl, z.lc]; omega) z.bP
    exact ⟨by omega, by omega⟩
  · obtain ⟨o, b, hb, hbA, ho, e⟩ := z.lft v h
    have e1 := e x
    rw [er_at hx] at e1
    obtain ⟨b1, b2⟩ := tn_by hg hg0 ta (Int.mul_ne_zero hb z.det) e1
    have d1 := hD P c z.lc (by omega) z.bP
    have d2 := hD (o :: P) (x :: c) (by rw [List.length_cons, List.length_cons, z.lc]) (by rw [List.length_cons]; omega) fun i y => by
      cases i with
      | zero => rw [ent_zero]; exact ho y
      | succ i => rw [ent_succ]; exact z.bP i y
    refine ⟨by omega, Nat.le_trans b2 ?_⟩
    rw [Int.natAbs_mul]
    exact Nat.mul_le_mul hbA d1
theorem LSz.start (hg : g = 0 ∨ Gr5 g) {A k : Nat} {t : List (List (Int × Int))} (ht : ∀ r ∈ t, ∀ a ∈ r, TN g k a) (hA : ∀ r ∈ t, (wrB r).natAbs ≤ A ∧ ∀ y ∈ wrT r, y.natAbs ≤ A) : LSz V A [] [] [] t := by
  refine ⟨rfl, by show (1 : Int) ≠ 0; decide, fun i x => ?_, fun v hv => (by cases hv), fun v hv => ⟨wrT v, wrB v, ?_, (hA v hv).1, fun x => ?_, fun x => ?_⟩⟩
  · have : ([] : List (List Int)).getD i [] = [] := by simp
    show (gt (([] : List (List Int)).getD i []) x).natAbs ≤ A
    rw [this]
    exact Nat.zero_le _
  · have := (wrB_spec fun x hx => (ht v hv x hx).pos).1
    omega
  · by_cases e : gt (wrT v) x = 0
    · rw [e]
      exact Nat.zero_le _
    · exact (hA v hv).2 _ (gt_mem e)
  · have e := (wr_fr (V := V) hg (ht v hv)).2 x
    have e1 : dt [wrT v] [x] = gt (wrT v) x := by
      show 0 + sg 0 * gt (wrT v) x * 1 = _
      show 0 + 1 * gt (wrT v) x * 1 = _
      omega
    rw [e1, e]
    show er V v x * V.i (wrB v * 1) = _
    rw [Int.mul_one]
    grind
theorem LSz.step (hg0 : g = 0) {A k : Nat} {P : List (List Int)} {c : List Nat} {found left : List (List (Int × Int))} (z : LSz V A P c found left) {v0 head : List (Int × Int)} (hv0 : v0 ∈ left) (hne : er V v0 k ≠ 0) (hh : ∀ x, er V head x * er V v0 k = er V v0 x) {f : List (Int × Int) → List (Int × Int)} (hf : ∀ r ∈ found ++ left, er V (f r) = clr k (er V head) (er V r)) :
    ∃ P' c', c'.length = c.length + 1 ∧ LSz V A P' c' (found.map f ++ [head]) (left.map f) := by
  obtain ⟨o, b, hb, hbA, ho, e0⟩ := z.lft v0 hv0
  have vD : V.i (dt P c) ≠ 0 := V.ine z.det fun h => absurd hg0 h
  have vb : V.i b ≠ 0 := V.ine hb fun h => absurd hg0 h
  have hbD : V.i (b * dt P c) ≠ 0 := V.ine (Int.mul_ne_zero hb z.det) fun h => absurd hg0 h
  have hN : V.i (dt (o :: P) (k :: c)) ≠ 0 := fun q => by
    have := e0 k
    rw [q] at this
    exact hbD (V.dom this hne)
  have hD' : dt (o :: P) (k :: c) ≠ 0 := fun q => hN (by rw [q, V.i0])
  -- the head's row by minors
  have hhead : ∀ x, er V head x * V.i (dt (o :: P) (k :: c)) = V.i (dt (o :: P) (x :: c)) := fun x => by
    rw [← e0 x, ← e0 k, ← hh x]
    grind
  refine ⟨o :: P, k :: c, rfl, ?_, hD', fun i x => ?_, fun v hv => ?_, fun v hv => ?_⟩
  · rw [List.length_cons, List.length_cons, z.lc]
  · cases i with
    | zero => rw [ent_zero]; exact ho x
    | succ i => rw [ent_succ]; exact z.bP i x
  · rcases List.mem_append.mp hv with h | h
    · obtain ⟨r, hr, rfl⟩ := List.mem_map.mp h
      obtain ⟨j, m, hj, e⟩ := z.fnd r hr
      refine ⟨j + 1, m, hj, fun x => ?_⟩
      rw [hf r (List.mem_append_left _ hr)]
      show (er V r x + -(er V r k) * er V head x) * V.i (sg (j + 1) * dt (o :: P) (k :: c)) = V.i (dt (o :: P) (x :: k :: c.eraseIdx j))
      refine V.cancel (z := V.i (dt P c)) ?_ vD
      have hs := congrArg V.i (dt_piv z.lc (h := o) (k := k) hj hD' x)
      rw [V.ineg, V.isub, V.imul, V.imul, V.imul] at hs
      have ex := e x
      have ek := e k
      rw [V.imul] at ex ek
      have hx := hhead x
      rw [sg_succ, V.imul, V.ineg]
      grind
    · rw [List.mem_singleton.mp h]
      refine ⟨0, k, rfl, fun x => ?_⟩
      show er V head x * V.i (1 * dt (o :: P) (k :: c)) = V.i (dt (o :: P) (x :: c))
      rw [Int.one_mul]
      exact hhead x
  · obtain ⟨r, hr, rfl⟩ := List.mem_map.mp hv
    obtain ⟨o1, b1, hb1, hbA1, ho1, e⟩ := z.lft r hr
    refine ⟨o1, b1, hb1, hbA1, ho1, fun x => ?_⟩
    rw [hf r (List.mem_append_right _ hr)]
    show (er V r x + -(er V r k) * er V head x) * V.i (b1 * dt (o :: P) (k :: c)) = V.i (dt (o1 :: o :: P) (x :: k :: c))
    refine V.cancel (z := V.i (dt P c)) ?_ vD
    have hs := congrArg V.i (dt_syl z.lc (o := o1) (h := o) (k := k) hD' x)
    rw [V.isub, V.imul, V.imul, V.imul] at hs
    have ex := e x
    have ek := e k
    rw [V.imul] at ex ek
    have hx := hhead x
    rw [V.imul]
    grind
/-- the law's loop in the field -/
structure Lst (V : GV g F) (k j n : Nat) (t found left : List (List (Int × Int))) (h : List Nat) : Prop where
  fr : ∀ r ∈ found, r.length = n ∧ ∀ a ∈ r, TN g k a
  lr : ∀ r ∈ left, r.length = n ∧ ∀ a ∈ r, TN g k a
  rr : Rr (found.map (er V)) h
  hd : ∀ p ∈ h, p < j
  hl : h.length ≤ j
  nul : ∀ r ∈ left, ∀ x, x < j → er V r x = 0
  sp1 : ∀ r ∈ found ++ left, InS (t.map (er V)) (er V r)
  sp2 : ∀ r ∈ t, InS ((found ++ left).map (er V)) (er V r)
theorem Lst.start {k n : Nat} {t : List (List (Int × Int))} (ht : ∀ r ∈ t, r.length = n ∧ ∀ a ∈ r, TN g k a) : Lst V k 0 n t [] t [] :=
  ⟨fun r hr => (by cases hr), ht, rr_nil, fun p hp => (by cases hp), Nat.le_refl _, fun r hr x hx => absurd hx (Nat.not_lt_zero _), fun r hr => InS.mem (List.mem_map.mpr ⟨r, hr, rfl⟩), fun r hr => InS.mem (List.mem_map.mpr ⟨r, hr, rfl⟩)⟩
theorem ga_at {r : List (Int × Int)} {j : Nat} (hj : j < r.length) : ga r j = r[j] := by
  unfold ga
  rw [List.getD_eq_getElem?_getD, List.getElem?_eq_getElem hj]
  rfl
theorem Lst.skip (hg : g = 0 ∨ Gr5 g) {k j n : Nat} {t found left : List (List (Int × Int))} {h : List Nat} (s : Lst V k j n t found left h) (hz : ∀ r ∈ left, ga r j = (0, 1)) : Lst V k (j + 1) n t found left h :=
  ⟨s.fr, s.lr, s.rr, fun p hp => Nat.lt_succ_of_lt (s.hd p hp), Nat.le_succ_of_le s.hl, fun r hr x hx => by
    by_cases e : x = j
    · subst e
      show V.e (ga r x) = 0
      rw [hz r hr]
      exact V.zero
    · exact s.nul r hr x (by omega), s.sp1, s.sp2⟩
theorem er_ga (r : List (Int × Int)) (j : Nat) : er V r j = V.e (ga r j) := rfl
theorem lhead_er (hg : g = 0 ∨ Gr5 g) {k j n : Nat} {r : List (Int × Int)} (hr : r.length = n ∧ ∀ a ∈ r, TN g k a) (hj : j < n) (hk : 4 ≤ k) (hne : ga r j ≠ (0, 1)) :
    er V r j ≠ 0 ∧ (∀ x, er V (lheadF g j r) x * er V r j = er V r x) ∧ (lheadF g j r).length = n ∧ ∀ a ∈ lheadF g j r, TN g (k + (4 + k)) a := by
  have hjl : j < r.length := by rw [hr.1]; exact hj
  have ta : TN g k (ga r j) := by rw [ga_at hjl]; exact hr.2 _ (List.getElem_mem hjl)
  have h1 : (ga r j).1 ≠ 0 := fun z => hne (V.inj hg ta (tn_zero hg) (by
    rw [V.zero]
    obtain ⟨e1, n1⟩ := V.tn hg ta
    rw [z, V.i0] at e1
    have e2 : V.i (ga r j).2 * V.e (ga r j) = 0 := by rw [← e1]; grind
    exact V.dom e2 n1))
  have ho : V.e (ovrF g (1, 1) (ga r j)) * V.e (ga r j) = 1 := by
    have := V.over hg (tn_one hg) ta h1
    rw [V.one] at this
    exact this
  have to := tn_ovr hg (tn_one hg) ta (Nat.le_refl 4) h1
  have hn : er V r j ≠ 0 := fun z => by
    rw [er_ga] at z
    rw [z] at ho
    exact V.ne (by rw [← ho]; grind)
  refine ⟨hn, fun x => ?_, by unfold lheadF; rw [List.length_map]; exact hr.1, fun a ha => ?_⟩
  · by_cases hx : x < r.length
    · have hx' : x < (lheadF g j r).length := by unfold lheadF; rw [List.length_map]; exact hx
      have e1 : (lheadF g j r)[x] = timesF g r[x] (ovrF g (1, 1) (ga r j)) := List.getElem_map ..
      rw [er_at hx', er_at hx, e1, V.times hg (hr.2 _ (List.getElem_mem hx)) to, er_ga]
      grind
    · rw [er_out (r := r) (j := x) (by omega), er_out (r := lheadF g j r) (j := x) (by unfold lheadF; rw [List.length_map]; omega)]
      grind
  · obtain ⟨x, hx, rfl⟩ := List.mem_map.mp ha
    exact tn_times hg (hr.2 x hx) to hk
theorem lclr_er (hg : g = 0 ∨ Gr5 g) {k l j n : Nat} {h r : List (Int × Int)} (hr : r.length = n ∧ ∀ a ∈ r, TN g k a) (hh : h.length = n ∧ ∀ a ∈ h, TN g l a) (hj : j < n) (hk : 4 ≤ k) (hl : 4 ≤ l) :
    er V (lclrF g j h r) = clr j (er V h) (er V r) ∧ (lclrF g j h r).length = n ∧ ∀ a ∈ lclrF g j h r, TN g (k + (l + k) + 1) a := by
  have hjl : j < r.length := by rw [hr.1]; exact hj
  have ta : TN g k (ga r j) := by rw [ga_at hjl]; exact hr.2 _ (List.getElem_mem hjl)
  have tm := tn_minus hg ta hk
  have hlen : (lclrF g j h r).length = n := by
    unfold lclrF
    rw [List.length_zipWith, List.length_map, hr.1, hh.1]
    omega
  have hget : ∀ x (hx : x < n), (lclrF g j h r)[x]'(by omega) = plusF g (r[x]'(by omega)) (timesF g (h[x]'(by omega)) (minusF g (ga r j))) := fun x hx => by
    unfold lclrF
    rw [List.getElem_zipWith, List.getElem_map]
  refine ⟨funext fun x => ?_, hlen, fun a ha => ?_⟩
  · unfold clr
    by_cases hx : x < n
    · have h1 : x < r.length := by omega
      have h2 : x < h.length := by omega
      have tr := hr.2 _ (List.getElem_mem h1)
      have th := hh.2 _ (List.getElem_mem h2)
      rw [er_at (show x < (lclrF g j h r).length by omega), hget x hx, er_at h1, er_at h2, V.plus hg tr (tn_times hg th tm hl), V.times hg th tm, V.minus hg ta, er_ga]
      grind
    · rw [er_out (show (lclrF g j h r).length ≤ x by omega), er_out (show r.length ≤ x by omega), er_out (show h.length ≤ x by omega)]
      grind
  · obtain ⟨x, hx, rfl⟩ := List.mem_iff_getElem.mp ha
    rw [hget x (by omega)]
    exact tn_plus hg (hr.2 _ (List.getElem_mem _)) (tn_times hg (hh.2 _ (List.getElem_mem _)) tm hl) hk
/-- a number of the ground by its parts -/
theorem tn_small (hg : g = 0 ∨ Gr5 g) {k l : Nat} {a : Int × Int} (h : TN g l a) (hk : 4 ≤ k) (hz : g = 0 → a.1.natAbs < 2 ^ k ∧ a.2.natAbs < 2 ^ k) : TN g k a := by
  rcases hg with e | h5
  · exact ⟨h.1, hz e⟩
  · have g0 : g ≠ 0 := by unfold Gr5 at h5; omega
    have h16 : 2 ^ 4 ≤ 2 ^ k := Nat.pow_le_pow_right (by decide) hk
    rcases h.1 with ⟨e, _⟩ | ⟨_, h1, h2, h3⟩
    · exact absurd e g0
    · refine ⟨h.1, ?_, ?_⟩
      · unfold Gr5 at h5
        have : a.1.natAbs < 16 := by omega
        omega
      · rw [h3]
        show 1 < 2 ^ k
        omega
theorem Lst.step (hg : g = 0 ∨ Gr5 g) {A k j n : Nat} {t found left : List (List (Int × Int))} {h : List Nat} (s : Lst V k j n t found left h) (hj : j < n) (hk : 4 ≤ k) (z : g = 0 → ∃ P c, c.length = h.length ∧ LSz V A P c found left) (hB : g = 0 → 1 ≤ A ∧ A * ((n + 1) * A) ^ (n + 1) < 2 ^ k) {v0 : List (Int × Int)} (hv0 : v0 ∈ left) (hne : ga v0 j ≠ (0, 1)) :
    (∀ a ∈ lheadF g j v0, TN g k a) ∧ Lst V k (j + 1) n t (found.map (lclrF g j (lheadF g j v0)) ++ [lheadF g j v0]) (left.map (lclrF g j (lheadF g j v0))) (h ++ [j]) ∧
    (g = 0 → ∃ P c, c.length = (h ++ [j]).length ∧ LSz V A P c (found.map (lclrF g j (lheadF g j v0)) ++ [lheadF g j v0]) (left.map (lclrF g j (lheadF g j v0)))) := by
  obtain ⟨hn0, hh, hhl, htH⟩ := lhead_er (V := V) hg (s.lr v0 hv0) hj hk hne
  generalize hH : lheadF g j v0 = H at *
  have all : ∀ r ∈ found ++ left, r.length = n ∧ ∀ a ∈ r, TN g k a := fun r hr => (List.mem_append.mp hr).elim (s.fr r) (s.lr r)
  have hf : ∀ r ∈ found ++ left, er V (lclrF g j H r) = clr j (er V H) (er V r) ∧ (lclrF g j H r).length = n ∧ ∀ a ∈ lclrF g j H r, TN g (k + (k + (4 + k) + k) + 1) a := fun r hr => lclr_er hg (all r hr) ⟨hhl, htH⟩ hj hk (by omega)
  have z' : g = 0 → ∃ P c, c.length = (h ++ [j]).length ∧ LSz V A P c (found.map (lclrF g j H) ++ [H]) (left.map (lclrF g j H)) := fun e => by
    obtain ⟨P, c, hc, zz⟩ := z e
    obtain ⟨P', c', hc', z2⟩ := zz.step e hv0 hn0 hh fun r hr => (hf r hr).1
    exact ⟨P', c', by rw [hc', hc, List.length_append]; rfl, z2⟩
  have big : ∀ r ∈ (found.map (lclrF g j H) ++ [H]) ++ left.map (lclrF g j H), ∀ a ∈ r, TN g (k + (k + (4 + k) + k) + 1) a := fun r hr => by
    rcases List.mem_append.mp hr with q | q
    · rcases List.mem_append.mp q with q | q
      · obtain ⟨u, hu, rfl⟩ := List.mem_map.mp q
        exact (hf u (List.mem_append_left _ hu)).2.2
      · rw [List.mem_singleton.mp q]
        exact fun a ha => (htH a ha).mono (by omega)
    · obtain ⟨u, hu, rfl⟩ := List.mem_map.mp q
      exact (hf u (List.mem_append_right _ hu)).2.2
  have sm : ∀ r ∈ (found.map (lclrF g j H) ++ [H]) ++ left.map (lclrF g j H), ∀ a ∈ r, TN g k a := fun r hr a ha => by
    refine tn_small hg (big r hr a ha) hk fun e => ?_
    obtain ⟨P, c, hc, zz⟩ := z' e
    obtain ⟨hA, hb⟩ := hB e
    have hcn : c.length ≤ n := by
      rw [hc, List.length_append]
      have := s.hl
      show h.length + 1 ≤ n
      omega
    have := zz.bound hg e hcn hA r hr (big r hr) a ha
    omega
  have hb1 : er V H j = 1 := by
    refine V.cancel (z := er V v0 j) ?_ hn0
    rw [hh j]
    grind
  have hb0 : ∀ x, x < j → er V H x = 0 := fun x hx => by
    refine V.dom (x := er V v0 j) ?_ hn0
    have := hh x
    rw [s.nul v0 hv0 x hx] at this
    rw [← this]
    grind
  have hR := s.rr.step (k := j) (b := er V H) s.hd hb1 hb0
  have hmap : (found.map (lclrF g j H) ++ [H]).map (er V) = (found.map (er V)).map (clr j (er V H)) ++ [er V H] := by
    rw [List.map_append, List.map_map, List.map_map]
    congr 1
    exact List.map_congr_left fun r hr => (hf r (List.mem_append_left _ hr)).1
  have hH1 : InS (t.map (er V)) (er V H) := by
    obtain ⟨y, hy⟩ := V.inv _ hn0
    have e : er V H = fun x => y * er V v0 x := funext fun x => by
      rw [← hh x]
      grind
    rw [e]
    exact (InS.spc _).mul y _ (s.sp1 v0 (List.mem_append_right _ hv0))
  refine ⟨fun a ha => sm H (List.mem_append_left _ (List.mem_append_right _ (List.mem_singleton.mpr rfl))) a ha, ⟨fun r hr => ⟨?_, sm r (List.mem_append_left _ hr)⟩, fun r hr => ⟨?_, sm r (List.mem_append_right _ hr)⟩, by rw [hmap]; exact hR, fun p hp => ?_, ?_, fun r hr x hx => ?_, fun r hr => ?_, fun r hr => ?_⟩, z'⟩
  · rcases List.mem_append.mp hr with q | q
    · obtain ⟨u, hu, rfl⟩ := List.mem_map.mp q
      exact (hf u (List.mem_append_left _ hu)).2.1
    · rw [List.mem_singleton.mp q]
      exact hhl
  · obtain ⟨u, hu, rfl⟩ := List.mem_map.mp hr
    exact (hf u (List.mem_append_right _ hu)).2.1
  · rcases List.mem_append.mp hp with q | q
    · exact Nat.lt_succ_of_lt (s.hd p q)
    · rw [List.mem_singleton.mp q]
      exact Nat.lt_succ_self _
  · rw [List.length_append]
    have := s.hl
    show h.length + 1 ≤ j + 1
    omega
  · obtain ⟨u, hu, rfl⟩ := List.mem_map.mp hr
    rw [(hf u (List.mem_append_right _ hu)).1]
    by_cases e : x = j
    · subst e
      exact clr_at hb1
    · rw [clr_nul (hb0 x (by omega))]
      exact s.nul u hu x (by omega)
  · rcases List.mem_append.mp hr with q | q
    · rcases List.mem_append.mp q with q | q
      · obtain ⟨u, hu, rfl⟩ := List.mem_map.mp q
        rw [(hf u (List.mem_append_left _ hu)).1]
        exact clr_span (L := []) hH1 (s.sp1 u (List.mem_append_left _ hu))
      · rw [List.mem_singleton.mp q]
        exact hH1
    · obtain ⟨u, hu, rfl⟩ := List.mem_map.mp q
      rw [(hf u (List.mem_append_right _ hu)).1]
      exact clr_span (L := []) hH1 (s.sp1 u (List.mem_append_right _ hu))
  · refine (s.sp2 r hr).trans fun v hv => ?_
    obtain ⟨u, hu, rfl⟩ := List.mem_map.mp hv
    have hHm : InS (((found.map (lclrF g j H) ++ [H]) ++ left.map (lclrF g j H)).map (er V)) (er V H) := InS.mem (List.mem_map.mpr ⟨H, List.mem_append_left _ (List.mem_append_right _ (List.mem_singleton.mpr rfl)), rfl⟩)
    refine clr_back (k := j) hHm ?_
    rw [← (hf u hu).1]
    refine InS.mem (List.mem_map.mpr ⟨lclrF g j H u, ?_, rfl⟩)
    rcases List.mem_append.mp hu with q | q
    · exact List.mem_append_left _ (List.mem_append_left _ (List.mem_map.mpr ⟨u, q, rfl⟩))
    · exact List.mem_append_right _ (List.mem_map.mpr ⟨u, q, rfl⟩)
theorem Lst.done {k n : Nat} {t found left : List (List (Int × Int))} {h : List Nat} (s : Lst V k n n t found left h) : LeastR V n k t found := by
  refine ⟨s.fr, ⟨h, s.rr, s.hd⟩, fun r hr => s.sp1 r (List.mem_append_left _ hr), fun r hr => ?_⟩
  have h1 := s.sp2 r hr
  rw [List.map_append] at h1
  refine ins_nought h1 fun u hu => ?_
  obtain ⟨v, hv, rfl⟩ := List.mem_map.mp hu
  funext x
  by_cases hx : x < n
  · exact s.nul v hv x hx
  · exact er_out (by rw [(s.lr v hv).1]; omega)
end
end Fm

namespace Fm
open Lean.Grind PySem L2 Fr Fd
/-! ### rows beside ones; nought rows -/
def besF (t : List (List (Int × Int))) : List (List (Int × Int)) := List.zipWith (· ++ ·) t (onesF t.length)
section
variable {g : Int} {F : Type} [CommRing F]
/-- rows that are least ones, of numbers below 2^k -/
def LeastS (V : GV g F) (n k : Nat) (T : List (List (Int × Int))) : Prop := (∀ r ∈ T, r.length = n ∧ ∀ a ∈ r, TN g k a) ∧ ∃ h, Rr (T.map (er V)) h ∧ ∀ p ∈ h, p < n
theorem LeastR.ls {V : GV g F} {n k : Nat} {t T : List (List (Int × Int))} (h : LeastR V n k t T) : LeastS V n k T := ⟨h.row, h.rr⟩
/-- the same, told by the numbers alone -/
structure LeastN (n : Nat) (T : List (List (Int × Int))) (h : List Nat) : Prop where
  len : T.length = h.length
  row : ∀ r ∈ T, r.length = n
  inc : ∀ (i k p q : Nat), h[i]? = some p → h[k]? = some q → i < k → p < q
  lt : ∀ p ∈ h, p < n
  one : ∀ (i : Nat) (a : List (Int × Int)) (p : Nat), T[i]? = some a → h[i]? = some p → ga a p = (1, 1)
  nul : ∀ (i k : Nat) (a : List (Int × Int)) (p : Nat), T[i]? = some a → h[k]? = some p → i ≠ k → ga a p = (0, 1)
  ahead : ∀ (i : Nat) (a : List (Int × Int)) (p j : Nat), T[i]? = some a → h[i]? = some p → j < p → ga a j = (0, 1)
variable {V : GV g F}
theorem ga_tn (hg : g = 0 ∨ Gr5 g) {n k : Nat} {r : List (Int × Int)} (hr : ∀ a ∈ r, TN g k a) (hk : 4 ≤ k) (j : Nat) : TN g k (ga r j) := by
  by_cases hj : j < r.length
  · rw [ga_at hj]
    exact hr _ (List.getElem_mem hj)
  · have : ga r j = (0, 1) := by
      unfold ga
      rw [List.getD_eq_getElem?_getD, List.getElem?_eq_none (by omega)]
      rfl
    rw [this]
    exact (tn_zero hg).mono hk
theorem LeastS.num (hg : g = 0 ∨ Gr5 g) {n k : Nat} {T : List (List (Int × Int))} (h : LeastS V n k T) (hk : 4 ≤ k) : ∃ h, LeastN n T h := by
  obtain ⟨hrow, h, R, hlt⟩ := h
  have look : ∀ (i : Nat) (a : List (Int × Int)), T[i]? = some a → (T.map (er V))[i]? = some (er V a) ∧ a ∈ T := fun i a e => ⟨by rw [List.getElem?_map, e]; rfl, List.mem_of_getElem? e⟩
  refine ⟨h, by have := R.len; rw [List.length_map] at this; exact this, fun r hr => (hrow r hr).1, R.inc, hlt, fun i a p ha hp => ?_, fun i q a p ha hp hne => ?_, fun i a p j ha hp hj => ?_⟩
  · obtain ⟨h1, h2⟩ := look i a ha
    refine V.inj hg (ga_tn hg (n := n) (hrow a h2).2 hk p) (tn_one hg) ?_
    rw [V.one]
    exact R.one i _ p h1 hp
  · obtain ⟨h1, h2⟩ := look i a ha
    refine V.inj hg (ga_tn hg (n := n) (hrow a h2).2 hk p) (tn_zero hg) ?_
    rw [V.zero]
    exact R.nul i q _ p h1 hp hne
  · obtain ⟨h1, h2⟩ := look i a ha
    refine V.inj hg (ga_tn hg (n := n) (hrow a h2).2 hk j) (tn_zero hg) ?_
    rw [V.zero]
    exact R.ahead i _ p j h1 hp hj
theorem ones_get {m i : Nat} (hi : i < m) : (onesF m)[i]? = some ((List.range m).map fun j => (if i = j then 1 else 0, 1)) := by
  unfold onesF
  rw [List.getElem?_map, List.getElem?_range hi]
  rfl
theorem ga_ones {m i x : Nat} (hx : x < m) : ga ((List.range m).map fun j => ((if i = j then 1 else 0 : Int), (1 : Int))) x = (if i = x then 1 else 0, 1) := by
  unfold ga
  rw [List.getD_eq_getElem?_getD, List.getElem?_map, List.getElem?_range hx]
  rfl
theorem er_ones {m i x : Nat} (hx : x < m) : er V ((List.range m).map fun j => ((if i = j then 1 else 0 : Int), (1 : Int))) x = if i = x then 1 else 0 := by
  rw [er_ga, ga_ones hx]
  split
  · exact V.one
  · exact V.zero
/-- a row's first n places -/
def rst (n : Nat) (u : Row F) : Row F := fun x => if x < n then u x else 0
end
end Fm

namespace Fm
open PySem PySem.Spec PyProof.Rows L2 Fd
/-! ### lists of whole numbers, lists of these -/
def IL (H : Hp) (v : V) (r : List Int) : Prop := ∃ p, v = .ref p ∧ H p = some (.lst (r.map V.int))
theorem IL.sm {H H' : Hp} {v : V} {r : List Int} (h : IL H v r) (s : Same H H') : IL H' v r := by
  obtain ⟨p, e, hp⟩ := h
  exact ⟨p, e, s _ _ hp⟩
def ILs (H : Hp) (v : V) (rows : List (List Int)) : Prop := ∃ p xs, v = .ref p ∧ H p = some (.lst xs) ∧ Acc IL H xs rows rows.length
theorem ILs.sm {H H' : Hp} {v : V} {rows : List (List Int)} (h : ILs H v rows) (s : Same H H') : ILs H' v rows := by
  obtain ⟨p, xs, e, hp, ha⟩ := h
  exact ⟨p, xs, e, s _ _ hp, ha.mono fun x a h => h.sm s⟩
def ILn (D : Addr) (H : Hp) (v : V) (r : List Int) : Prop := ∃ p, v = .ref p ∧ p ≠ D ∧ H p = some (.lst (r.map V.int))
theorem ILn.sm {D : Addr} {H H' : Hp} {v : V} {r : List Int} (h : ILn D H v r) (s : Same H H') : ILn D H' v r := by
  obtain ⟨p, e, hn, hp⟩ := h
  exact ⟨p, e, hn, s _ _ hp⟩
theorem ILn.upd {D : Addr} {H : Hp} {v : V} {r : List Int} {o : HO} (h : ILn D H v r) : ILn D (L2.upd H D o) v r := by
  obtain ⟨p, e, hn, hp⟩ := h
  exact ⟨p, e, hn, by rw [upd_ne hn]; exact hp⟩
theorem ILn.il {D : Addr} {H : Hp} {v : V} {r : List Int} (h : ILn D H v r) : IL H v r := by
  obtain ⟨p, e, hn, hp⟩ := h
  exact ⟨p, e, hp⟩
theorem cut_take (xs : List V) (k : Nat) : cutV xs none (some (k : Int)) = xs.take k := by
  unfold cutV
  rw [HT.sIx_nat, HT.sIx_none, List.drop_zero, Nat.sub_zero]
  by_cases h : k ≤ xs.length
  · rw [Nat.min_eq_left h]
  · rw [Nat.min_eq_right (by omega), List.take_length, List.take_of_length_le (by omega)]
theorem cut_drop (xs : List V) (k : Nat) : cutV xs (some (k : Int)) none = xs.drop k := by
  unfold cutV
  rw [HT.sIx_nat, HT.sIx_none]
  by_cases h : k ≤ xs.length
  · rw [Nat.min_eq_left h, List.take_of_length_le (by rw [List.length_drop]; exact Nat.le_refl _)]
  · rw [Nat.min_eq_right (by omega), List.drop_length, List.drop_of_length_le (by omega), List.take_nil]
theorem w_slL {K : PySem.W.Frag} {H : Hp} {Q : VK} {p : Addr} {xs : List V} {lo hi : Option Int} (h : H p = some (.lst xs)) (q : ∀ q' H', H q' = none → Same H H' → H' q' = some (.lst (cutV xs lo hi)) → Q (.ref q') H') : rSlL K (.ref p) lo hi H Q := ⟨p, xs, rfl, SqL.of h, fun l hl => q l _ hl (same_upd hl) upd_same⟩
def tTruth (K : PySem.W.Frag) (ta : TE) : TT := fun σ H Q => ta σ H fun x H' => ∃ k, TruV K x H' k ∧ Q k H'
theorem w_tru {K : PySem.W.Frag} {ta : TE} {σ : L2.St} {H : Hp} {Q : Bool → Hp → Prop} (h : ta σ H fun x H' => ∃ k, TruV K x H' k ∧ Q k H') : tTruth K ta σ H Q := h
theorem acc_take {α : Type} {P : Hp → V → α → Prop} {H : Hp} {xs : List V} {as : List α} {n k : Nat} (h : Acc P H xs as n) (hl : n = as.length) : Acc P H (xs.take k) (as.take k) (as.take k).length := by
  refine ⟨by rw [List.length_take, List.length_take, h.1, hl], fun j x a h1 h2 => ?_⟩
  rw [List.getElem?_take] at h1 h2
  by_cases e : j < k
  · rw [if_pos e] at h1 h2
    exact h.2 j x a h1 h2
  · rw [if_neg e] at h1
    cases h1
theorem acc_drop {α : Type} {P : Hp → V → α → Prop} {H : Hp} {xs : List V} {as : List α} {n k : Nat} (h : Acc P H xs as n) (hl : n = as.length) : Acc P H (xs.drop k) (as.drop k) (as.drop k).length := by
  refine ⟨by rw [List.length_drop, List.length_drop, h.1, hl], fun j x a h1 h2 => ?_⟩
  rw [List.getElem?_drop] at h1 h2
  exact h.2 _ x a h1 h2
theorem acc_cat {α : Type} {P : Hp → V → α → Prop} {H : Hp} {xs ys : List V} {as bs : List α} (h : Acc P H xs as as.length) (h2 : Acc P H ys bs bs.length) : Acc P H (xs ++ ys) (as ++ bs) (as ++ bs).length := by
  refine ⟨by rw [List.length_append, List.length_append, h.1, h2.1], fun j x a e1 e2 => ?_⟩
  by_cases e : j < as.length
  · rw [List.getElem?_append_left (by rw [h.1]; exact e)] at e1
    rw [List.getElem?_append_left e] at e2
    exact h.2 j x a e1 e2
  · rw [List.getElem?_append_right (by rw [h.1]; omega), h.1] at e1
    rw [List.getElem?_append_right (by omega)] at e2
    exact h2.2 _ x a e1 e2
theorem acc_one {α : Type} {P : Hp → V → α → Prop} {H : Hp} {v : V} {a : α} (h : P H v a) : Acc P H [v] [a] [a].length := ⟨rfl, fun j x b e1 e2 => by
  cases j with
  | zero => cases e1; cases e2; exact h
  | succ j => simp at e1⟩
theorem erase_cut {α : Type} (xs : List α) (k : Nat) : xs.take k ++ xs.drop (k + 1) = xs.eraseIdx k := (List.eraseIdx_eq_take_drop_succ ..).symm
theorem gt_int {r : List Int} {j : Nat} (hj : j < r.length) : atI (r.map V.int) (j : Int) = some (.int (gt r j)) := by
  refine atI_nat ?_
  rw [List.getElem?_map, List.getElem?_eq_getElem hj]
  unfold gt
  rw [List.getD_eq_getElem?_getD, List.getElem?_eq_getElem hj]
  rfl
end Fm
namespace Fm
open PySem PySem.Spec PyProof.Rows L2
theorem acc_imp {α : Type} {P P' : Hp → V → α → Prop} {H H' : Hp} {ys : List V} {as : List α} {i : Nat} (h : Acc P H ys as i) (f : ∀ x a, P H x a → P' H' x a) : Acc P' H' ys as i := ⟨h.1, fun j x a h1 h2 => f x a (h.2 j x a h1 h2)⟩
end Fm
namespace Fm
/-- what lowest wants -/
theorem lowP {g u d : Int} {k : Nat} (hg : g = 0 ∨ Gr5 g) (hd : d ≠ 0) (h1 : g ≠ 0 → d.fmod g ≠ 0) (hu : u.natAbs < 2 ^ k) (hb : d.natAbs < 2 ^ k) (hk : k ≤ 8500) : (g = 0 ∧ d ≠ 0 ∧ d.natAbs < 2 ^ 8500) ∨ (3 ≤ g ∧ u.natAbs < 2 ^ 50000 ∧ ∃ k : Int, 1 ≤ k ∧ k ≤ 13 ∧ (k * d).fmod g = 1) := by
  rcases hg with e | h5
  · exact .inl ⟨e, hd, Nat.lt_of_lt_of_le hb (Nat.pow_le_pow_right (by decide) hk)⟩
  · have g3 : 3 ≤ g := by unfold Gr5 at h5; omega
    exact .inr ⟨g3, Nat.lt_of_lt_of_le hu (Nat.pow_le_pow_right (by decide) (by omega)), inv_of h5 (h1 (by omega))⟩
end Fm
namespace Fm
open Lean.Grind Fr Fd
end Fm

namespace L2
open PySem PySem.Spec PyProof.Rows
def tLenSetI (K : PySem.W.Frag) (ta : TE) : TE := fun σ H Q => ta σ H fun x H1 => ∃ (l : Addr) (ns : List Int), x = .ref l ∧ SqL K H1 l (ns.map V.int) ∧ ns.Nodup ∧ ns.length ≤ 1000 ∧ Q (.int (ns.length : Int)) H1
section
variable {X : Cx}
/-- a method's call where the written part is told by K -/
theorem pe_bmK {K : PySem.W.Frag} {T : String} {name : Str} {id : String} {r : V → List V → Hp → VK → Prop} {o e : Expr} {es : List Expr} {to : TE} {t : TA} {apos cpos : Pos} (hK : X.K = K) (pa : PlainAttrs T) (slot : Slot T name id) (hty : typeOf (.builtin id) = pure (.type "method_descriptor")) (hm : MtR X id r) (ho : PE X o to) (ha : PA X (e :: es) t)
    (hbase : attributeBase o name X.env (eval o X.env) = eval o X.env := by rfl)
    (hfew : ((backTo cpos (starEach (e :: es) X.env)).all (fun x => !x.1) && (backToKw cpos (keywordEach [] X.env)).all (fun x => x.1.isSome)
      && decide ((e :: es).length + ([] : List Keyword).length + (if ([] : List Keyword).isEmpty then 0 else 1) < 30)) = true := by rfl)
    (hline : (apos.endLine == cpos.line) = true := by rfl) (hs : starEach (e :: es) X.env = (false, eval e X.env) :: starEach es X.env := by rfl) (hplain : (backTo cpos (starEach es X.env)).any (·.1) = false := by rfl) :
    PE X (.Call (.Attribute o name apos) (e :: es) [] cpos) (tBM K T r to t) := by
  subst hK
  exact pe_bm pa slot hty hm ho ha hbase hfew hline hs hplain
end
end L2
namespace Fm
open L2
theorem w_lenSetI {K : PySem.W.Frag} {ta : TE} {σ : L2.St} {H : Hp} {Q : VK} (h : ta σ H fun x H1 => ∃ (l : PySem.Addr) (ns : List Int), x = .ref l ∧ SqL K H1 l (ns.map V.int) ∧ ns.Nodup ∧ ns.length ≤ 1000 ∧ Q (.int (ns.length : Int)) H1) : tLenSetI K ta σ H Q := h
end Fm

namespace Fm
open Lean.Grind PySem PySem.Spec PyProof.Rows L2 Fr Fd
/-! ### words for the law of least rows -/
theorem w_eqTab {K : PySem.W.Frag} {H : Hp} {Q : VK} {v v' : V} {t t' : List (List (Int × Int))} (h1 : TabV H v t) (h2 : TabV H v' t') (e : t = t') (q : Q (.bl true) H) : rEqD K v v' H Q := by
  subst e
  have l := lay_row t
  have c : PyData.canLay0 (.tuple (t.map rowD)) = true := by rw [PyData.canLay0]; exact l.1
  have d : PyData.depth (.tuple (t.map rowD)) ≤ 64 := by rw [PyData.depth]; have := l.2; omega
  refine ⟨_, _, TabV.dp h1, TabV.dp h2, shaped_of c d, shaped_of c d, ?_⟩
  rw [SeqAt.eqv_refl _ c]
  exact q
theorem w_catX {K : PySem.W.Frag} {H : Hp} {Q : VK} {p r : Addr} {xs ys : List V} (hp : H p = some (.tup xs)) (hr : H r = some (.tup ys)) (hz : xs.length + ys.length ≤ 1000) (q : ∀ q' H', Same H H' → H' q' = some (.tup (xs ++ ys)) → Q (.ref q') H') : rCatA K (.ref p) (.ref r) H Q :=
  ⟨p, r, xs, ys, rfl, rfl, SqT.of hp, SqT.of hr, Nat.le_of_lt (small1000 hz), fun e => q r H (Same.refl H) (by rw [e]; exact hr), fun _ e => q p H (Same.refl H) (by rw [e, List.append_nil]; exact hp), fun _ _ l hl => q l _ (same_upd hl) upd_same⟩
theorem w_slX {K : PySem.W.Frag} {H : Hp} {Q : VK} {p : Addr} {xs : List V} {lo hi : Option Int} (hp : H p = some (.tup xs)) (q : ∀ q' H', Same H H' → H' q' = some (.tup (cutV xs lo hi)) → Q (.ref q') H') : rSlA K (.ref p) lo hi H Q :=
  ⟨p, xs, rfl, SqT.of hp, fun e => q p H (Same.refl H) (by
    have : cutV xs lo hi = xs := by
      unfold cutV
      rw [e.1, e.2, List.drop_zero, Nat.sub_zero, List.take_length]
    rw [this]
    exact hp), fun _ l hl => q l _ (same_upd hl) upd_same⟩
theorem sqv_acc {α : Type} {P : Hp → V → α → Prop} {H : Hp} {v : V} {as : List α} (h : SqV P H v as) : ∃ p xs, v = .ref p ∧ H p = some (.tup xs) ∧ xs.length = as.length ∧ Acc P H xs as as.length := by
  obtain ⟨p, xs, e, hp, hl, hx⟩ := h
  exact ⟨p, xs, e, hp, hl, hl, hx⟩
theorem acc_sqv {α : Type} {P : Hp → V → α → Prop} {H : Hp} {p : Addr} {xs : List V} {as : List α} (hp : H p = some (.tup xs)) (h : Acc P H xs as as.length) : SqV P H (.ref p) as := ⟨p, xs, rfl, hp, h.1, h.2⟩
def nghtR (r : List (Int × Int)) : Bool := r.all fun a => decide (a.1 = 0)
theorem e_zero {g : Int} {F : Type} [CommRing F] {V : GV g F} (hg : g = 0 ∨ Gr5 g) {k : Nat} {a : Int × Int} (h : TN g k a) : V.e a = 0 ↔ a.1 = 0 := by
  obtain ⟨e1, n1⟩ := V.tn hg h
  constructor
  · intro z
    have : a = (0, 1) := V.inj hg h (tn_zero hg) (by rw [z, V.zero])
    rw [this]
  · intro z
    rw [z, V.i0] at e1
    refine V.dom (x := V.i a.2) ?_ n1
    rw [← e1]
    grind
/-! drawn numbers -/
def AA : Nat := 82575360
theorem w_enum {K : PySem.W.Frag} {ta : TA} {σ : L2.St} {H : Hp} {R : It → Hp → Prop} (h : ta σ H fun vs H1 => ∃ a xs, vs = [.ref a] ∧ SqL K H1 a xs ∧ R (Ite K a) H1) : iEnum K ta σ H R := h

theorem numV_one {H : Hp} {v : V} {a c : Int × Int} (h1 : NumV H v a) (h2 : NumV H v c) : a = c := by
  obtain ⟨p, rfl, hp⟩ := h1
  obtain ⟨p', e, hp'⟩ := h2
  cases e
  have e := HO.tup.inj (Option.some.inj (hp.symm.trans hp'))
  have e1 : V.int a.1 = V.int c.1 := (List.cons.inj e).1
  have e2 : V.int a.2 = V.int c.2 := (List.cons.inj (List.cons.inj e).2).1
  exact Prod.ext (V.int.inj e1) (V.int.inj e2)
theorem rowV_uniq {H : Hp} {v : V} {r s : List (Int × Int)} (h1 : RowV H v r) (h2 : RowV H v s) : r = s := by
  obtain ⟨p, xs, rfl, hp, hl, hx⟩ := h1
  obtain ⟨p', xs', e, hp', hl', hx'⟩ := h2
  cases e
  cases HO.tup.inj (Option.some.inj (hp.symm.trans hp'))
  refine List.ext_getElem (by omega) fun i i1 i2 => ?_
  have gx : xs[i]? = some (xs[i]'(by omega)) := List.getElem?_eq_getElem _
  exact numV_one (hx i _ _ gx (List.getElem?_eq_getElem i1)) (hx' i _ _ gx (List.getElem?_eq_getElem i2))
end Fm

namespace L2
open PySem PySem.Spec PyProof.Rows
/-- n *= e -/
theorem ip_mulW {X : Cx} : PIp X .Mult (fun x y H Q => ∃ i j, x = .int i ∧ y = .int j ∧ CMulW i j ∧ Q (.int (i * j)) H) := by
  intro pins s σ H x y v u Q I r1 r2 h
  obtain ⟨i, j, e1, e2, hc, q⟩ := h
  subst e1; subst e2
  obtain ⟨t, rfl⟩ := r1
  obtain ⟨t', rfl⟩ := r2
  exact imul_int ⟨.int _, H, I.tok _, ⟨_, rfl⟩, q⟩ hc.ok
end L2
namespace Fr
open Lean.Grind
variable {F : Type} [CommRing F]
end Fr
namespace Fm
open Lean.Grind PySem L2 Fr Fd
variable {g : Int} {F : Type} [CommRing F] {V : GV g F}
theorem i_SF (f : Nat → Int) : ∀ n, V.i (S f n) = SF (fun k => V.i (f k)) n
  | 0 => V.i0
  | n + 1 => by
    show V.i (S f n + f n) = SF (fun k => V.i (f k)) n + V.i (f n)
    rw [V.iadd, i_SF f n]
theorem i_sg (k : Nat) : V.i (sg k) = sF k := by
  unfold sg sF
  split
  · exact V.i1
  · rw [V.ineg, V.i1]
/-- whole determinants in the field -/
theorem dt_fr : ∀ (cs : List Nat) (P : List (List Int)), V.i (dt P cs) = dC (P.map (fr V)) cs
  | [], _ => V.i1
  | c :: cs, P => by
    show V.i (S (fun i => sg i * ent P i c * dt (P.eraseIdx i) cs) P.length) = SF (fun i => sF i * ((P.map (fr V)).getD i zr) c * dC ((P.map (fr V)).eraseIdx i) cs) (P.map (fr V)).length
    rw [i_SF, List.length_map]
    refine SF_congr fun i hi => ?_
    have e1 : (P.eraseIdx i).map (fr V) = (P.map (fr V)).eraseIdx i := by rw [List.eraseIdx_eq_take_drop_succ, List.eraseIdx_eq_take_drop_succ, List.map_append, List.map_take, List.map_drop]
    have q1 : P.getD i [] = P[i] := by rw [List.getD_eq_getElem?_getD, List.getElem?_eq_getElem hi]; rfl
    have q2 : (P.map (fr V)).getD i zr = fr V P[i] := by rw [List.getD_eq_getElem?_getD, List.getElem?_map, List.getElem?_eq_getElem hi]; rfl
    have e2 : V.i (ent P i c) = ((P.map (fr V)).getD i zr) c := by
      unfold ent
      rw [q1, q2]
      rfl
    rw [V.imul, V.imul, i_sg, e2, dt_fr cs (P.eraseIdx i), e1]
/-- the bottoms of rows, one after another -/
def prB (t : List (List (Int × Int))) : Int := t.foldl (fun b r => b * wrB r) 1
theorem prB_go : ∀ (t : List (List (Int × Int))) (b : Int), t.foldl (fun b r => b * wrB r) b = b * prB t
  | [], b => (Int.mul_one b).symm
  | r :: t, b => by
    show t.foldl (fun b r => b * wrB r) (b * wrB r) = b * t.foldl (fun b r => b * wrB r) (1 * wrB r)
    rw [prB_go t (b * wrB r), prB_go t (1 * wrB r)]
    grind
theorem prB_cons (r : List (Int × Int)) (t : List (List (Int × Int))) : prB (r :: t) = wrB r * prB t := by
  show t.foldl (fun b r => b * wrB r) (1 * wrB r) = _
  rw [prB_go]
  grind
theorem prB_take {t : List (List (Int × Int))} {i : Nat} {r : List (Int × Int)} (h : t[i]? = some r) : prB (t.take (i + 1)) = prB (t.take i) * wrB r := by
  unfold prB
  rw [List.take_add_one, h, Option.toList_some, List.foldl_append]
  rfl
theorem prB_ne {t : List (List (Int × Int))} (h : ∀ r ∈ t, ∀ a ∈ r, 0 < a.2) : 0 < prB t := by
  induction t with
  | nil => decide
  | cons r t ih =>
    rw [prB_cons]
    exact Int.mul_pos (wrB_spec (h r List.mem_cons_self)).1 (ih fun s hs => h s (List.mem_cons_of_mem _ hs))
theorem prB_le {A : Nat} {t : List (List (Int × Int))} (h : ∀ r ∈ t, (wrB r).natAbs ≤ A) : (prB t).natAbs ≤ A ^ t.length := by
  induction t with
  | nil => exact Nat.le_refl 1
  | cons r t ih =>
    rw [prB_cons, Int.natAbs_mul, List.length_cons, Nat.pow_succ, Nat.mul_comm (A ^ t.length)]
    exact Nat.mul_le_mul (h r List.mem_cons_self) (ih fun s hs => h s (List.mem_cons_of_mem _ hs))
/-- the determinant of a table by its rows as whole numbers -/
theorem dt_wr (hg : g = 0 ∨ Gr5 g) {k n : Nat} {t : List (List (Int × Int))} (hl : t.length = n) (ht : ∀ r ∈ t, ∀ a ∈ r, TN g k a) : V.i (dt (t.map wrT) (List.range n)) = V.i (prB t) * dC (t.map (er V)) (List.range n) ∧ V.i (prB t) ≠ 0 := by
  have h1 : dC ((t.map wrT).map (fr V)) (List.range n) = V.i (prB t) * dC (t.map (er V)) (List.range n) := by
    have key : ∀ (t : List (List (Int × Int))) (pre : List (Row F)), (∀ r ∈ t, ∀ a ∈ r, TN g k a) → pre.length + t.length = n → dC (pre ++ (t.map wrT).map (fr V)) (List.range n) = V.i (prB t) * dC (pre ++ t.map (er V)) (List.range n) := fun t => by
      induction t with
      | nil =>
        intro pre _ _
        show dC (pre ++ []) _ = V.i 1 * dC (pre ++ []) _
        rw [V.i1]
        grind
      | cons r t ih =>
        intro pre ht hl
        rw [List.length_cons] at hl
        have e := (wr_fr (V := V) hg (ht r List.mem_cons_self)).2
        have er' : fr V (wrT r) = fun j => V.i (wrB r) * er V r j := funext e
        have a := dC_alt (List.range n) (F := F)
        have h2 := a.mul pre (V.i (wrB r)) (er V r) ((t.map wrT).map (fr V)) (by rw [List.length_map, List.length_map, List.length_range]; omega)
        have h3 := ih (pre ++ [er V r]) (fun s hs => ht s (List.mem_cons_of_mem _ hs)) (by rw [List.length_append]; show pre.length + 1 + t.length = n; omega)
        simp only [List.append_assoc, List.singleton_append] at h3
        show dC (pre ++ fr V (wrT r) :: (t.map wrT).map (fr V)) _ = V.i (prB (r :: t)) * dC (pre ++ er V r :: t.map (er V)) _
        rw [er', prB_cons, V.imul]
        rw [h2, h3]
        grind
    exact key t [] ht (by rw [List.length_nil]; omega)
  refine ⟨by rw [dt_fr, h1], ?_⟩
  clear h1 hl
  induction t with
  | nil =>
    show V.i 1 ≠ 0
    rw [V.i1]
    exact V.ne
  | cons r t ih =>
    rw [prB_cons, V.imul]
    exact fun z => ih (fun s hs => ht s (List.mem_cons_of_mem _ hs)) (V.dom z (wr_fr (V := V) hg (ht r List.mem_cons_self)).1)
end Fm

namespace Fm
open Lean.Grind PySem L2 Fr Fd
/-! ### how great fractions are: by one bottom for all -/
/-- the fraction a is a whole number, no greater than M, over D -/
def Zd (D : Int) (M : Nat) (a : Int × Int) : Prop := ∃ z : Int, gvQ.e a * gvQ.i D = gvQ.i z ∧ z.natAbs ≤ M
/-- a number of the ground, of that size -/
def TZ (g D : Int) (M : Nat) (a : Int × Int) : Prop := (∃ l, 4 ≤ l ∧ TN g l a) ∧ (g = 0 → Zd D M a)
def PBe (a : Int × Int) : Prop := a.1.natAbs < 2 ^ 3900 ∧ a.2.natAbs < 2 ^ 3900 ∧ a.2 ≠ 0
theorem TN.be {g : Int} {k : Nat} {a : Int × Int} (h : TN g k a) (hk : k ≤ 3900) : PBe a := ⟨(h.mono hk).2.1, (h.mono hk).2.2, by have := h.pos; omega⟩
theorem TZ.tn {g D : Int} {M k : Nat} {a : Int × Int} (hg : g = 0 ∨ Gr5 g) (h : TZ g D M a) (hk : 4 ≤ k) (h0 : D ≠ 0) (hD : D.natAbs < 2 ^ k) (hM : M < 2 ^ k) : TN g k a := by
  obtain ⟨⟨l, _, hl⟩, hz⟩ := h
  refine tn_small hg hl hk fun e => ?_
  obtain ⟨z, ez, hzM⟩ := hz e
  subst e
  obtain ⟨b1, b2⟩ := tn_by (V := gvQ) (.inl rfl) rfl hl h0 ez
  omega
theorem TZ.mono {g D : Int} {M N : Nat} {a : Int × Int} (h : TZ g D M a) (hN : M ≤ N) : TZ g D N a := ⟨h.1, fun e => by
  obtain ⟨z, ez, hz⟩ := h.2 e
  exact ⟨z, ez, Nat.le_trans hz hN⟩⟩
theorem TZ.wide {g D : Int} {M : Nat} {a : Int × Int} (h : TZ g D M a) (c : Int) : TZ g (D * c) (M * c.natAbs) a := ⟨h.1, fun e => by
  obtain ⟨z, ez, hz⟩ := h.2 e
  refine ⟨z * c, ?_, by rw [Int.natAbs_mul]; exact Nat.mul_le_mul_right _ hz⟩
  rw [gvQ.imul, gvQ.imul, ← ez]
  grind⟩
theorem TZ.plus {g D : Int} {M N : Nat} {a c : Int × Int} (hg : g = 0 ∨ Gr5 g) (ha : TZ g D M a) (hc : TZ g D N c) : TZ g D (M + N) (plusF g a c) := by
  obtain ⟨⟨l, h4, hl⟩, hz⟩ := ha
  obtain ⟨⟨m, h5, hm⟩, hw⟩ := hc
  refine ⟨⟨_, by omega, tn_plus hg hl hm h4⟩, fun e => ?_⟩
  subst e
  obtain ⟨z, ez, hzM⟩ := hz rfl
  obtain ⟨y, ey, hyN⟩ := hw rfl
  refine ⟨z + y, ?_, by omega⟩
  rw [gvQ.plus (.inl rfl) hl hm, gvQ.iadd, ← ez, ← ey]
  grind
theorem TZ.times {g D D' : Int} {M N : Nat} {a c : Int × Int} (hg : g = 0 ∨ Gr5 g) (ha : TZ g D M a) (hc : TZ g D' N c) : TZ g (D * D') (M * N) (timesF g a c) := by
  obtain ⟨⟨l, h4, hl⟩, hz⟩ := ha
  obtain ⟨⟨m, h5, hm⟩, hw⟩ := hc
  refine ⟨⟨_, by omega, tn_times hg hl hm h4⟩, fun e => ?_⟩
  subst e
  obtain ⟨z, ez, hzM⟩ := hz rfl
  obtain ⟨y, ey, hyN⟩ := hw rfl
  refine ⟨z * y, ?_, by rw [Int.natAbs_mul]; exact Nat.mul_le_mul hzM hyN⟩
  rw [gvQ.times (.inl rfl) hl hm, gvQ.imul, gvQ.imul, ← ez, ← ey]
  grind
theorem TZ.minus {g D : Int} {M : Nat} {a : Int × Int} (hg : g = 0 ∨ Gr5 g) (ha : TZ g D M a) : TZ g D M (minusF g a) := by
  obtain ⟨⟨l, h4, hl⟩, hz⟩ := ha
  refine ⟨⟨_, h4, tn_minus hg hl h4⟩, fun e => ?_⟩
  subst e
  obtain ⟨z, ez, hzM⟩ := hz rfl
  refine ⟨-z, ?_, by omega⟩
  rw [gvQ.minus (.inl rfl) hl, gvQ.ineg, ← ez]
  grind
theorem TZ.zero {g : Int} (hg : g = 0 ∨ Gr5 g) (D : Int) (M : Nat) : TZ g D M (0, 1) := ⟨⟨4, Nat.le_refl _, tn_zero hg⟩, fun e => ⟨0, by rw [gvQ.zero, gvQ.i0]; grind, Nat.zero_le _⟩⟩
theorem TZ.one {g : Int} (hg : g = 0 ∨ Gr5 g) : TZ g 1 1 (1, 1) := ⟨⟨4, Nat.le_refl _, tn_one hg⟩, fun e => ⟨1, by rw [gvQ.one, gvQ.i1]; grind, by decide⟩⟩
/-- by a number's own bottom -/
theorem TZ.of {g : Int} {k : Nat} {a : Int × Int} (hg : g = 0 ∨ Gr5 g) (h : TN g k a) (hk : 4 ≤ k) : TZ g a.2 a.1.natAbs a := ⟨⟨k, hk, h⟩, fun e => by
  subst e
  exact ⟨a.1, (gvQ.tn (.inl rfl) h).1, Nat.le_refl _⟩⟩
/-- by any whole number that the bottom divides -/
theorem TZ.dvd {g D : Int} {k M : Nat} {a : Int × Int} (hg : g = 0 ∨ Gr5 g) (h : TN g k a) (hk : 4 ≤ k) (hd : a.2 ∣ D) (hM : a.1.natAbs * (D / a.2).natAbs ≤ M) : TZ g D M a := by
  obtain ⟨c, hc⟩ := hd
  have hp := h.pos
  have e : D / a.2 = c := by rw [hc]; exact Int.mul_ediv_cancel_left _ (by omega)
  rw [e] at hM
  rw [hc]
  exact ((TZ.of hg h hk).wide c).mono hM
/-- one over a number that isn't nought -/
theorem TZ.over {g D : Int} {M : Nat} {a c : Int × Int} {Dc : Int} {N : Nat} (hg : g = 0 ∨ Gr5 g) (ha : TZ g D M a) (hc : TZ g Dc N c) (h0 : c.1 ≠ 0) (hD0 : Dc ≠ 0) : ∃ z : Int, z ≠ 0 ∧ z.natAbs ≤ max N 1 ∧ TZ g (D * z) (M * Dc.natAbs) (ovrF g a c) := by
  obtain ⟨⟨l, h4, hl⟩, hz⟩ := ha
  obtain ⟨⟨m, h5, hm⟩, hw⟩ := hc
  have ht : ∃ l, 4 ≤ l ∧ TN g l (ovrF g a c) := ⟨_, by omega, tn_ovr hg hl hm h4 h0⟩
  by_cases e : g = 0
  · subst e
    obtain ⟨z, ez, hzM⟩ := hz rfl
    obtain ⟨y, ey, hyN⟩ := hw rfl
    have hec : gvQ.e c ≠ 0 := fun q => h0 ((e_zero (V := gvQ) (.inl rfl) hm).mp q)
    have hiD : gvQ.i Dc ≠ 0 := gvQ.ine hD0 fun q => absurd rfl q
    have y0 : y ≠ 0 := fun q => by
      rw [q, gvQ.i0] at ey
      exact hiD (gvQ.dom ey hec)
    refine ⟨y, y0, by omega, ht, fun _ => ⟨z * Dc, ?_, by rw [Int.natAbs_mul]; exact Nat.mul_le_mul_right _ hzM⟩⟩
    have ho := gvQ.over (.inl rfl) hl hm h0
    refine gvQ.cancel (z := gvQ.e c) ?_ hec
    rw [gvQ.imul, gvQ.imul, ← ez, ← ey]
    have ho' : gvQ.e (ovrF 0 a c) * gvQ.e c = gvQ.e a := ho
    grind
  · exact ⟨1, by decide, by show 1 ≤ max N 1; omega, ht, fun q => absurd q e⟩
/-- rows of such numbers -/
def RZ (g D : Int) (M n : Nat) (r : List (Int × Int)) : Prop := r.length = n ∧ ∀ a ∈ r, TZ g D M a
theorem rz_plus {g D : Int} {M N n : Nat} {r s : List (Int × Int)} (hg : g = 0 ∨ Gr5 g) (hr : RZ g D M n r) (hs : RZ g D N n s) : RZ g D (M + N) n (List.zipWith (plusF g) r s) := by
  refine ⟨by rw [List.length_zipWith, hr.1, hs.1]; omega, fun a ha => ?_⟩
  obtain ⟨x, hx, rfl⟩ := List.mem_iff_getElem.mp ha
  rw [List.length_zipWith] at hx
  rw [List.getElem_zipWith]
  exact (hr.2 _ (List.getElem_mem _)).plus hg (hs.2 _ (List.getElem_mem _))
theorem rz_times {g D D' : Int} {M N n : Nat} {r : List (Int × Int)} {c : Int × Int} (hg : g = 0 ∨ Gr5 g) (hr : RZ g D M n r) (hc : TZ g D' N c) : RZ g (D * D') (M * N) n (r.map fun a => timesF g a c) := by
  refine ⟨by rw [List.length_map, hr.1], fun a ha => ?_⟩
  obtain ⟨x, hx, rfl⟩ := List.mem_map.mp ha
  exact (hr.2 x hx).times hg hc
theorem rz_zero {g D : Int} {M n : Nat} (hg : g = 0 ∨ Gr5 g) : RZ g D M n (List.replicate n (0, 1)) := ⟨List.length_replicate, fun a ha => by rw [List.eq_of_mem_replicate ha]; exact TZ.zero hg D M⟩
theorem RZ.be {g D : Int} {M n k : Nat} {r : List (Int × Int)} (hg : g = 0 ∨ Gr5 g) (h : RZ g D M n r) (hk : 4 ≤ k) (hk2 : k ≤ 3900) (h0 : D ≠ 0) (hD : D.natAbs < 2 ^ k) (hM : M < 2 ^ k) : ∀ a ∈ r, PBe a := fun a ha => ((h.2 a ha).tn hg hk h0 hD hM).be hk2
section
variable {g : Int} {F : Type} [CommRing F] {V : GV g F}
theorem er_plus (hg : g = 0 ∨ Gr5 g) {D D' : Int} {M N n : Nat} {r s : List (Int × Int)} (hr : RZ g D M n r) (hs : RZ g D' N n s) : er V (List.zipWith (plusF g) r s) = fun j => er V r j + er V s j := funext fun j => by
  by_cases hj : j < n
  · have h1 : j < r.length := by rw [hr.1]; exact hj
    have h2 : j < s.length := by rw [hs.1]; exact hj
    obtain ⟨⟨l, _, hl⟩, _⟩ := hr.2 _ (List.getElem_mem h1)
    obtain ⟨⟨m, _, hm⟩, _⟩ := hs.2 _ (List.getElem_mem h2)
    rw [er_at (show j < (List.zipWith (plusF g) r s).length by rw [List.length_zipWith]; omega), List.getElem_zipWith, V.plus hg hl hm, er_at h1, er_at h2]
  · rw [er_out (show (List.zipWith (plusF g) r s).length ≤ j by rw [List.length_zipWith, hr.1]; omega), er_out (show r.length ≤ j by rw [hr.1]; omega), er_out (show s.length ≤ j by rw [hs.1]; omega)]
    grind
theorem er_times (hg : g = 0 ∨ Gr5 g) {D D' : Int} {M N n : Nat} {r : List (Int × Int)} {c : Int × Int} (hr : RZ g D M n r) (hc : TZ g D' N c) : er V (r.map fun a => timesF g a c) = fun j => V.e c * er V r j := funext fun j => by
  obtain ⟨⟨m, _, hm⟩, _⟩ := hc
  by_cases hj : j < n
  · have h1 : j < r.length := by rw [hr.1]; exact hj
    obtain ⟨⟨l, _, hl⟩, _⟩ := hr.2 _ (List.getElem_mem h1)
    rw [er_at (show j < (r.map fun a => timesF g a c).length by rw [List.length_map]; exact h1), List.getElem_map, V.times hg hl hm, er_at h1]
    grind
  · rw [er_out (show (r.map fun a => timesF g a c).length ≤ j by rw [List.length_map, hr.1]; omega), er_out (show r.length ≤ j by rw [hr.1]; omega)]
    grind
theorem er_zeros (n : Nat) : er V (List.replicate n (0, 1)) = fun _ => 0 := funext fun j => by
  have e : ga (List.replicate n ((0 : Int), (1 : Int))) j = (0, 1) := by
    by_cases hj : j < n
    · rw [ga_at (by rw [List.length_replicate]; exact hj), List.getElem_replicate]
    · unfold ga
      rw [List.getD_eq_getElem?_getD, List.getElem?_eq_none (by rw [List.length_replicate]; omega)]
      rfl
  rw [er_ga, e, V.zero]
end
end Fm

namespace PySem
open Sem (wp)
open AutoSeq1 (wpAny_loadPart')
section
variable {prog : Program} {w : World} {A : Around} {E : Value → Shared → Prop} {s : Shared}
end
end PySem
namespace L2
open PySem PySem.Spec PyProof.Rows
def IteT (K : PySem.W.Frag) (a : Addr) : It :=
  ⟨fun i H => ∃ (xs : List V) (x : V), SqT K H a xs ∧ xs[i]? = some x, fun i H v H' => ∃ T x, v = .ref T ∧ H T = none ∧ H' = upd H T (.tup [.int (i : Nat), x]) ∧ ∀ xs, SqT K H a xs → xs[i]? = some x, fun i H => ∃ xs : List V, SqT K H a xs ∧ xs.length = i⟩
def iEnumT (K : PySem.W.Frag) (ta : TA) : TI := fun σ H R => ta σ H fun vs H1 => ∃ a xs, vs = [.ref a] ∧ SqT K H1 a xs ∧ R (IteT K a) H1
end L2

namespace Fr
open Lean.Grind
variable {F : Type} [CommRing F]
theorem SF_comm (f : Nat → Nat → F) (m : Nat) : ∀ (n : Nat), SF (fun i => SF (fun j => f i j) m) n = SF (fun j => SF (fun i => f i j) n) m
  | 0 => (SF_zero m).symm
  | n + 1 => by
    show SF (fun i => SF (fun j => f i j) m) n + SF (fun j => f n j) m = SF (fun j => SF (fun i => f i j) n + f n j) m
    rw [SF_comm f m n, ← SF_add]
theorem Alt.clear2 {m : Nat} {f : List (Row F) → F} (a : Alt m f) {u r : Row F} {k : F} {pre post : List (Row F)} (hu : u ∈ post) (h : pre.length + post.length + 1 = m) : f (pre ++ (fun j => r j + k * u j) :: post) = f (pre ++ r :: post) := by
  rw [a.add pre r (fun j => k * u j) post h, a.mul pre k u post h]
  obtain ⟨p1, p2, rfl⟩ := List.append_of_mem hu
  rw [List.length_append, List.length_cons] at h
  rw [a.twice (u := u) pre p1 p2 (by omega)]
  grind
/-- one at a place alone -/
theorem SF_one {n i : Nat} (hi : i < n) (f : Nat → F) (hz : ∀ k, k < n → k ≠ i → f k = 0) : SF f n = f i := by
  have hs := SF_split f i (n - i - 1)
  rw [show i + 1 + (n - i - 1) = n by omega] at hs
  rw [hs, SF_nul (f := f) (n := i) fun k hk => hz k (by omega) (by omega), SF_nul (f := fun k => f (i + 1 + k)) fun k hk => hz _ (by omega) (by omega)]
  grind
theorem thr_unit {B : List (Row F)} {i : Nat} (hi : i < B.length) : thr B (unit i) = B.getD i zr := by
  funext j
  show SF (fun k => unit i k * (B.getD k zr) j) B.length = _
  rw [SF_one hi _ fun k _ hk => by
    unfold unit
    rw [if_neg hk]
    grind]
  unfold unit
  rw [if_pos rfl]
  grind
theorem thr_add (B : List (Row F)) (u v : Row F) : thr B (fun j => u j + v j) = fun j => thr B u j + thr B v j := funext fun j => by
  show SF (fun i => (u i + v i) * (B.getD i zr) j) B.length = SF (fun i => u i * (B.getD i zr) j) B.length + SF (fun i => v i * (B.getD i zr) j) B.length
  rw [← SF_add]
  exact SF_congr fun i _ => by grind
theorem thr_mul (B : List (Row F)) (c : F) (u : Row F) : thr B (fun j => c * u j) = fun j => c * thr B u j := funext fun j => by
  show SF (fun i => c * u i * (B.getD i zr) j) B.length = c * SF (fun i => u i * (B.getD i zr) j) B.length
  rw [← SF_mul]
  exact SF_congr fun i _ => by grind
/-- the product of two rows by a table -/
def bil (T : List (Row F)) (m : Nat) (u v : Row F) : F := SF (fun j => thr T u j * v j) m
def SymF (T : List (Row F)) (m : Nat) : Prop := ∀ i j, i < m → j < m → (T.getD i zr) j = (T.getD j zr) i
theorem getD_map {α : Type} {f : α → Row F} {t : List α} {i : Nat} {a : α} (h : t[i]? = some a) : (t.map f).getD i zr = f a := by
  rw [List.getD_eq_getElem?_getD, List.getElem?_map, h]
  rfl
theorem getD_thr {A B : List (Row F)} {i : Nat} (hi : i < A.length) : (A.map (thr B)).getD i zr = thr B (A.getD i zr) := by
  rw [List.getD_eq_getElem?_getD, List.getD_eq_getElem?_getD, List.getElem?_map, List.getElem?_eq_getElem hi]
  rfl
/-- by other letters: still the same turned -/
theorem sym_step {P T Q : List (Row F)} {m : Nat} (hP : P.length = m) (hT : T.length = m) (hQ : Q.length = m) (hs : SymF T m) (hPQ : ∀ i j, i < m → j < m → (Q.getD j zr) i = (P.getD i zr) j) : SymF ((P.map (thr T)).map (thr Q)) m := fun i j hi hj => by
  have key : ∀ i j, i < m → j < m → (((P.map (thr T)).map (thr Q)).getD i zr) j = SF (fun b => SF (fun a => (P.getD i zr) a * (T.getD a zr) b * (P.getD j zr) b) m) m := fun i j hi hj => by
    rw [getD_thr (by rw [List.length_map]; omega), getD_thr (by omega)]
    show SF (fun b => SF (fun a => (P.getD i zr) a * (T.getD a zr) b) T.length * (Q.getD b zr) j) Q.length = _
    rw [hQ, hT]
    refine SF_congr fun b hb => ?_
    rw [hPQ j b hj hb]
    have : SF (fun a => (P.getD i zr) a * (T.getD a zr) b) m * (P.getD j zr) b = (P.getD j zr) b * SF (fun a => (P.getD i zr) a * (T.getD a zr) b) m := by grind
    rw [this, ← SF_mul]
    exact SF_congr fun a _ => by grind
  rw [key i j hi hj, key j i hj hi, SF_comm]
  refine SF_congr fun a ha => SF_congr fun b hb => ?_
  rw [hs a b ha hb]
  grind
theorem det_step {P T Q : List (Row F)} {m : Nat} (hP : P.length = m) (hT : T.length = m) (hQ : Q.length = m) (hPQ : ∀ i j, i < m → j < m → (Q.getD j zr) i = (P.getD i zr) j) : dC ((P.map (thr T)).map (thr Q)) (List.range m) = dC P (List.range m) * dC T (List.range m) * dC P (List.range m) := by
  have hlr : (List.range m).length = m := List.length_range
  rw [dC_mul (n := m) (by rw [List.length_map]; exact hP) hQ hlr, dC_mul (n := m) hP hT hlr]
  have e : dC Q (List.range m) = dC P (List.range m) := by
    rw [dC_dR (rs := P) (by rw [hlr]; exact hP) List.nodup_range]
    refine (dR_turn P (List.range m) Q (List.range m) (by rw [hlr]; exact hQ) (by rw [hlr]; exact hP.symm) fun i k a c r t hr ha hc ht => ?_).symm
    have hi := (List.getElem?_eq_some_iff.mp ha).1
    have hk := (List.getElem?_eq_some_iff.mp hc).1
    rw [hlr] at hi hk
    rw [List.getElem?_range hi] at ha
    rw [List.getElem?_range hk] at hc
    cases Option.some.inj ha
    cases Option.some.inj hc
    have := hPQ i k hi hk
    rw [List.getD_eq_getElem?_getD, List.getD_eq_getElem?_getD, hr, ht] at this
    exact this.symm
  rw [e]
/-- ones with one number more -/
theorem det_elem {m i j : Nat} (hi : i < m) (hj : j < m) (hij : i ≠ j) (x : F) : dC (((List.range m).map unit).set i (fun c => unit i c + x * unit j c)) (List.range m) = 1 := by
  have hlr : (List.range m).length = m := List.length_range
  have hl : i < ((List.range m).map (unit (F := F))).length := by rw [List.length_map, hlr]; exact hi
  obtain ⟨e1, _⟩ := erase_parts (cs := (List.range m).map (unit (F := F))) (d := zr) hl
  have eg : ((List.range m).map (unit (F := F))).getD i zr = unit i := getD_map (List.getElem?_range hi)
  rw [eg] at e1
  have es : ((List.range m).map (unit (F := F))).set i (fun c => unit i c + x * unit j c) = ((List.range m).map (unit (F := F))).take i ++ (fun c => unit i c + x * unit j c) :: ((List.range m).map (unit (F := F))).drop (i + 1) := by
    rw [List.set_eq_take_append_cons_drop, if_pos hl]
  have a := dC_alt (List.range m) (F := F)
  have hlen : (((List.range m).map (unit (F := F))).take i).length + (((List.range m).map (unit (F := F))).drop (i + 1)).length + 1 = (List.range m).length := by
    rw [List.length_take, List.length_drop, List.length_map, hlr]
    omega
  have hu := dC_units (F := F) (List.range m) List.nodup_range
  rw [es]
  have hfin : dC (((List.range m).map (unit (F := F))).take i ++ unit i :: ((List.range m).map (unit (F := F))).drop (i + 1)) (List.range m) = 1 := by
    rw [← e1]
    exact hu
  rw [← hfin]
  have gj : ((List.range m).map (unit (F := F)))[j]? = some (unit j) := by rw [List.getElem?_map, List.getElem?_range hj]; rfl
  by_cases h : j < i
  · refine a.clear1 ?_ hlen
    have : (((List.range m).map (unit (F := F))).take i)[j]? = some (unit j) := by rw [List.getElem?_take, if_pos h]; exact gj
    exact List.mem_of_getElem? this
  · refine a.clear2 ?_ hlen
    have : (((List.range m).map (unit (F := F))).drop (i + 1))[j - (i + 1)]? = some (unit j) := by rw [List.getElem?_drop, show i + 1 + (j - (i + 1)) = j by omega]; exact gj
    exact List.mem_of_getElem? this
/-- from corner to corner -/
theorem det_diag {m : Nat} (d : Nat → F) : dC ((List.range m).map fun i c => d i * unit i c) (List.range m) = ((List.range m).map d).foldr (· * ·) 1 := by
  have go : ∀ (is : List Nat) (pre : List (Row F)), pre.length + is.length = m → dC (pre ++ is.map fun i c => d i * unit i c) (List.range m) = (is.map d).foldr (· * ·) 1 * dC (pre ++ is.map unit) (List.range m) := fun is => by
    induction is with
    | nil =>
      intro pre _
      show dC (pre ++ []) _ = 1 * dC (pre ++ []) _
      grind
    | cons i is ih =>
      intro pre h
      rw [List.length_cons] at h
      have h1 := (dC_alt (List.range m) (F := F)).mul pre (d i) (unit i) (is.map fun i c => d i * unit i c) (by rw [List.length_map, List.length_range]; omega)
      have h2 := ih (pre ++ [unit i]) (by rw [List.length_append]; show pre.length + 1 + is.length = m; omega)
      simp only [List.append_assoc, List.singleton_append] at h2
      show dC (pre ++ (fun c => d i * unit i c) :: is.map fun i c => d i * unit i c) _ = d i * (is.map d).foldr (· * ·) 1 * dC (pre ++ unit i :: is.map unit) _
      rw [h1, h2]
      grind
  have := go (List.range m) [] (by rw [List.length_nil, List.length_range]; omega)
  rw [List.nil_append, List.nil_append, dC_units _ List.nodup_range] at this
  rw [this]
  grind
/-- a form has a row of some worth among letters and two letters together -/
theorem some_worth {T : List (Row F)} {m : Nat} (hT : T.length = m) (hm : 1 ≤ m) (hs : SymF T m) (hd : dC T (List.range m) ≠ 0) (two : ∀ x : F, x + x = 0 → x = 0) (h1 : ∀ i, i < m → bil T m (unit i) (unit i) = 0) (h2 : ∀ j k, j < k → k < m → bil T m (fun c => unit j c + unit k c) (fun c => unit j c + unit k c) = 0) : False := by
  have hb : ∀ i j, i < m → j < m → bil T m (unit i) (unit j) = (T.getD i zr) j := fun i j hi hj => by
    show SF (fun c => thr T (unit i) c * unit j c) m = _
    rw [thr_unit (by omega), SF_one hj _ fun k _ hk => by
      unfold unit
      rw [if_neg hk]
      grind]
    unfold unit
    rw [if_pos rfl]
    grind
  have hadd : ∀ u v w z : Row F, bil T m (fun c => u c + v c) (fun c => w c + z c) = bil T m u w + bil T m u z + (bil T m v w + bil T m v z) := fun u v w z => by
    unfold bil
    rw [← SF_add, ← SF_add, ← SF_add, thr_add]
    exact SF_congr fun i _ => by grind
  have hz : ∀ i j, i < m → j < m → (T.getD i zr) j = 0 := fun i j hi hj => by
    by_cases e : i = j
    · subst e
      rw [← hb i i hi hi]
      exact h1 i hi
    · have main : ∀ j k, j < k → k < m → (T.getD j zr) k = 0 := fun j k hjk hk => by
        have := h2 j k hjk hk
        rw [hadd, h1 j (by omega), h1 k hk, hb j k (by omega) hk, hb k j hk (by omega), ← hs j k (by omega) hk] at this
        exact two _ (by grind)
      by_cases h : i < j
      · exact main i j h hj
      · rw [hs i j hi hj]
        exact main j i (by omega) hi
  refine hd ?_
  cases m with
  | zero => omega
  | succ m =>
    rw [List.range_succ_eq_map]
    show SF (fun i => sF i * (T.getD i zr) 0 * dC (T.eraseIdx i) _) T.length = 0
    exact SF_nul fun i hi => by
      rw [hz i 0 (by omega) (by omega)]
      grind
end Fr

namespace Fm
open Lean.Grind PySem L2 Fr Fd
section
variable {g : Int} {F : Type} [CommRing F] {V : GV g F}
/-- a form's table: the same turned, not flat -/
structure FrmT (W : GV g F) (D : Int) (M m : Nat) (t : List (List (Int × Int))) : Prop where
  len : t.length = m
  row : ∀ r ∈ t, RZ g D M m r
  sym : SymF (t.map (er W)) m
  det : dC (t.map (er W)) (List.range m) ≠ 0
theorem tz_low1 (hg : g = 0 ∨ Gr5 g) (u : Int) (hu : u.natAbs < 2 ^ 4) : TZ g 1 u.natAbs (lowF g u 1) := by
  have hf : g ≠ 0 → (1 : Int).fmod g ≠ 0 := fun z => one_fmod (hg.resolve_left z)
  refine ⟨⟨4, Nat.le_refl _, tn_low hg (by decide) hf (Nat.le_refl _) hu (by decide)⟩, fun e => ?_⟩
  subst e
  exact ⟨u, gvQ.low (.inl rfl) (by decide) fun z => absurd rfl z, Nat.le_refl _⟩
theorem ng_tz (hg : g = 0 ∨ Gr5 g) {a : Int × Int} (h : NG g 0 a) (ht : TN g 7 a) : TZ g 2520 161280 a := by
  refine TZ.dvd hg ht (by decide) h.2.1 ?_
  have h1 := h.2.2.1
  have hp := h.1
  obtain ⟨c, hc⟩ := h.2.1
  have e : (2520 : Int) / a.2 = c := by rw [hc]; exact Int.mul_ediv_cancel_left _ (by omega)
  rw [e]
  have h2 : a.2.natAbs * c.natAbs = 2520 := by
    have := congrArg Int.natAbs hc
    rw [Int.natAbs_mul] at this
    exact this.symm
  calc a.1.natAbs * c.natAbs ≤ 64 * 2 ^ 0 * a.2.natAbs * c.natAbs := Nat.mul_le_mul_right _ h1
    _ = 64 * 2 ^ 0 * 2520 := by rw [Nat.mul_assoc, h2]
    _ = 161280 := by decide
theorem er_onesrow {m k : Nat} (hk : k < m) : er V ((List.range m).map fun j => ((if k = j then 1 else 0 : Int), (1 : Int))) = unit k := funext fun c => by
  by_cases hc : c < m
  · rw [er_ones hc]
    unfold unit
    by_cases e : k = c
    · rw [if_pos e, if_pos e.symm]
    · rw [if_neg e, if_neg fun z => e z.symm]
  · rw [er_out (by rw [List.length_map, List.length_range]; omega)]
    unfold unit
    rw [if_neg (by omega)]
theorem er_onesF (m : Nat) : (onesF m).map (er V) = (List.range m).map unit := by
  unfold onesF
  rw [List.map_map]
  exact List.map_congr_left fun k hk => er_onesrow (List.mem_range.mp hk)
theorem rz_onesrow (hg : g = 0 ∨ Gr5 g) {m k : Nat} : RZ g 1 1 m ((List.range m).map fun j => ((if k = j then 1 else 0 : Int), (1 : Int))) := by
  refine ⟨by rw [List.length_map, List.length_range], fun a ha => ?_⟩
  obtain ⟨j, _, rfl⟩ := List.mem_map.mp ha
  split
  · exact TZ.one hg
  · exact TZ.zero hg _ _
theorem rz_ones (hg : g = 0 ∨ Gr5 g) {m : Nat} : ∀ r ∈ onesF m, RZ g 1 1 m r := fun r hr => by
  unfold onesF at hr
  obtain ⟨k, _, rfl⟩ := List.mem_map.mp hr
  exact rz_onesrow hg
theorem er_set {r : List (Int × Int)} {j : Nat} {a : Int × Int} (hj : j < r.length) : er V (r.set j a) = fun c => if c = j then V.e a else er V r c := funext fun c => by
  rw [er_ga, er_ga]
  unfold ga
  rw [List.getD_eq_getElem?_getD, List.getD_eq_getElem?_getD, List.getElem?_set]
  by_cases e : j = c
  · subst e
    rw [if_pos rfl, if_pos rfl, if_pos hj]
    rfl
  · rw [if_neg e, if_neg fun z => e z.symm]
/-- ones with one number more -/
theorem er_step {m i j : Nat} (hi : i < m) (hj : j < m) (hij : i ≠ j) (a : Int × Int) : ((onesF m).set i (((List.range m).map fun c => ((if i = c then 1 else 0 : Int), (1 : Int))).set j a)).map (er V) = ((List.range m).map unit).set i (fun c => unit i c + V.e a * unit j c) := by
  rw [List.map_set, er_onesF]
  congr 1
  rw [er_set (by rw [List.length_map, List.length_range]; exact hj), er_onesrow hi]
  funext c
  unfold unit
  by_cases e : c = j
  · subst e
    rw [if_pos rfl, if_pos rfl, if_neg (fun z => hij z.symm)]
    grind
  · rw [if_neg e, if_neg e]
    grind
theorem FrmT.step (hg : g = 0 ∨ Gr5 g) {W : GV g F} {D D' : Int} {M M' m : Nat} {t P T1 T2 : List (List (Int × Int))} (f : FrmT W D M m t) (hP : P.length = m) (hdP : dC (P.map (er W)) (List.range m) ≠ 0) (hPr : ∀ r ∈ P, r.length = m)
    (h1 : T1.map (er W) = (P.map (er W)).map (thr (t.map (er W)))) (h2 : T2.map (er W) = (T1.map (er W)).map (thr ((turnF m P).map (er W)))) (hl : T2.length = m) (hr : ∀ r ∈ T2, RZ g D' M' m r) : FrmT W D' M' m T2 := by
  have hlQ : ((turnF m P).map (er W)).length = m := by unfold turnF; rw [List.length_map, List.length_map, List.length_range]
  have hPQ : ∀ i j, i < m → j < m → (((turnF m P).map (er W)).getD j zr) i = ((P.map (er W)).getD i zr) j := fun i j hi hj => by
    rw [getD_map (turn_at hj), getD_map (List.getElem?_eq_getElem (show i < P.length by omega)), er_at (show i < (P.map fun row => row.getD j (0, 1)).length by rw [List.length_map]; omega), List.getElem_map, er_ga]
  refine ⟨hl, hr, ?_, ?_⟩
  · rw [h2, h1]
    exact sym_step (by rw [List.length_map]; exact hP) (by rw [List.length_map]; exact f.len) hlQ f.sym hPQ
  · rw [h2, h1, det_step (by rw [List.length_map]; exact hP) (by rw [List.length_map]; exact f.len) hlQ hPQ]
    intro z
    have z1 := W.dom (x := dC (P.map (er W)) (List.range m) * dC (t.map (er W)) (List.range m)) z
    have hne : dC (P.map (er W)) (List.range m) * dC (t.map (er W)) (List.range m) ≠ 0 := fun y => f.det (W.dom y hdP)
    exact hdP (z1 hne)
theorem two_ne (hg : g = 0 ∨ Gr5 g) (W : GV g F) : ∀ x : F, x + x = 0 → x = 0 := fun x h => by
  have h2 : W.i 2 ≠ 0 := W.ine (by decide) fun z => by
    have h5 := hg.resolve_left z
    unfold Gr5 at h5
    rcases h5 with rfl | rfl | rfl | rfl | rfl <;> decide
  have e : W.i 2 * x = 0 := by
    rw [show (2 : Int) = 1 + 1 from rfl, W.iadd, W.i1]
    grind
  exact W.dom e h2
/-- numbers from corner to corner -/
def diagF (d : List (Int × Int)) : List (List (Int × Int)) := (List.range d.length).map fun i => (List.range d.length).map fun j => if i = j then d.getD i (0, 1) else (0, 1)
theorem diag_frm (hg : g = 0 ∨ Gr5 g) (W : GV g F) {D : Int} {M m k : Nat} {d : List (Int × Int)} (hl : d.length = m) (hd : ∀ a ∈ d, TZ g D M a ∧ TN g k a ∧ a.1 ≠ 0) : FrmT W D M m (diagF d) := by
  have hlen : (diagF d).length = m := by unfold diagF; rw [List.length_map, List.length_range, hl]
  have hget : ∀ i, i < m → (diagF d)[i]? = some ((List.range m).map fun j => if i = j then d.getD i (0, 1) else (0, 1)) := fun i hi => by
    unfold diagF
    rw [List.getElem?_map, hl, List.getElem?_range hi]
    rfl
  have her : ∀ i, i < m → er W ((List.range m).map fun j => if i = j then d.getD i (0, 1) else (0, 1)) = fun c => W.e (d.getD i (0, 1)) * unit i c := fun i hi => funext fun c => by
    by_cases hc : c < m
    · rw [er_at (show c < ((List.range m).map fun j => if i = j then d.getD i (0, 1) else (0, 1)).length by rw [List.length_map, List.length_range]; exact hc), List.getElem_map, List.getElem_range]
      unfold unit
      by_cases e : i = c
      · rw [if_pos e, if_pos e.symm]
        grind
      · rw [if_neg e, if_neg fun z => e z.symm, W.zero]
        grind
    · rw [er_out (by rw [List.length_map, List.length_range]; omega)]
      unfold unit
      rw [if_neg (by omega)]
      grind
  have hmap : (diagF d).map (er W) = (List.range m).map fun i c => W.e (d.getD i (0, 1)) * unit i c := by
    refine List.ext_getElem? fun i => ?_
    rw [List.getElem?_map, List.getElem?_map]
    by_cases hi : i < m
    · rw [hget i hi, List.getElem?_range hi]
      show some (er W _) = _
      rw [her i hi]
      rfl
    · rw [List.getElem?_eq_none (by omega), List.getElem?_eq_none (by rw [List.length_range]; omega)]
      rfl
  refine ⟨hlen, fun r hr => ?_, fun i j hi hj => ?_, ?_⟩
  · obtain ⟨i, hi⟩ := List.getElem?_of_mem hr
    have hil := (List.getElem?_eq_some_iff.mp hi).1
    rw [hget i (by omega)] at hi
    cases Option.some.inj hi
    refine ⟨by rw [List.length_map, List.length_range], fun a ha => ?_⟩
    obtain ⟨j, _, rfl⟩ := List.mem_map.mp ha
    split
    · rw [List.getD_eq_getElem?_getD, List.getElem?_eq_getElem (show i < d.length by omega)]
      exact (hd _ (List.getElem_mem _)).1
    · exact TZ.zero hg _ _
  · rw [hmap, getD_map (List.getElem?_range hi), getD_map (List.getElem?_range hj)]
    show W.e (d.getD i (0, 1)) * unit i j = W.e (d.getD j (0, 1)) * unit j i
    unfold unit
    by_cases e : i = j
    · rw [e]
    · rw [if_neg fun z => e z.symm, if_neg e]
      grind
  · rw [hmap, det_diag]
    have go : ∀ is : List Nat, (∀ i ∈ is, i < m) → (is.map fun i => W.e (d.getD i (0, 1))).foldr (· * ·) 1 ≠ 0 := fun is => by
      induction is with
      | nil => exact fun _ => W.ne
      | cons i is ih =>
        intro h z
        have hi := h i List.mem_cons_self
        have hne : W.e (d.getD i (0, 1)) ≠ 0 := by
          rw [List.getD_eq_getElem?_getD, List.getElem?_eq_getElem (show i < d.length by omega)]
          have := hd _ (List.getElem_mem (show i < d.length by omega))
          exact fun y => this.2.2 ((e_zero hg this.2.1).mp y)
        exact ih (fun j hj => h j (List.mem_cons_of_mem _ hj)) (W.dom z hne)
    exact go _ fun i hi => List.mem_range.mp hi
end
theorem tab_mem {H : Hp} {xs ys : List V} {t : List (List (Int × Int))} (h : Acc RowV H xs t t.length) (hm : ∀ y ∈ ys, y ∈ xs) : ∃ u, Acc RowV H ys u u.length ∧ u.length = ys.length ∧ (∀ r ∈ u, r ∈ t) ∧ ∀ (x : V) (r : List (Int × Int)), x ∈ ys → RowV H x r → r ∈ u := by
  induction ys with
  | nil => exact ⟨[], Acc.nil, rfl, fun r hr => (by cases hr), fun x r hx => (by cases hx)⟩
  | cons y ys ih =>
    obtain ⟨u, h1, h2, h3, h4⟩ := ih fun z hz => hm z (List.mem_cons_of_mem _ hz)
    obtain ⟨i, hi⟩ := List.getElem?_of_mem (hm y List.mem_cons_self)
    have hl := (List.getElem?_eq_some_iff.mp hi).1
    rw [h.1] at hl
    have gt1 : t[i]? = some t[i] := List.getElem?_eq_getElem hl
    have hy := h.2 i y _ hi gt1
    refine ⟨t[i] :: u, ⟨by rw [List.length_cons, List.length_cons, h1.1], fun j x a e1 e2 => ?_⟩, by rw [List.length_cons, List.length_cons, h2], fun r hr => ?_, fun x r hx hr => ?_⟩
    · cases j with
      | zero =>
        cases Option.some.inj e1
        cases Option.some.inj e2
        exact hy
      | succ j => exact h1.2 j x a e1 e2
    · rcases List.mem_cons.mp hr with rfl | hr
      · exact List.getElem_mem hl
      · exact h3 r hr
    · rcases List.mem_cons.mp hx with rfl | hx
      · rw [rowV_uniq hr hy]
        exact List.mem_cons_self
      · exact List.mem_cons_of_mem _ (h4 x r hx hr)

/-- the rows behind the first without a column -/
def minF (k : Nat) (t : List (List (Int × Int))) : List (List (Int × Int)) := (t.drop 1).map fun r => r.eraseIdx k
def waysM (M : Nat) : Nat → Nat
  | 0 => 1
  | d + 1 => (d + 1) * (M * waysM M d)
theorem w_enumT {K : PySem.W.Frag} {ta : TA} {σ : L2.St} {H : Hp} {R : It → Hp → Prop} (h : ta σ H fun vs H1 => ∃ a xs, vs = [.ref a] ∧ SqT K H1 a xs ∧ R (IteT K a) H1) : iEnumT K ta σ H R := h
end Fm

namespace PySem
namespace Fm6
open PySem.W PySem.Calls PyProof.Rows Builtin Builtin.ObjectAttr
/-- the two rows of such an __init__ -/
abbrev iBodyF (txt sf fld par : Str) (p0 p1 p2 p3 p4 p5 p6 p7 p8 q0 q1 q2 q3 : Pos) (j : Nat) : List Stmt :=
  [.Expr (.Call (.Attribute (.Call (.Name "super" p0) [] [] p1) "__init__" p2) [.JoinedStr [.Constant (.str txt) j p5, .FormattedValue (.Name par p6) (-1) none p7] p8] [] p3) p4, .Assign [.Attribute (.Name sf q0) fld q1] (.Name par q2) q3]
section
variable {prog : Program} {w : World} {A : Around} {E : Value → Shared → Prop} {h : Heap} {g : Array GenState} {d : Drawn} {t : Nat} {os : OsState} {B ini newId : String} {tl : List Value} {K : Frag}
variable {nm q : Str} {C N : Addr} {bs : List Value} {sn : List Str} {sub : List Value} {ab : Bool} {col : Option Bool} {dd : Option Addr} {k0 k1 k2 k3 k5 : Option Value}
end
end Fm6
end PySem
namespace L2
open PySem PySem.Spec PyProof.Rows PySem.W PySem.Fm6
/-- what such an __init__ promises -/
def spInitF (C : Addr) (fld : Str) : Sp := fun vs H Q _ => ∃ (a : Addr) (n : Nat), vs = [.ref a, .int (n : Nat)] ∧ n < 10 ∧ H a = some (exo a C none) ∧ ∀ dx, H dx = none → dx ≠ a → Q .non (upd (upd H dx (exd dx [(fld, .int (n : Nat))])) a (exo a C (some dx)))
section
variable {P : Program} {w : World} {K : Frag} {mg : Str → Option Value} {base : Heap} {CX : CXT} {k : Nat} {B ini newId : String} {tl : List Value} {C : Addr}
end
end L2
namespace Fm
open PySem PySem.Spec PyProof.Rows L2 PySem.Fm6
/-- what is known of Flat where it is raised -/
structure FlatC (P : Program) (w : World) (K : PySem.W.Frag) (mg : Str → Option Value) (base : Heap) (fI : Addr) (fd : FuncData) : Prop where
  T : OexB K (He.ga K "Flat") "ArithmeticError.__new__" [.type "ArithmeticError", .type "Exception", .type "BaseException", .type "object"]
  i : PySem.W.findIn K (.ref (He.ga K "Flat")) "__init__" = some (some (.ref fI))
  ty : PySem.W.typeIn K (.ref fI) = some (.type "function")
  fn : FnOk P w K mg base C8.CX0 1 fI fd ["self", "rank"] (spInitF (He.ga K "Flat") "rank")
  b : Binds K fd ["self", "rank"] []
  g : mg "Flat" = some (.ref (He.ga K "Flat"))
end Fm

namespace Fr
open Lean.Grind
variable {F : Type} [CommRing F]
end Fr
namespace Fm
open Lean.Grind PySem L2 Fr Fd
section
variable {g : Int} {F : Type} [CommRing F] {V : GV g F}
/-! ### sizes of a back -/
theorem zd_iff {F' : Type} [CommRing F'] {V : GV 0 F} {W : GV 0 F'} {k : Nat} {a : Int × Int} (h : TN 0 k a) {D z : Int} (e : V.e a * V.i D = V.i z) : a.1 * D = z * a.2 ∧ W.e a * W.i D = W.i z := by
  obtain ⟨e1, n1⟩ := V.tn (.inl rfl) h
  have e2 : a.1 * D = z * a.2 := ei_z (V := V) rfl (by rw [V.imul, V.imul, ← e1, ← e]; grind)
  obtain ⟨e3, n3⟩ := W.tn (.inl rfl) h
  refine ⟨e2, W.cancel (z := W.i a.2) ?_ n3⟩
  rw [← W.imul, ← e2, W.imul, ← e3]
  grind
theorem TZ.val {V : GV 0 F} {D : Int} {M : Nat} {a : Int × Int} (h : TZ 0 D M a) : ∃ z : Int, a.1 * D = z * a.2 ∧ V.e a * V.i D = V.i z ∧ z.natAbs ≤ M := by
  obtain ⟨⟨l, _, hl⟩, hz⟩ := h
  obtain ⟨z, ez, hzM⟩ := hz rfl
  obtain ⟨e1, e2⟩ := zd_iff (W := V) hl ez
  exact ⟨z, e1, e2, hzM⟩
theorem TZ.ofv {V : GV 0 F} {k : Nat} {a : Int × Int} (hk : 4 ≤ k) (h : TN 0 k a) {D z : Int} {M : Nat} (e : V.e a * V.i D = V.i z) (hz : z.natAbs ≤ M) : TZ 0 D M a := ⟨⟨k, hk, h⟩, fun _ => ⟨z, (zd_iff (W := gvQ) h e).2, hz⟩⟩
/-- a row by one bottom, as whole numbers -/
def zT (D : Int) (r : List (Int × Int)) : List Int := r.map fun a => a.1 * D / a.2
theorem wr_tz (hg : g = 0 ∨ Gr5 g) {D : Int} {M A : Nat} {r : List (Int × Int)} (h : ∀ a ∈ r, TZ g D M a) (hD0 : D ≠ 0) (hDA : D.natAbs ≤ A) (hMA : M ≤ A) (hA : 13 ≤ A) : (wrB r).natAbs ≤ A ∧ ∀ y ∈ wrT r, y.natAbs ≤ A := by
  by_cases hg0 : g = 0
  · subst hg0
    have hd : ∀ a ∈ r, 0 < a.2 ∧ a.2 ∣ D ∧ ∃ z : Int, a.1 * D = z * a.2 ∧ z.natAbs ≤ M := fun a ha => by
      obtain ⟨z, e1, _, hz⟩ := (h a ha).val (V := gvQ)
      obtain ⟨⟨l, _, hl⟩, _⟩ := h a ha
      have hr := red_of rfl hl
      exact ⟨hr.1, dvd_cop hr.2 ⟨z, by rw [e1, Int.mul_comm]⟩, z, e1, hz⟩
    obtain ⟨b1, b2, b3⟩ := wrB_spec fun a ha => (hd a ha).1
    have hdv := b3 D fun a ha => (hd a ha).2.1
    refine ⟨Nat.le_trans (Nat.le_of_dvd (by omega) (Int.natAbs_dvd_natAbs.mpr hdv)) hDA, fun y hy => ?_⟩
    obtain ⟨a, ha, rfl⟩ := List.mem_map.mp hy
    obtain ⟨p1, _, z, e1, hz⟩ := hd a ha
    obtain ⟨c, hc⟩ := b2 a ha
    obtain ⟨d, hd2⟩ := hdv
    rw [hc, Int.mul_fdiv_cancel_left _ (by omega)]
    have e2 : z = a.1 * c * d := by
      have : a.2 * z = a.2 * (a.1 * c * d) := by
        rw [Int.mul_comm a.2 z, ← e1, hd2, hc]
        grind
      exact Int.eq_of_mul_eq_mul_left (by omega) this
    have hd0 : 1 ≤ d.natAbs := by
      have : d ≠ 0 := fun z => hD0 (by rw [hd2, z, Int.mul_zero])
      omega
    rw [e2, Int.natAbs_mul] at hz
    exact Nat.le_trans (Nat.le_trans (Nat.le_mul_of_pos_right _ hd0) hz) hMA
  · have hd : ∀ a ∈ r, a.2 = 1 ∧ a.1.natAbs ≤ 13 := fun a ha => by
      obtain ⟨⟨l, _, hl⟩, _⟩ := h a ha
      rcases hl.1 with ⟨w, _⟩ | ⟨_, a0, a1, a2⟩
      · exact absurd w hg0
      · have := (grb hg).2
        exact ⟨a2, by omega⟩
    rw [wrB_one fun a ha => (hd a ha).1, wrT_one fun a ha => (hd a ha).1]
    refine ⟨by show 1 ≤ A; omega, fun y hy => ?_⟩
    obtain ⟨a, ha, rfl⟩ := List.mem_map.mp hy
    exact Nat.le_trans (hd a ha).2 hA
end
end Fm

namespace Fm
open Lean.Grind PySem L2 Fr Fd
section
variable {g : Int} {F : Type} [CommRing F] {V : GV g F}
end
end Fm

namespace Fr
open Lean.Grind
variable {F : Type} [CommRing F]
theorem set_parts {α : Type} {A : List α} {i : Nat} (h : i < A.length) (v : α) : A = A.take i ++ A[i] :: A.drop (i + 1) ∧ A.set i v = A.take i ++ v :: A.drop (i + 1) := by
  refine ⟨?_, by rw [List.set_eq_take_append_cons_drop, if_pos h]⟩
  have := List.set_eq_take_append_cons_drop (l := A) (i := i) (a := A[i])
  rw [if_pos h, List.set_getElem_self] at this
  exact this
theorem Alt.swap2 {m : Nat} {f : List (Row F) → F} (a : Alt m f) {pre mid post : List (Row F)} {u v : Row F} (h : pre.length + mid.length + post.length + 2 = m) : f (pre ++ u :: (mid ++ v :: post)) = -f (pre ++ v :: (mid ++ u :: post)) := by
  have hl : ∀ w : Row F, pre.length + (mid ++ w :: post).length + 1 = m := fun w => by
    rw [List.length_append, List.length_cons]
    omega
  have hl2 : ∀ w : Row F, (pre ++ w :: mid).length + post.length + 1 = m := fun w => by
    rw [List.length_append, List.length_cons]
    omega
  have e1 := a.twice (u := fun j => u j + v j) pre mid post (by omega)
  have ap : ∀ (w x : Row F), pre ++ w :: (mid ++ x :: post) = (pre ++ w :: mid) ++ x :: post := fun w x => by rw [List.append_assoc]; rfl
  rw [a.add pre u v _ (hl _), ap, ap, a.add (pre ++ u :: mid) u v post (hl2 _), a.add (pre ++ v :: mid) u v post (hl2 _), ← ap, ← ap, ← ap, ← ap, a.twice (u := u) pre mid post h, a.twice (u := v) pre mid post h] at e1
  grind
theorem det_mul {A : List (Row F)} {m i : Nat} (hl : A.length = m) (hi : i < A.length) (c : F) : dC (A.set i fun j => c * A[i] j) (List.range m) = c * dC A (List.range m) := by
  obtain ⟨e1, e2⟩ := set_parts hi (fun j => c * A[i] j)
  have a := dC_alt (F := F) (List.range m)
  rw [e2, a.mul (A.take i) c A[i] (A.drop (i + 1)) (by rw [List.length_take, List.length_drop, List.length_range]; omega), ← e1]
theorem det_add {A : List (Row F)} {m i j : Nat} (hl : A.length = m) (hi : i < A.length) (hj : j < A.length) (hij : i ≠ j) : dC (A.set i fun x => A[i] x + A[j] x) (List.range m) = dC A (List.range m) := by
  obtain ⟨e1, e2⟩ := set_parts hi (fun x => A[i] x + A[j] x)
  have a := dC_alt (F := F) (List.range m)
  have hlen : (A.take i).length + (A.drop (i + 1)).length + 1 = (List.range m).length := by rw [List.length_take, List.length_drop, List.length_range]; omega
  have e3 : (fun x => A[i] x + A[j] x) = fun x => A[i] x + (1 : F) * A[j] x := funext fun x => by grind
  rw [e2, e3]
  by_cases h : j < i
  · have hm : A[j] ∈ A.take i := List.mem_of_getElem? (i := j) (by rw [List.getElem?_take, if_pos h, List.getElem?_eq_getElem hj])
    rw [a.clear1 hm hlen, ← e1]
  · have hm : A[j] ∈ A.drop (i + 1) := List.mem_of_getElem? (i := j - (i + 1)) (by rw [List.getElem?_drop, show i + 1 + (j - (i + 1)) = j by omega, List.getElem?_eq_getElem hj])
    rw [a.clear2 hm hlen, ← e1]
theorem det_swp {A : List (Row F)} {m i j : Nat} (hl : A.length = m) (hi : i < A.length) (hj : j < A.length) (hij : i < j) : dC ((A.set i A[j]).set j A[i]) (List.range m) = -dC A (List.range m) := by
  have a := dC_alt (F := F) (List.range m)
  have e1 : A = A.take i ++ A[i] :: ((A.drop (i + 1)).take (j - i - 1) ++ A[j] :: A.drop (j + 1)) := by
    have h1 := (set_parts hi A[i]).1
    have hjd : j - i - 1 < (A.drop (i + 1)).length := by rw [List.length_drop]; omega
    have h2 := (set_parts hjd A[i]).1
    have h3 : (A.drop (i + 1))[j - i - 1] = A[j] := by
      rw [List.getElem_drop]
      congr 1
      omega
    rw [h3, List.drop_drop, show i + 1 + (j - i - 1 + 1) = j + 1 by omega] at h2
    rw [← h2]
    exact h1
  have e2 : (A.set i A[j]).set j A[i] = A.take i ++ A[j] :: ((A.drop (i + 1)).take (j - i - 1) ++ A[i] :: A.drop (j + 1)) := by
    rw [(set_parts hi A[j]).2]
    rw [List.set_append_right _ _ (by rw [List.length_take]; omega), List.length_take, show j - min i A.length = (j - i - 1) + 1 by omega, List.set_cons_succ]
    have hjd : j - i - 1 < (A.drop (i + 1)).length := by rw [List.length_drop]; omega
    rw [(set_parts hjd A[i]).2, List.drop_drop, show i + 1 + (j - i - 1 + 1) = j + 1 by omega]
  have h := a.swap2 (pre := A.take i) (mid := (A.drop (i + 1)).take (j - i - 1)) (post := A.drop (j + 1)) (u := A[j]) (v := A[i]) (by
    rw [List.length_take, List.length_take, List.length_drop, List.length_drop, List.length_range]
    omega)
  rw [e2, h, ← e1]
end Fr
namespace Fm
open Lean.Grind PySem L2 Fr Fd
section
variable {g : Int} {F : Type} [CommRing F]
/-- rows stepped, and the determinant that is due -/
structure StT (W : GV g F) (k m : Nat) (rs : List (List (Int × Int))) (due : Int × Int) : Prop where
  len : rs.length = m
  sz : ∃ D : Int, D ≠ 0 ∧ D.natAbs ≤ 128 ^ k ∧ ∀ r ∈ rs, RZ g D (128 ^ k) m r
  du : ∃ D : Int, D ≠ 0 ∧ D.natAbs ≤ 128 ^ k ∧ TZ g D (128 ^ k) due
  val : W.e due = dC (rs.map (er W)) (List.range m)
  det : dC (rs.map (er W)) (List.range m) ≠ 0
variable {W : GV g F} {k m : Nat} {rs : List (List (Int × Int))} {due : Int × Int}
theorem StT.start (hg : g = 0 ∨ Gr5 g) : StT W 0 m (onesF m) (1, 1) := by
  have e : dC ((onesF m).map (er W)) (List.range m) = 1 := by rw [er_onesF, dC_units _ List.nodup_range]
  exact ⟨by unfold onesF; rw [List.length_map, List.length_range], ⟨1, by decide, by decide, rz_ones hg⟩, ⟨1, by decide, by decide, TZ.one hg⟩, by rw [e, W.one], by rw [e]; exact W.ne⟩
theorem pk_le {k : Nat} : 128 ^ k ≤ 128 ^ (k + 1) := Nat.pow_le_pow_right (by decide) (by omega)
theorem StT.stay (h : StT W k m rs due) : StT W (k + 1) m rs due := by
  obtain ⟨D, d1, d2, d3⟩ := h.sz
  obtain ⟨E, e1, e2, e3⟩ := h.du
  exact ⟨h.len, ⟨D, d1, Nat.le_trans d2 pk_le, fun r hr => ⟨(d3 r hr).1, fun a ha => ((d3 r hr).2 a ha).mono pk_le⟩⟩, ⟨E, e1, Nat.le_trans e2 pk_le, e3.mono pk_le⟩, h.val, h.det⟩
theorem StT.scale (hg : g = 0 ∨ Gr5 g) (h : StT W k m rs due) {i : Nat} {r : List (Int × Int)} (hr : rs[i]? = some r) {x : Int × Int} (hx : TN g 7 x) (x0 : x.1 ≠ 0) : StT W (k + 1) m (rs.set i (r.map fun a => timesF g a x)) (timesF g due x) := by
  obtain ⟨D, d1, d2, d3⟩ := h.sz
  obtain ⟨E, e1, e2, e3⟩ := h.du
  have hi := (List.getElem?_eq_some_iff.mp hr).1
  have hp := hx.pos
  have tx := TZ.of hg hx (by decide)
  have b1 : x.1.natAbs ≤ 128 := Nat.le_of_lt hx.2.1
  have b2 : x.2.natAbs ≤ 128 := Nat.le_of_lt hx.2.2
  have rr := d3 r (List.mem_of_getElem? hr)
  have up : ∀ {a b : Nat}, a ≤ 128 ^ k → b ≤ 128 → a * b ≤ 128 ^ (k + 1) := fun ha hb => by
    rw [Nat.pow_succ]
    exact Nat.mul_le_mul ha hb
  obtain ⟨l2, l24, t2⟩ := e3.1
  have hx0 : W.e x ≠ 0 := fun z => by
    have := W.inj hg hx (tn_zero hg) (by rw [z, W.zero])
    rw [this] at x0
    exact x0 rfl
  have ev : er W (r.map fun a => timesF g a x) = fun j => W.e x * er W r j := er_times hg rr tx
  have hiA : i < (rs.map (er W)).length := by rw [List.length_map]; exact hi
  have hA : (rs.map (er W))[i] = er W r := by
    rw [List.getElem_map]
    congr 1
    rw [List.getElem?_eq_getElem hi] at hr
    exact Option.some.inj hr
  have hd : dC ((rs.set i (r.map fun a => timesF g a x)).map (er W)) (List.range m) = W.e x * dC (rs.map (er W)) (List.range m) := by
    rw [List.map_set, ev, ← hA]
    exact det_mul (by rw [List.length_map, h.len]) hiA (W.e x)
  refine ⟨by rw [List.length_set, h.len], ⟨D * x.2, Int.mul_ne_zero d1 (by omega), by rw [Int.natAbs_mul]; exact up d2 b2, fun q hq => ?_⟩, ⟨E * x.2, Int.mul_ne_zero e1 (by omega), by rw [Int.natAbs_mul]; exact up e2 b2, (e3.times hg tx).mono (up (Nat.le_refl _) b1)⟩, ?_, ?_⟩
  · rcases List.mem_or_eq_of_mem_set hq with hq | rfl
    · exact ⟨(d3 q hq).1, fun a ha => (((d3 q hq).2 a ha).wide x.2).mono (up (Nat.le_refl _) b2)⟩
    · have := rz_times hg rr tx
      exact ⟨this.1, fun a ha => (this.2 a ha).mono (up (Nat.le_refl _) b1)⟩
  · rw [W.times hg t2 hx, h.val, hd]
    grind
  · rw [hd]
    exact fun z => h.det (W.dom z hx0)
theorem StT.plus (hg : g = 0 ∨ Gr5 g) (h : StT W k m rs due) {i j : Nat} {r s : List (Int × Int)} (hr : rs[i]? = some r) (hs : rs[j]? = some s) (hij : i ≠ j) : StT W (k + 1) m (rs.set i (List.zipWith (plusF g) r s)) due := by
  obtain ⟨D, d1, d2, d3⟩ := h.sz
  obtain ⟨E, e1, e2, e3⟩ := h.du
  have hi := (List.getElem?_eq_some_iff.mp hr).1
  have hj := (List.getElem?_eq_some_iff.mp hs).1
  have rr := d3 r (List.mem_of_getElem? hr)
  have ss := d3 s (List.mem_of_getElem? hs)
  have hA : ∀ {i : Nat} {r : List (Int × Int)} (hi : i < rs.length), rs[i]? = some r → (rs.map (er W))[i]'(by rw [List.length_map]; exact hi) = er W r := fun hi hr => by
    rw [List.getElem_map]
    congr 1
    rw [List.getElem?_eq_getElem hi] at hr
    exact Option.some.inj hr
  have hd : dC ((rs.set i (List.zipWith (plusF g) r s)).map (er W)) (List.range m) = dC (rs.map (er W)) (List.range m) := by
    rw [List.map_set, er_plus hg rr ss, ← hA hi hr, ← hA hj hs]
    exact det_add (by rw [List.length_map, h.len]) _ _ hij
  refine ⟨by rw [List.length_set, h.len], ⟨D, d1, Nat.le_trans d2 pk_le, fun q hq => ?_⟩, ⟨E, e1, Nat.le_trans e2 pk_le, e3.mono pk_le⟩, by rw [h.val, hd], by rw [hd]; exact h.det⟩
  rcases List.mem_or_eq_of_mem_set hq with hq | rfl
  · exact ⟨(d3 q hq).1, fun a ha => ((d3 q hq).2 a ha).mono pk_le⟩
  · have := rz_plus hg rr ss
    exact ⟨this.1, fun a ha => (this.2 a ha).mono (by rw [Nat.pow_succ]; omega)⟩
theorem StT.swap (hg : g = 0 ∨ Gr5 g) (h : StT W k m rs due) {i j : Nat} {r s : List (Int × Int)} (hr : rs[i]? = some r) (hs : rs[j]? = some s) (hij : i ≠ j) : StT W (k + 1) m ((rs.set i s).set j r) (minusF g due) := by
  obtain ⟨D, d1, d2, d3⟩ := h.sz
  obtain ⟨E, e1, e2, e3⟩ := h.du
  obtain ⟨l2, l24, t2⟩ := e3.1
  have hi := (List.getElem?_eq_some_iff.mp hr).1
  have hj := (List.getElem?_eq_some_iff.mp hs).1
  have hA : ∀ {i : Nat} {r : List (Int × Int)} (hi : i < rs.length), rs[i]? = some r → (rs.map (er W))[i]'(by rw [List.length_map]; exact hi) = er W r := fun hi hr => by
    rw [List.getElem_map]
    congr 1
    rw [List.getElem?_eq_getElem hi] at hr
    exact Option.some.inj hr
  have hl : (rs.map (er W)).length = m := by rw [List.length_map, h.len]
  have hd : dC (((rs.set i s).set j r).map (er W)) (List.range m) = -dC (rs.map (er W)) (List.range m) := by
    rw [List.map_set, List.map_set]
    rcases Nat.lt_or_gt_of_ne hij with hlt | hgt
    · rw [← hA hi hr, ← hA hj hs]
      exact det_swp hl _ _ hlt
    · rw [List.set_comm _ _ hij, ← hA hi hr, ← hA hj hs]
      exact det_swp hl _ _ hgt
  refine ⟨by rw [List.length_set, List.length_set, h.len], ⟨D, d1, Nat.le_trans d2 pk_le, fun q hq => ?_⟩, ⟨E, e1, Nat.le_trans e2 pk_le, (e3.minus hg).mono pk_le⟩, ?_, ?_⟩
  · have hq2 : q ∈ rs := by
      rcases List.mem_or_eq_of_mem_set hq with hq | rfl
      · rcases List.mem_or_eq_of_mem_set hq with hq | rfl
        · exact hq
        · exact List.mem_of_getElem? hs
      · exact List.mem_of_getElem? hr
    exact ⟨(d3 q hq2).1, fun a ha => ((d3 q hq2).2 a ha).mono pk_le⟩
  · rw [W.minus hg t2, h.val, hd]
  · rw [hd]
    intro z
    exact h.det (by grind)
theorem acc_set {α : Type} {P : Hp → V → α → Prop} {H : Hp} {ys : List V} {as : List α} {n i : Nat} {v : V} {a : α} (h : Acc P H ys as n) (hi : i < ys.length) (hv : P H v a) : Acc P H (ys.set i v) (as.set i a) n := by
  refine ⟨by rw [List.length_set]; exact h.1, fun j x c h1 h2 => ?_⟩
  rw [List.getElem?_set] at h1 h2
  by_cases e : i = j
  · rw [if_pos e] at h1 h2
    split at h1
    · split at h2
      · cases Option.some.inj h1
        cases Option.some.inj h2
        exact hv
      · cases h2
    · rename_i hn
      exact absurd hi hn
  · rw [if_neg e] at h1 h2
    exact h.2 j x c h1 h2
theorem p128 {k : Nat} (h : k ≤ 30) : 128 ^ k ≤ 2 ^ 210 := by
  rw [show (128 : Nat) = 2 ^ 7 from rfl, ← Nat.pow_mul]
  exact Nat.pow_le_pow_right (by decide) (by omega)
theorem lt211 {a : Nat} (h : a ≤ 2 ^ 210) : a < 2 ^ 211 := by
  rw [show (211 : Nat) = 210 + 1 from rfl, Nat.pow_succ]
  have : 0 < 2 ^ 210 := Nat.pow_pos (by decide)
  omega
/-- what stands in an invariant is small -/
theorem StT.be (hg : g = 0 ∨ Gr5 g) (h : StT W k m rs due) (hk : k ≤ 30) : (∀ r ∈ rs, r.length = m ∧ ∀ a ∈ r, PBe a) ∧ PBe due ∧ TN g 211 due := by
  obtain ⟨D, d1, d2, d3⟩ := h.sz
  obtain ⟨E, e1, e2, e3⟩ := h.du
  have hp := lt211 (p128 hk)
  have td := e3.tn hg (show 4 ≤ 211 by decide) e1 (Nat.lt_of_le_of_lt e2 hp) hp
  exact ⟨fun r hr => ⟨(d3 r hr).1, (d3 r hr).be hg (show 4 ≤ 211 by decide) (by decide) d1 (Nat.lt_of_le_of_lt d2 hp) hp⟩, td.be (by decide), td⟩
end
end Fm

namespace Fm
open Lean.Grind PySem L2 Fr Fd
section
variable {g : Int} {F : Type} [CommRing F] {V : GV g F}
theorem cell_tz (hg : g = 0 ∨ Gr5 g) {D D' : Int} {M M' : Nat} : ∀ (r s : List (Int × Int)) (p : Int × Int) (N : Nat), r.length = s.length → (∀ a ∈ r, TZ g D M a) → (∀ a ∈ s, TZ g D' M' a) → TZ g (D * D') N p →
    TZ g (D * D') (N + r.length * (M * M')) ((List.zipWith (timesF g) r s).foldl (plusF g) p) ∧ V.e ((List.zipWith (timesF g) r s).foldl (plusF g) p) = V.e p + SF (fun j => er V r j * er V s j) r.length
  | [], s, p, N, _, _, _, hp => by
    refine ⟨by simpa using hp, ?_⟩
    show V.e p = V.e p + 0
    grind
  | a :: r, [], p, N, h, _, _, _ => by simp at h
  | a :: r, c :: s, p, N, h, hr, hs, hp => by
    have ta := hr a List.mem_cons_self
    have tc := hs c List.mem_cons_self
    have tt := ta.times hg tc
    have tp := hp.plus hg tt
    obtain ⟨h1, h2⟩ := cell_tz hg r s (plusF g p (timesF g a c)) (N + M * M') (by simpa using h) (fun x hx => hr x (List.mem_cons_of_mem _ hx)) (fun x hx => hs x (List.mem_cons_of_mem _ hx)) tp
    obtain ⟨l1, _, n1⟩ := ta.1
    obtain ⟨l2, _, n2⟩ := tc.1
    obtain ⟨l3, _, n3⟩ := hp.1
    obtain ⟨l4, _, n4⟩ := tt.1
    refine ⟨?_, ?_⟩
    · have : N + (a :: r).length * (M * M') = N + M * M' + r.length * (M * M') := by rw [List.length_cons, Nat.add_mul]; omega
      rw [this]
      exact h1
    · show V.e ((List.zipWith (timesF g) r s).foldl (plusF g) (plusF g p (timesF g a c))) = _
      rw [h2, V.plus hg n3 n4, V.times hg n1 n2, List.length_cons, SF_front]
      show V.e p + V.e a * V.e c + SF (fun j => er V r j * er V s j) r.length = V.e p + (V.e a * V.e c + SF (fun j => er V r j * er V s j) r.length)
      grind
end
end Fm

namespace Fm
open Lean.Grind PySem L2 Fr Fd
/-! ### a class of the program's own: Form -/
def clsB : Stmt → List Stmt
  | .ClassDef (body := b) .. => b
  | _ => []
structure FormC (K : PySem.W.Frag) : Prop where
  c : Cls K (He.ga K "Form")
  nt : NoAttr K (He.ga K "Form") "table"
  ng : NoAttr K (He.ga K "Form") "ground"
/-- a form of the ground g, with that table -/
def FormV (K : PySem.W.Frag) (H : Hp) (f : V) (g : Int) (tv : V) : Prop := ∃ p dx, f = .ref p ∧ H p = some (.ins (He.ga K "Form") dx [("table", tv), ("ground", .int g)])
theorem FormV.sm {K : PySem.W.Frag} {H H' : Hp} {f : V} {g : Int} {tv : V} (h : FormV K H f g tv) (s : Same H H') : FormV K H' f g tv := by
  obtain ⟨p, dx, e, hp⟩ := h
  exact ⟨p, dx, e, s _ _ hp⟩
theorem FormV.mv {K : PySem.W.Frag} {H H' : Hp} {b : Addr} {f : V} {g : Int} {tv : V} (h : FormV K H f g tv) (m : Mv b H H') (hb : Bag H b) : FormV K H' f g tv := by
  obtain ⟨p, dx, e, hp⟩ := h
  obtain ⟨A, B, hb, _⟩ := hb
  refine ⟨p, dx, e, m _ _ (fun z => ?_) hp⟩
  rw [z, hb] at hp
  cases hp
theorem FormV.upd {K : PySem.W.Frag} {H : Hp} {D : Addr} {xs ys : List V} {f : V} {g : Int} {tv : V} (h : FormV K H f g tv) (hD : H D = some (.lst xs)) : FormV K (upd H D (.lst ys)) f g tv := by
  obtain ⟨p, dx, e, hp⟩ := h
  refine ⟨p, dx, e, ?_⟩
  rw [upd_ne (fun z => by rw [z, hD] at hp; cases hp)]
  exact hp
theorem w_fld {K : PySem.W.Frag} {ta : TE} {f : Str} {σ : L2.St} {H : Hp} {Q : VK} (h : ta σ H fun x H1 => ∃ a C dx fs v, x = .ref a ∧ H1 a = some (.ins C dx fs) ∧ Cls K C ∧ NoAttr K C f ∧ fs.lookup f = some v ∧ Q v H1) : tFld K ta f σ H Q := h
theorem w_tab {K : PySem.W.Frag} {H : Hp} {x tv : V} {g : Int} {Q : V → Prop} (CF : FormC K) (h : FormV K H x g tv) (q : Q tv) : ∃ a C dx fs v, x = .ref a ∧ H a = some (.ins C dx fs) ∧ Cls K C ∧ NoAttr K C "table" ∧ fs.lookup ("table" : Str) = some v ∧ Q v := by
  obtain ⟨p, dx, rfl, hp⟩ := h
  exact ⟨p, _, dx, _, tv, rfl, hp, CF.c, CF.nt, rfl, q⟩
theorem w_gnd {K : PySem.W.Frag} {H : Hp} {x tv : V} {g : Int} {Q : V → Prop} (CF : FormC K) (h : FormV K H x g tv) (q : Q (.int g)) : ∃ a C dx fs v, x = .ref a ∧ H a = some (.ins C dx fs) ∧ Cls K C ∧ NoAttr K C "ground" ∧ fs.lookup ("ground" : Str) = some v ∧ Q v := by
  obtain ⟨p, dx, rfl, hp⟩ := h
  exact ⟨p, _, dx, _, .int g, rfl, hp, CF.c, CF.ng, rfl, q⟩
theorem w_setF {K : PySem.W.Frag} {ta tv : TE} {f : Str} {D : Ends} {σ : L2.St} {H : Hp} (h : tv σ H fun y H1 => ta σ H1 fun x H2 => ∃ a C dx fs, x = .ref a ∧ H2 a = some (.ins C dx fs) ∧ Cls K C ∧ NoAttr K C f ∧ fs.length < 1000 ∧ D.nx σ (upd H2 a (.ins C dx (putF f y fs)))) : sFld K ta tv f D σ H := h
theorem w_makeN {C : Addr} {n m : Nat} {sp : Sp} {gV : List V → List V → List V} {E : XK} {t tk : TA} {σ : L2.St} {H : Hp} {Q : VK} (h : t σ H fun vs H1 => tk σ H1 fun zs H2 => vs.length = n ∧ zs.length = m ∧
  ∀ x dx, H2 x = none → H2 dx = none → dx ≠ x → sp (gV (.ref x :: vs) zs) (upd (upd H2 dx (.own x)) x (.ins C dx [])) (fun v H3 => v = .non ∧ Q (.ref x) H3) E) : tMakeN C n m sp gV E t tk σ H Q := h
theorem w_make {C : Addr} {sp : Sp} {dvs : List V} {E : XK} {t : TA} {σ : L2.St} {H : Hp} {Q : VK} (h : t σ H fun vs H1 => ∀ x dx, H1 x = none → H1 dx = none → dx ≠ x →
  sp (.ref x :: (vs ++ dvs)) (upd (upd H1 dx (.own x)) x (.ins C dx [])) (fun v H2 => v = .non ∧ Q (.ref x) H2) E) : tMake C sp dvs E t σ H Q := h
theorem made_same0 {H : Hp} {x dx C : Addr} (hx : H x = none) (hdx : H dx = none) : Same H (upd (upd H dx (.own x)) x (.ins C dx [])) := Same.updD (same_upd hdx) hx
theorem made_same {H H' : Hp} {x dx C : Addr} (hx : H x = none) (hdx : H dx = none) (k : ∀ a o, a ≠ x → (upd (upd H dx (.own x)) x (.ins C dx [])) a = some o → H' a = some o) : Same H H' := fun a o h => k a o (fun z => by rw [z, hx] at h; cases h) (made_same0 hx hdx a o h)
/-! ### rows compared -/
theorem eqvAll_nums : ∀ (r s : List (Int × Int)), PyData.eqvAll (r.map numD) (s.map numD) = decide (r = s)
  | [], [] => by simp [PyData.eqvAll]
  | [], _ :: _ => by simp [PyData.eqvAll]
  | _ :: _, [] => by simp [PyData.eqvAll]
  | a :: r, c :: s => by
    rw [List.map_cons, List.map_cons, PyData.eqvAll, num_eqv, eqvAll_nums r s]
    by_cases h1 : a = c <;> by_cases h2 : r = s <;> simp [h1, h2]
theorem row_eqv (r s : List (Int × Int)) : PyData.eqv (rowD r) (rowD s) = decide (r = s) := by
  rw [rowD, rowD, PyData.eqv]
  exact eqvAll_nums r s
theorem row_shaped (r : List (Int × Int)) : SeqAt.shaped (rowD r) = true := by
  have l := lay_num r
  exact shaped_of (by rw [rowD, PyData.canLay0]; exact l.1) (by rw [rowD, PyData.depth]; have := l.2; omega)
theorem w_eqRowB {K : PySem.W.Frag} {H : Hp} {Q : VK} {v v' : V} {r s : List (Int × Int)} (h1 : RowV H v r) (h2 : RowV H v' s) (q : Q (.bl (decide (r = s))) H) : rEqD K v v' H Q := by
  refine ⟨_, _, RowV.dp h1, RowV.dp h2, row_shaped r, row_shaped s, ?_⟩
  rw [row_eqv]
  exact q
/-! ### numbers, rows, tables as things -/
theorem numV_tb {H : Hp} {v : V} {a : Int × Int} {k : Nat} (h : NumV H v a) (h1 : a.1.natAbs < 2 ^ k) (h2 : a.2.natAbs < 2 ^ k) : TB k 1 H v := by
  obtain ⟨p, rfl, hp⟩ := h
  refine TB.tup hp (by simp) fun x hx => ?_
  rcases List.mem_cons.mp hx with rfl | hx
  · exact TB.at h1
  · rw [List.mem_singleton.mp hx]
    exact TB.at h2
theorem rowV_tb {H : Hp} {v : V} {r : List (Int × Int)} {g : Int} {k : Nat} (h : RowV H v r) (hl : r.length ≤ 100) (hr : ∀ a ∈ r, TN g k a) : TB k 2 H v := by
  obtain ⟨p, xs, rfl, hp, hlx, hx⟩ := h
  refine TB.tup hp (by omega) fun x hx' => ?_
  obtain ⟨i, hi⟩ := List.getElem?_of_mem hx'
  have hil := (List.getElem?_eq_some_iff.mp hi).1
  have gr : r[i]? = some (r[i]'(by omega)) := List.getElem?_eq_getElem _
  have := hr _ (List.mem_of_getElem? gr)
  exact numV_tb (hx i x _ hi gr) this.2.1 this.2.2
theorem tabV_tb {H : Hp} {v : V} {t : List (List (Int × Int))} {g : Int} {k : Nat} (h : TabV H v t) (hl : t.length ≤ 100) (hr : ∀ r ∈ t, r.length ≤ 100 ∧ ∀ a ∈ r, TN g k a) : TB k 3 H v := by
  obtain ⟨p, xs, rfl, hp, hlx, hx⟩ := h
  refine TB.tup hp (by omega) fun x hx' => ?_
  obtain ⟨i, hi⟩ := List.getElem?_of_mem hx'
  have hil := (List.getElem?_eq_some_iff.mp hi).1
  have gr : t[i]? = some (t[i]'(by omega)) := List.getElem?_eq_getElem _
  have := hr _ (List.mem_of_getElem? gr)
  exact rowV_tb (hx i x _ hi gr) this.1 this.2
theorem w_isT {K : PySem.W.Frag} {H : Hp} {Q : VK} {p : Addr} {xs : List V} (h : H p = some (.tup xs)) (q : Q (.bl true) H) : rIsi K [.ref p, .ty "tuple"] H Q :=
  isi_is (a := "tuple") (.base (.tup h)) (by rfl) q
theorem cell_ok2 {g : Int} {k : Nat} {r s : List (Int × Int)} (hg : g = 0 ∨ (3 ≤ g ∧ g ≤ 13)) (hr : ∀ x ∈ r, OkN g k x) (hs : ∀ x ∈ s, OkN g k x) (e1 : k * r.length ≤ 4000) (e2 : k * s.length ≤ 4000) (hk : k ≤ 800) (hl : r.length ≤ 10) :
    (g = 0 ∧ wrB r * wrB s ≠ 0 ∧ (wrB r * wrB s).natAbs < 2 ^ 8500) ∨ (3 ≤ g ∧ (dotF (wrT r) (wrT s)).natAbs < 2 ^ 50000 ∧ ∃ k : Int, 1 ≤ k ∧ k ≤ 13 ∧ (k * (wrB r * wrB s)).fmod g = 1) := by
  have p1 : ∀ x ∈ r, 0 < x.2 := fun x h => (hr x h).pos
  have p2 : ∀ x ∈ s, 0 < x.2 := fun x h => (hs x h).pos
  rcases hg with rfl | ⟨h3, h13⟩
  · refine .inl ⟨rfl, Int.mul_ne_zero (by have := (wrB_spec p1).1; omega) (by have := (wrB_spec p2).1; omega), ?_⟩
    have b1 := wrB_bd (k := k) (r := r) fun x h => ⟨p1 x h, (hr x h).2.1⟩
    have b2 := wrB_bd (k := k) (r := s) fun x h => ⟨p2 x h, (hs x h).2.1⟩
    rw [Int.natAbs_mul]
    refine Nat.lt_of_le_of_lt (Nat.mul_le_mul b1 b2) ?_
    rw [← Nat.pow_add]
    exact Nat.pow_lt_pow_right (by decide) (by omega)
  · have o1 : ∀ x ∈ r, x.2 = 1 := fun x h => by
      rcases (hr x h).2.2 with z | z
      · omega
      · exact z.2.2
    have o2 : ∀ x ∈ s, x.2 = 1 := fun x h => by
      rcases (hs x h).2.2 with z | z
      · omega
      · exact z.2.2
    refine .inr ⟨h3, ?_, 1, by decide, by decide, ?_⟩
    · have b1 := wrT_bd hr
      have b2 := wrT_bd hs
      have c1 : ∀ t ∈ wrT r, t.natAbs ≤ 2 ^ 4800 := fun t h => Nat.le_trans (b1 t h) (Nat.pow_le_pow_right (by decide) (by omega))
      have c2 : ∀ t ∈ wrT s, t.natAbs ≤ 2 ^ 4800 := fun t h => Nat.le_trans (b2 t h) (Nat.pow_le_pow_right (by decide) (by omega))
      have d := dot_bd c1 c2
      rw [wrT_len] at d
      refine Nat.lt_of_le_of_lt (Nat.le_trans d (Nat.mul_le_mul_right _ (show r.length ≤ 2 ^ 4 by omega))) ?_
      rw [← Nat.pow_add]
      exact Nat.pow_lt_pow_right (by decide) (by decide)
    · rw [wrB_one o1, wrB_one o2]
      show (1 : Int).fmod g = 1
      exact fmod_of_lt (by decide) (by omega)
/-! ### bounds by bits -/
theorem pw_mul {a b i j : Nat} (h1 : a ≤ 2 ^ i) (h2 : b ≤ 2 ^ j) : a * b ≤ 2 ^ (i + j) := by
  rw [Nat.pow_add]
  exact Nat.mul_le_mul h1 h2
theorem pw_le {a i j : Nat} (h : a ≤ 2 ^ i) (hij : i ≤ j) : a ≤ 2 ^ j := Nat.le_trans h (Nat.pow_le_pow_right (by decide) hij)
theorem pw_lt {a i j : Nat} (h : a ≤ 2 ^ i) (hij : i < j) : a < 2 ^ j := Nat.lt_of_le_of_lt h (Nat.pow_lt_pow_right (by decide) hij)
theorem pw_add {a b i : Nat} (h1 : a ≤ 2 ^ i) (h2 : b ≤ 2 ^ i) : a + b ≤ 2 ^ (i + 1) := by
  rw [Nat.pow_succ]
  omega
theorem pw_abs {a b : Int} {i j : Nat} (h1 : a.natAbs ≤ 2 ^ i) (h2 : b.natAbs ≤ 2 ^ j) : (a * b).natAbs ≤ 2 ^ (i + j) := by
  rw [Int.natAbs_mul]
  exact pw_mul h1 h2
theorem pw_five {m : Nat} (h : m ≤ 5) : m ≤ 2 ^ 3 ∧ m + 1 ≤ 2 ^ 3 := ⟨Nat.le_trans h (by decide), Nat.le_trans (Nat.succ_le_succ h) (by decide)⟩
end Fm

namespace Fr
open Lean.Grind
variable {F : Type} [CommRing F]
theorem bil_mull {T : List (Row F)} {m : Nat} (c : F) (u w : Row F) : bil T m (fun j => c * u j) w = c * bil T m u w := by
  unfold bil
  rw [thr_mul, ← SF_mul]
  exact SF_congr fun i _ => by grind
theorem bil_mulr {T : List (Row F)} {m : Nat} (c : F) (u w : Row F) : bil T m u (fun j => c * w j) = c * bil T m u w := by
  unfold bil
  rw [← SF_mul]
  exact SF_congr fun i _ => by grind
/-- maps of rows that keep sums and multiples -/
structure Lin (L : Row F → Row F) : Prop where
  add : ∀ u v : Row F, L (fun j => u j + v j) = fun j => L u j + L v j
  mul : ∀ (c : F) (u : Row F), L (fun j => c * u j) = fun j => c * L u j
theorem Lin.zero {L : Row F → Row F} (h : Lin L) : L (fun _ => 0) = fun _ => 0 := by
  have := h.mul 0 (fun _ => 0)
  have e : (fun j : Nat => (0 : F) * 0) = fun _ => 0 := funext fun _ => by grind
  rw [e] at this
  rw [this]
  exact funext fun _ => by grind
theorem Lin.sum {L : Row F → Row F} (h : Lin L) (c : Nat → F) (w : Nat → Row F) : ∀ n, L (fun j => SF (fun i => c i * w i j) n) = fun j => SF (fun i => c i * L (w i) j) n
  | 0 => h.zero
  | n + 1 => by
    show L (fun j => SF (fun i => c i * w i j) n + c n * w n j) = fun j => SF (fun i => c i * L (w i) j) n + c n * L (w n) j
    rw [h.add (fun j => SF (fun i => c i * w i j) n) (fun j => c n * w n j), h.sum c w n, h.mul]
theorem Lin.id : Lin (fun u : Row F => u) := ⟨fun _ _ => rfl, fun _ _ => rfl⟩
end Fr

namespace Fm
open Lean.Grind PySem L2 Fr Fd
section
variable {g : Int} {F : Type} [CommRing F]
variable {V : GV g F}
theorem rz_turn2 {D : Int} {M n l : Nat} {t : List (List (Int × Int))} (hl : t.length = n) (ht : ∀ r ∈ t, RZ g D M l r) : ∀ r ∈ turnF l t, RZ g D M n r := fun r hr => by
  obtain ⟨j, hj, rfl⟩ := List.mem_map.mp hr
  have hj' := List.mem_range.mp hj
  refine ⟨by rw [List.length_map, hl], fun x hx => ?_⟩
  obtain ⟨q, hq, rfl⟩ := List.mem_map.mp hx
  have hq2 := ht q hq
  refine hq2.2 _ ?_
  show q.getD j (0, 1) ∈ q
  have := hq2.1
  rw [List.getD_eq_getElem?_getD, List.getElem?_eq_getElem (by omega)]
  exact List.getElem_mem (by omega)
theorem prod_tz2 (hg : g = 0 ∨ Gr5 g) {D D' : Int} {M M' n l : Nat} {t1 t2 : List (List (Int × Int))} (hl2 : t2.length = n) (h1 : ∀ r ∈ t1, RZ g D M n r) (h2 : ∀ r ∈ t2, RZ g D' M' l r) :
    (∀ r ∈ (t1.map fun r => (turnF l t2).map (cellF g r)), RZ g (D * D') (n * (M * M')) l r) ∧ (t1.map fun r => (turnF l t2).map (cellF g r)).map (er V) = (t1.map (er V)).map (thr (t2.map (er V))) := by
  have hturn := rz_turn2 hl2 h2
  have key : ∀ r ∈ t1, ∀ s ∈ turnF l t2, TZ g (D * D') (n * (M * M')) (cellF g r s) ∧ V.e (cellF g r s) = SF (fun j => er V r j * er V s j) n := fun r hr s hs => by
    have hr1 := h1 r hr
    have hs1 := hturn s hs
    obtain ⟨a, b⟩ := cell_tz (V := V) hg r s (0, 1) 0 (by rw [hr1.1, hs1.1]) hr1.2 hs1.2 (TZ.zero hg _ 0)
    rw [hr1.1] at a b
    rw [Nat.zero_add] at a
    refine ⟨a, ?_⟩
    unfold cellF
    rw [b, V.zero]
    grind
  refine ⟨fun r hr => ?_, ?_⟩
  · obtain ⟨q, hq, rfl⟩ := List.mem_map.mp hr
    refine ⟨by rw [List.length_map, turn_len], fun a ha => ?_⟩
    obtain ⟨s, hs, rfl⟩ := List.mem_map.mp ha
    exact (key q hq s hs).1
  · rw [List.map_map, List.map_map]
    refine List.map_congr_left fun r hr => funext fun j => ?_
    show er V ((turnF l t2).map (cellF g r)) j = SF (fun i => er V r i * ((t2.map (er V)).getD i zr) j) (t2.map (er V)).length
    rw [List.length_map, hl2]
    by_cases hj : j < l
    · have hjl : j < ((turnF l t2).map (cellF g r)).length := by rw [List.length_map, turn_len]; exact hj
      rw [er_at hjl, List.getElem_map]
      have hg1 : (turnF l t2)[j]'(by rw [turn_len]; exact hj) = t2.map fun row => row.getD j (0, 1) := by
        have := turn_at (t := t2) hj
        rw [List.getElem?_eq_getElem (by rw [turn_len]; exact hj)] at this
        exact Option.some.inj this
      have hm : (t2.map fun row => row.getD j (0, 1)) ∈ turnF l t2 := List.mem_of_getElem? (turn_at hj)
      rw [hg1, (key r hr _ hm).2]
      refine SF_congr fun i hi => ?_
      congr 1
      rw [getD_map (List.getElem?_eq_getElem (by omega))]
      unfold er
      congr 1
      rw [List.getD_eq_getElem?_getD, List.getElem?_map, List.getElem?_eq_getElem (by omega)]
      rfl
    · rw [er_out (by rw [List.length_map, turn_len]; omega), SF_nul fun i hi => ?_]
      have hi2 : i < t2.length := by omega
      have e := er_out (V := V) (r := t2[i]) (j := j) (by have := (h2 _ (List.getElem_mem hi2)).1; omega)
      rw [getD_map (List.getElem?_eq_getElem hi2), e]
      grind

theorem TZ.less {D : Int} {M N : Nat} {a c : Int × Int} (hg : g = 0 ∨ Gr5 g) (ha : TZ g D M a) (hc : TZ g D N c) : TZ g D (M + N) (lessF g a c) := by
  obtain ⟨l, h4, hl⟩ := ha.1
  obtain ⟨m, h5, hm⟩ := hc.1
  rw [← less_eq hg hl hm h4 h5]
  exact ha.plus hg (hc.minus hg)
theorem rz_less {D : Int} {M N n : Nat} {r s : List (Int × Int)} (hg : g = 0 ∨ Gr5 g) (hr : RZ g D M n r) (hs : RZ g D N n s) : RZ g D (M + N) n (List.zipWith (lessF g) r s) := by
  refine ⟨by rw [List.length_zipWith, hr.1, hs.1]; omega, fun a ha => ?_⟩
  obtain ⟨x, hx, rfl⟩ := List.mem_iff_getElem.mp ha
  rw [List.length_zipWith] at hx
  rw [List.getElem_zipWith]
  exact (hr.2 _ (List.getElem_mem _)).less hg (hs.2 _ (List.getElem_mem _))
theorem RZ.mono {D : Int} {M N n : Nat} {r : List (Int × Int)} (h : RZ g D M n r) (hN : M ≤ N) : RZ g D N n r := ⟨h.1, fun a ha => (h.2 a ha).mono hN⟩
theorem RZ.wide {D : Int} {M n : Nat} {r : List (Int × Int)} (h : RZ g D M n r) (c : Int) : RZ g (D * c) (M * c.natAbs) n r := ⟨h.1, fun a ha => (h.2 a ha).wide c⟩
theorem RZ.tn {D : Int} {M n k : Nat} {r : List (Int × Int)} (hg : g = 0 ∨ Gr5 g) (h : RZ g D M n r) (hk : 4 ≤ k) (h0 : D ≠ 0) (hD : D.natAbs < 2 ^ k) (hM : M < 2 ^ k) : ∀ a ∈ r, TN g k a := fun a ha => (h.2 a ha).tn hg hk h0 hD hM
/-- a form's table turned is itself -/
theorem FrmT.turn (hg : g = 0 ∨ Gr5 g) {W : GV g F} {D : Int} {M m : Nat} {t : List (List (Int × Int))} (f : FrmT W D M m t) : turnF m t = t := by
  have hl := f.len
  refine List.ext_getElem (by rw [turn_len, hl]) fun i h1 h2 => ?_
  have hi : i < m := by omega
  have e1 : (turnF m t)[i] = t.map fun row => row.getD i (0, 1) := by
    have := turn_at (t := t) hi
    rw [List.getElem?_eq_getElem h1] at this
    exact Option.some.inj this
  have hr := f.row _ (List.getElem_mem h2)
  rw [e1]
  refine List.ext_getElem (by rw [List.length_map, hl, hr.1]) fun j h3 h4 => ?_
  have hj : j < m := by rw [List.length_map] at h3; omega
  have hjt : j < t.length := by omega
  have hrj := f.row _ (List.getElem_mem hjt)
  have hij : i < t[j].length := by rw [hrj.1]; exact hi
  rw [List.getElem_map]
  have e2 : t[j].getD i (0, 1) = t[j][i] := by rw [List.getD_eq_getElem?_getD, List.getElem?_eq_getElem hij]; rfl
  rw [e2]
  obtain ⟨⟨l, _, hl1⟩, _⟩ := hrj.2 _ (List.getElem_mem hij)
  obtain ⟨⟨k, _, hl2⟩, _⟩ := hr.2 _ (List.getElem_mem h4)
  refine W.inj hg hl1 hl2 ?_
  have hs := f.sym j i hj hi
  rw [getD_map (List.getElem?_eq_getElem hjt), getD_map (List.getElem?_eq_getElem h2), er_at hij, er_at h4] at hs
  exact hs
/-- products of rows, as the program tells them -/
theorem prods_tz (hg : g = 0 ∨ Gr5 g) {Dr Dt Ds : Int} {Mr Mt Ms m : Nat} {rs t ss : List (List (Int × Int))} (hl : t.length = m) (h1 : ∀ r ∈ rs, RZ g Dr Mr m r) (h2 : ∀ r ∈ t, RZ g Dt Mt m r) (h3 : ∀ r ∈ ss, RZ g Ds Ms m r) {T : List (List (Int × Int))}
    (hT : T = (rs.map fun r => (turnF m t).map (cellF g r)).map fun r => (turnF ss.length (turnF m ss)).map (cellF g r)) :
    T.length = rs.length ∧ (∀ r ∈ T, RZ g (Dr * Dt * Ds) (m * (m * (Mr * Mt) * Ms)) ss.length r) ∧ ∀ (i j : Nat) (r s q : List (Int × Int)), rs[i]? = some r → ss[j]? = some s → T[i]? = some q → er V q j = bil (t.map (er V)) m (er V r) (er V s) := by
  obtain ⟨a1, a2⟩ := prod_tz2 (V := V) hg hl h1 h2
  have hss := rz_turn2 rfl h3
  obtain ⟨b1, b2⟩ := prod_tz2 (V := V) hg (turn_len (l := m) (t := ss)) a1 hss
  refine ⟨by rw [hT, List.length_map, List.length_map], fun r hr => b1 r (by rw [← hT]; exact hr), fun i j r s q hr hs hq => ?_⟩
  have hjl := (List.getElem?_eq_some_iff.mp hs).1
  have e : (T.map (er V))[i]? = some (er V q) := by rw [List.getElem?_map, hq]; rfl
  rw [hT, b2, a2, List.getElem?_map, List.getElem?_map, List.getElem?_map, hr] at e
  have e2 : thr ((turnF m ss).map (er V)) (thr (t.map (er V)) (er V r)) = er V q := Option.some.inj e
  rw [← e2]
  show SF (fun i => thr (t.map (er V)) (er V r) i * (((turnF m ss).map (er V)).getD i zr) j) ((turnF m ss).map (er V)).length = SF (fun j => thr (t.map (er V)) (er V r) j * er V s j) m
  rw [List.length_map, turn_len]
  refine SF_congr fun k hk => ?_
  congr 1
  rw [getD_map (turn_at hk)]
  have hsj : s = ss[j] := by
    rw [List.getElem?_eq_getElem hjl] at hs
    exact (Option.some.inj hs).symm
  rw [er_at (show j < (ss.map fun row => row.getD k (0, 1)).length by rw [List.length_map]; exact hjl), List.getElem_map, er_ga, hsj]
/-- what times x is -2 -/
noncomputable def hv (W : GV g F) (x : F) : F := @Classical.epsilon F ⟨0⟩ fun y => y * x = W.i (-2)
theorem hv_ok (W : GV g F) {x : F} (hx : x ≠ 0) : hv W x * x = W.i (-2) := by
  have : ∃ y, y * x = W.i (-2) := by
    obtain ⟨y, hy⟩ := W.inv x hx
    exact ⟨W.i (-2) * y, by grind⟩
  exact Classical.epsilon_spec this
theorem hv_is (W : GV g F) {x c : F} (hx : x ≠ 0) (h : c * x = W.i (-2)) : c = hv W x := W.cancel (h.trans (hv_ok W hx).symm) hx
/-- the mirror by a row -/
noncomputable def mirF (W : GV g F) (B : List (Row F)) (m : Nat) (r u : Row F) : Row F := fun j => u j + hv W (bil B m r r) * bil B m u r * r j
noncomputable def mirsF (W : GV g F) (B : List (Row F)) (m : Nat) (rs : List (Row F)) (u : Row F) : Row F := rs.foldl (fun u r => mirF W B m r u) u
end
end Fm

namespace Fm
open Lean.Grind PySem L2 Fr Fd
/-- a call of what may raise, in what may raise -/
theorem w_callS {sp : Sp} {E : L2.St → XK} {as : TA} {σ : L2.St} {H : Hp} {Q : VK} (h : as σ H fun vs H1 => sp vs H1 Q (E σ)) : tCallS sp E as σ H Q := h
section
variable {g : Int} {F : Type} [CommRing F]
/-! ### roots in the field -/
theorem root_tn (hg : g = 0 ∨ Gr5 g) (W : GV g F) {k : Nat} {a r : Int × Int} (hk : 4 ≤ k) (ha : TN g k a) (h : rootV g a = some r) : TN g k r ∧ W.e r * W.e r = W.e a := by
  have hn := root_num ha h
  unfold rootV at h
  rcases ha.1 with ⟨rfl, h1, h2⟩ | ⟨hg0, h1, h2, h3⟩
  · rw [if_pos rfl] at h
    split at h
    · cases h
    · split at h
      · rename_i h0 hh
        obtain ⟨e1, e2⟩ := hh
        cases h
        rw [numOk_0, Bool.and_eq_true] at hn
        have hq := _root_.of_decide_eq_true hn.1
        have hgc := _root_.of_decide_eq_true hn.2
        generalize (isqrt a.1.toNat : Int) = p at *
        generalize (isqrt a.2.toNat : Int) = q at *
        have lep : p.natAbs ≤ a.1.natAbs := by
          rw [← e1, Int.natAbs_mul]
          by_cases z : p.natAbs = 0
          · omega
          · exact Nat.le_mul_of_pos_left _ (by omega)
        have leq : q.natAbs ≤ a.2.natAbs := by
          rw [← e2, Int.natAbs_mul]
          exact Nat.le_mul_of_pos_left _ (by omega)
        have htn : TN 0 k (p, q) := ⟨.inl ⟨rfl, ⟨by show 0 < q; omega, by exact_mod_cast hgc⟩⟩, by have := ha.2.1; show p.natAbs < _; omega, by have := ha.2.2; show q.natAbs < _; omega⟩
        refine ⟨htn, ?_⟩
        obtain ⟨k1, k2⟩ := W.tn hg htn
        obtain ⟨k3, k4⟩ := W.tn hg ha
        refine W.cancel (z := W.i a.2) ?_ k4
        rw [k3, ← e1, ← e2, W.imul, W.imul]
        have k1' : W.e (p, q) * W.i q = W.i p := k1
        rw [← k1']
        grind
      · cases h
  · rw [if_neg (by omega)] at h
    cases e : wroot g a.1 with
    | none =>
      rw [e] at h
      cases h
    | some i =>
      rw [e] at h
      cases h
      have hm := List.find?_some e
      obtain ⟨n, hn', rfl⟩ := List.mem_map.mp (List.mem_of_find?_eq_some e)
      have hng := List.mem_range.mp hn'
      have e2 : ((n : Int) * (n : Int)).fmod g = a.1 := _root_.of_decide_eq_true hm
      have hg5 : Gr5 g := hg.resolve_left (by omega)
      have hg13 : g ≤ 13 := by unfold Gr5 at hg5; omega
      have h16 : 2 ^ 4 ≤ 2 ^ k := Nat.pow_le_pow_right (by decide) hk
      have htn : TN g k ((n : Int), 1) := ⟨.inr ⟨hg0, by show 0 ≤ (n : Int); omega, by show (n : Int) < g; omega, rfl⟩, by show (n : Int).natAbs < 2 ^ k; omega, by show (1 : Int).natAbs < 2 ^ k; omega⟩
      refine ⟨htn, ?_⟩
      obtain ⟨k1, _⟩ := W.tn hg htn
      obtain ⟨k3, _⟩ := W.tn hg ha
      have k1' : W.e ((n : Int), 1) * W.i 1 = W.i (n : Int) := k1
      rw [h3] at k3
      rw [W.i1] at k1' k3
      have k5 := W.imod (show g ≠ 0 by omega) ((n : Int) * (n : Int))
      rw [e2, W.imul] at k5
      grind
/-! ### values as whole numbers over one bottom -/
def ZV (W : GV g F) (D : Int) (M : Nat) (x : F) : Prop := ∃ z : Int, x * W.i D = W.i z ∧ z.natAbs ≤ M
variable {W : GV g F}
theorem ZV.zero (D : Int) (M : Nat) : ZV W D M 0 := ⟨0, by rw [W.i0]; grind, Nat.zero_le _⟩
theorem ZV.one : ZV W 1 1 1 := ⟨1, by rw [W.i1]; grind, by decide⟩
theorem ZV.mono {D : Int} {M N : Nat} {x : F} (h : ZV W D M x) (hN : M ≤ N) : ZV W D N x := by
  obtain ⟨z, h1, h2⟩ := h
  exact ⟨z, h1, Nat.le_trans h2 hN⟩
theorem ZV.add {D : Int} {M N : Nat} {x y : F} (hx : ZV W D M x) (hy : ZV W D N y) : ZV W D (M + N) (x + y) := by
  obtain ⟨z, h1, h2⟩ := hx
  obtain ⟨w, h3, h4⟩ := hy
  exact ⟨z + w, by rw [W.iadd, ← h1, ← h3]; grind, by omega⟩
theorem ZV.mul {D D' : Int} {M N : Nat} {x y : F} (hx : ZV W D M x) (hy : ZV W D' N y) : ZV W (D * D') (M * N) (x * y) := by
  obtain ⟨z, h1, h2⟩ := hx
  obtain ⟨w, h3, h4⟩ := hy
  exact ⟨z * w, by rw [W.imul, W.imul, ← h1, ← h3]; grind, by rw [Int.natAbs_mul]; exact Nat.mul_le_mul h2 h4⟩
theorem ZV.wide {D : Int} {M : Nat} {x : F} (hx : ZV W D M x) (c : Int) : ZV W (D * c) (M * c.natAbs) x := by
  obtain ⟨z, h1, h2⟩ := hx
  exact ⟨z * c, by rw [W.imul, W.imul, ← h1]; grind, by rw [Int.natAbs_mul]; exact Nat.mul_le_mul_right _ h2⟩
theorem ZV.sum {D : Int} {M : Nat} {f : Nat → F} : ∀ {n : Nat}, (∀ i, i < n → ZV W D M (f i)) → ZV W D (n * M) (SF f n)
  | 0, _ => ZV.zero D _
  | n + 1, h => by
    have := (ZV.sum (n := n) fun i hi => h i (by omega)).add (h n (by omega))
    rw [Nat.succ_mul]
    exact this
theorem ZV.ne {D : Int} {M : Nat} {x : F} (hD : D ≠ 0) (hg : g = 0) (hx : x ≠ 0) {z : Int} (h : x * W.i D = W.i z) : z ≠ 0 := fun e => by
  rw [e, W.i0] at h
  exact W.ine hD (fun q => absurd hg q) (W.dom h hx)
theorem zv_unit (i j : Nat) : ZV W 1 1 (unit i j) := by
  unfold unit
  split
  · exact ZV.one
  · exact ZV.zero _ _
theorem zv_thr {Dt Du : Int} {Mt Mu m : Nat} {t : List (Row F)} {u : Row F} (hl : t.length = m) (ht : ∀ i, i < m → ∀ j, ZV W Dt Mt ((t.getD i zr) j)) (hu : ∀ i, ZV W Du Mu (u i)) (j : Nat) : ZV W (Du * Dt) (m * (Mu * Mt)) (thr t u j) := by
  show ZV W (Du * Dt) (m * (Mu * Mt)) (SF (fun i => u i * (t.getD i zr) j) t.length)
  rw [hl]
  exact ZV.sum fun i hi => (hu i).mul (ht i hi j)
theorem zv_bil {Dt Du Dv : Int} {Mt Mu Mv m : Nat} {t : List (Row F)} {u v : Row F} (hl : t.length = m) (ht : ∀ i, i < m → ∀ j, ZV W Dt Mt ((t.getD i zr) j)) (hu : ∀ i, ZV W Du Mu (u i)) (hv : ∀ i, ZV W Dv Mv (v i)) : ZV W (Du * Dt * Dv) (m * (m * (Mu * Mt) * Mv)) (bil t m u v) :=
  ZV.sum fun j _ => (zv_thr hl ht hu j).mul (hv j)
theorem TZ.zv (hg0 : g = 0) {D : Int} {M : Nat} {a : Int × Int} (h : TZ g D M a) : ZV W D M (W.e a) := by
  subst hg0
  obtain ⟨z, _, h2, h3⟩ := TZ.val (V := W) h
  exact ⟨z, h2, h3⟩
theorem RZ.zv (hg0 : g = 0) {D : Int} {M n : Nat} {r : List (Int × Int)} (h : RZ g D M n r) (j : Nat) : ZV W D M (er W r j) := by
  by_cases hj : j < r.length
  · rw [er_at hj]
    exact (h.2 _ (List.getElem_mem hj)).zv hg0
  · rw [er_out (by omega)]
    exact ZV.zero _ _
theorem tz_of {D : Int} {M : Nat} {a : Int × Int} (h : ∃ l, 4 ≤ l ∧ TN g l a) (hz : g = 0 → ZV W D M (W.e a)) : TZ g D M a := by
  obtain ⟨l, h4, hl⟩ := h
  by_cases hg0 : g = 0
  · subst hg0
    obtain ⟨z, h1, h2⟩ := hz rfl
    exact TZ.ofv h4 hl h1 h2
  · exact ⟨⟨l, h4, hl⟩, fun e => absurd e hg0⟩
/-! ### mirrors by multiples -/
theorem mir_scale (W : GV g F) {B : List (Row F)} {m : Nat} {r : Row F} {k : F} (hk : k ≠ 0) (hr : bil B m r r ≠ 0) : mirF W B m (fun j => k * r j) = mirF W B m r := by
  have e : bil B m (fun j => k * r j) (fun j => k * r j) = k * k * bil B m r r := by
    rw [bil_mull, bil_mulr]
    grind
  have hne : k * k * bil B m r r ≠ 0 := fun z => by
    have h1 : k * k ≠ 0 := fun y => hk (W.dom y hk)
    exact hr (W.dom z h1)
  have h := hv_ok W hne
  have h2 : hv W (k * k * bil B m r r) * (k * k) = hv W (bil B m r r) := hv_is W hr (by rw [← h]; grind)
  funext u j
  unfold mirF
  rw [e, bil_mulr, ← h2]
  grind
/-- how many bits a mirror's table may have -/
def mirE (dt et dr er : Nat) : Nat := 5 + et + 2 * er + dt + 2 * dr
/-- tables whose rows are what a mirror leads letters to -/
def MirT (W : GV g F) (B : List (Row F)) (m : Nat) (r : Row F) (T : List (List (Int × Int))) : Prop := T.length = m ∧ (∀ q ∈ T, q.length = m ∧ ∀ a ∈ q, ∃ l, 4 ≤ l ∧ TN g l a) ∧ ∀ i, i < m → (T.map (er W)).getD i zr = mirF W B m r (unit i)
/-- they are no greater than that -/
theorem mir_sz (hg : g = 0 ∨ Gr5 g) {t : List (List (Int × Int))} {r : List (Int × Int)} {m : Nat} {Dt Dr : Int} {Mt Mr dt et dr er' : Nat} (hm : m ≤ 5) (htl : t.length = m) (ht : ∀ q ∈ t, RZ g Dt Mt m q) (hr : RZ g Dr Mr m r) (hDt : Dt ≠ 0) (hDr : Dr ≠ 0) (bDt : Dt.natAbs ≤ 2 ^ dt) (bMt : Mt ≤ 2 ^ et) (bDr : Dr.natAbs ≤ 2 ^ dr) (bMr : Mr ≤ 2 ^ er') (hw : bil (t.map (er W)) m (er W r) (er W r) ≠ 0) :
    ∃ C : Int, C ≠ 0 ∧ C.natAbs ≤ 2 ^ mirE dt et dr er' ∧ ∀ T, MirT W (t.map (er W)) m (er W r) T → ∀ q ∈ T, RZ g C (2 ^ (mirE dt et dr er' + 2)) m q := by
  by_cases hg0 : g = 0
  · have htz : ∀ i, i < m → ∀ j, ZV W Dt Mt (((t.map (er W)).getD i zr) j) := fun i hi j => by
      rw [getD_map (List.getElem?_eq_getElem (by omega))]
      exact (ht _ (List.getElem_mem (by omega))).zv hg0 j
    have hB : (t.map (er W)).length = m := by rw [List.length_map]; exact htl
    have hrz : ∀ j, ZV W Dr Mr (er W r j) := fun j => hr.zv hg0 j
    obtain ⟨zq, e1, b1⟩ := zv_bil hB htz hrz hrz
    have hDq : Dr * Dt * Dr ≠ 0 := Int.mul_ne_zero (Int.mul_ne_zero hDr hDt) hDr
    have hzq := ZV.ne (M := 0) hDq hg0 hw e1
    have hmm : m * m ≤ 2 ^ 5 := by
      rcases (by omega : m = 0 ∨ m = 1 ∨ m = 2 ∨ m = 3 ∨ m = 4 ∨ m = 5) with rfl | rfl | rfl | rfl | rfl | rfl <;> decide
    have c1 : m * (m * (Mr * Mt) * Mr) ≤ 2 ^ (5 + et + 2 * er') := by
      have : m * (m * (Mr * Mt) * Mr) = m * m * (Mr * Mt * Mr) := by ac_rfl
      rw [this]
      exact pw_le (pw_mul hmm (pw_mul (pw_mul bMr bMt) bMr)) (by omega)
    have c2 : (Dr * Dt * Dr).natAbs ≤ 2 ^ (dt + 2 * dr) := pw_le (pw_abs (pw_abs bDr bDt) bDr) (by omega)
    have c3 : (1 * Dt * Dr).natAbs ≤ 2 ^ (dt + dr) := by
      rw [Int.one_mul]
      exact pw_abs bDt bDr
    have hC0 : zq * (1 * Dt * Dr) * Dr ≠ 0 := Int.mul_ne_zero (Int.mul_ne_zero hzq (Int.mul_ne_zero (Int.mul_ne_zero (by decide) hDt) hDr)) hDr
    have hCb : (zq * (1 * Dt * Dr) * Dr).natAbs ≤ 2 ^ mirE dt et dr er' := by
      unfold mirE
      exact pw_le (pw_abs (pw_abs (Nat.le_trans b1 c1) c3) bDr) (by omega)
    refine ⟨_, hC0, hCb, fun T hT q hq => ?_⟩
    obtain ⟨hTl, hTn, hTe⟩ := hT
    refine ⟨(hTn q hq).1, fun a ha => tz_of (W := W) ((hTn q hq).2 a ha) fun _ => ?_⟩
    obtain ⟨i, hi⟩ := List.getElem?_of_mem hq
    have him := (List.getElem?_eq_some_iff.mp hi).1
    obtain ⟨j, hj⟩ := List.getElem?_of_mem ha
    have hjm := (List.getElem?_eq_some_iff.mp hj).1
    have ev : W.e a = mirF W (t.map (er W)) m (er W r) (unit i) j := by
      rw [← hTe i (by omega), getD_map hi, er_at hjm]
      rw [List.getElem?_eq_getElem hjm] at hj
      rw [Option.some.inj hj]
    obtain ⟨zb, e2, b2⟩ := zv_bil (u := unit i) hB htz (fun k => zv_unit i k) hrz
    obtain ⟨zr', e3, b3⟩ := hrz j
    obtain ⟨zu, e4, b4⟩ := zv_unit (W := W) i j
    rw [ev]
    have hh := hv_ok W hw
    have hz : hv W (bil (t.map (er W)) m (er W r) (er W r)) * W.i zq = W.i (-2) * W.i (Dr * Dt * Dr) := by
      rw [← e1, ← hh]
      grind
    refine ⟨zu * (zq * (1 * Dt * Dr) * Dr) + -2 * (Dr * Dt * Dr) * zb * zr', ?_, ?_⟩
    · unfold mirF
      have e4' : (unit i j : F) = W.i zu := by rw [← e4, W.i1]; grind
      have x1 : W.i (zq * (1 * Dt * Dr) * Dr) = W.i zq * W.i (1 * Dt * Dr) * W.i Dr := by rw [W.imul, W.imul zq]
      have x2 : W.i (zu * (zq * (1 * Dt * Dr) * Dr) + -2 * (Dr * Dt * Dr) * zb * zr') = W.i zu * (W.i zq * W.i (1 * Dt * Dr) * W.i Dr) + W.i (-2) * W.i (Dr * Dt * Dr) * W.i zb * W.i zr' := by
        rw [W.iadd, W.imul zu, x1, W.imul (-2 * (Dr * Dt * Dr) * zb), W.imul (-2 * (Dr * Dt * Dr)), W.imul (-2)]
      rw [x1, x2, ← hz, ← e2, ← e3, e4']
      grind
    · have d1 : (zu * (zq * (1 * Dt * Dr) * Dr)).natAbs ≤ 2 ^ (mirE dt et dr er' + 1) := by
        rw [Int.natAbs_mul]
        exact pw_le (pw_mul (show zu.natAbs ≤ 2 ^ 0 by exact b4) hCb) (by omega)
      have d2 : (-2 * (Dr * Dt * Dr) * zb * zr').natAbs ≤ 2 ^ (mirE dt et dr er' + 1) := by
        have f1 : m * (m * (1 * Mt) * Mr) ≤ 2 ^ (5 + et + er') := by
          have : m * (m * (1 * Mt) * Mr) = m * m * (Mt * Mr) := by rw [Nat.one_mul]; ac_rfl
          rw [this]
          exact pw_le (pw_mul hmm (pw_mul bMt bMr)) (by omega)
        unfold mirE
        exact pw_le (pw_abs (pw_abs (pw_abs (show (-2 : Int).natAbs ≤ 2 ^ 1 by decide) c2) (Nat.le_trans b2 f1)) (Nat.le_trans b3 bMr)) (by omega)
      have := pw_add d1 d2
      exact Nat.le_trans (Int.natAbs_add_le _ _) this
  · refine ⟨1, by decide, Nat.pow_pos (by decide), fun T hT q hq => ⟨(hT.2.1 q hq).1, fun a ha => ⟨(hT.2.1 q hq).2 a ha, fun e => absurd e hg0⟩⟩⟩
/-- a row by whose mirror may be reckoned: its own size, and the size of the mirror's table -/
def MirS (W : GV g F) (t : List (List (Int × Int))) (m dt et : Nat) (r : List (Int × Int)) (E : Nat) : Prop :=
  (∃ (Dr : Int) (Mr dr er' : Nat), RZ g Dr Mr m r ∧ Dr ≠ 0 ∧ Dr.natAbs ≤ 2 ^ dr ∧ Mr ≤ 2 ^ er' ∧ mirE dt et dr er' ≤ 3800) ∧ bil (t.map (er W)) m (er W r) (er W r) ≠ 0 ∧ ∃ C : Int, C ≠ 0 ∧ C.natAbs ≤ 2 ^ E ∧ ∀ T, MirT W (t.map (er W)) m (er W r) T → ∀ q ∈ T, RZ g C (2 ^ (E + 2)) m q
theorem MirS.of (hg : g = 0 ∨ Gr5 g) {t : List (List (Int × Int))} {r : List (Int × Int)} {m : Nat} {Dt Dr : Int} {Mt Mr dt et dr er' : Nat} (hm : m ≤ 5) (htl : t.length = m) (ht : ∀ q ∈ t, RZ g Dt Mt m q) (hr : RZ g Dr Mr m r) (hDt : Dt ≠ 0) (hDr : Dr ≠ 0) (bDt : Dt.natAbs ≤ 2 ^ dt) (bMt : Mt ≤ 2 ^ et) (bDr : Dr.natAbs ≤ 2 ^ dr) (bMr : Mr ≤ 2 ^ er') (hE : mirE dt et dr er' ≤ 3800) (hw : bil (t.map (er W)) m (er W r) (er W r) ≠ 0) : MirS W t m dt et r (mirE dt et dr er') :=
  ⟨⟨Dr, Mr, dr, er', hr, hDr, bDr, bMr, hE⟩, hw, mir_sz hg hm htl ht hr hDt hDr bDt bMt bDr bMr hw⟩
/-- a multiple of a row is as good for the mirror's table -/
theorem MirS.scale {t : List (List (Int × Int))} {r s : List (Int × Int)} {m dt et E : Nat} {k : F} (h : MirS W t m dt et r E) (hk : k ≠ 0) (e : er W s = fun j => k * er W r j) {Dr : Int} {Mr dr er' : Nat} (hs : RZ g Dr Mr m s) (hDr : Dr ≠ 0) (bDr : Dr.natAbs ≤ 2 ^ dr) (bMr : Mr ≤ 2 ^ er') (hE : mirE dt et dr er' ≤ 3800) : MirS W t m dt et s E := by
  obtain ⟨_, hw, C, h1, h2, h3⟩ := h
  refine ⟨⟨Dr, Mr, dr, er', hs, hDr, bDr, bMr, hE⟩, ?_, C, h1, h2, fun T hT => h3 T ?_⟩
  · rw [e, bil_mull, bil_mulr]
    intro z
    exact hw (W.dom (W.dom z hk) hk)
  · unfold MirT at hT ⊢
    rw [e, mir_scale W hk hw] at hT
    exact hT
end
end Fm

namespace Fm
open PySem PySem.Spec PyProof.Rows L2 Fd Fr
local macro_rules | `(tactic| walk_at "s1") => `(tactic| first
  | with_reducible refine w_seq ?_ | with_reducible refine w_asg ?_ | with_reducible refine w_ret ?_ | with_reducible refine w_drop ?_ | with_reducible refine w_ifs ?_ | with_reducible refine w_next ?_
  | with_reducible refine w_op ?_ | with_reducible refine w_un ?_ | with_reducible refine w_c ?_ | ((with_reducible refine' w_var ?h ?_); (case h => exact rfl)) | with_reducible refine w_name ?_ | with_reducible refine w_sub ?_
  | with_reducible refine w_test ?_ | with_reducible refine w_B ?_ | with_reducible refine w_exb ?_ | with_reducible refine w_and ?_ | with_reducible refine w_or ?_ | with_reducible refine w_not ?_
  | with_reducible refine w_andV ?_ | with_reducible refine w_orV ?_ | with_reducible refine w_notV ?_ | with_reducible refine w_if ?_
  | with_reducible refine w_I0 ?_ | with_reducible refine w_U ?_ | with_reducible refine w_eqI ?_ | with_reducible refine w_neI ?_
  | with_reducible refine w_nil ?_ | with_reducible refine w_cons ?_ | with_reducible refine w_tup ?_ | with_reducible refine w_lst ?_ | with_reducible refine w_cb ?_ | with_reducible refine w_call ?_
  | ((with_reducible refine' w_ixL ?h ?e ?_); (case h => assumption); (case e => exact rfl)) | ((with_reducible refine' w_ixT ?h ?e ?_); (case h => assumption); (case e => exact rfl))
  | with_reducible refine w_par ?_ | with_reducible refine w_ex2 ?_ | with_reducible refine w_t ?_ | with_reducible refine w_f ?_ | with_reducible refine w_for ?_ | with_reducible refine w_sl ?_ | with_reducible refine w_part ?_ | with_reducible refine w_nopart ?_ | with_reducible refine w_exi ?_ | with_reducible refine w_chain ?_ | with_reducible refine w_rng2 ?_ | with_reducible refine w_bm ?_ | with_reducible refine w_revL ?_ | with_reducible refine w_js ?_ | with_reducible refine w_js0 ?_ | with_reducible refine w_fmt ?_ | with_reducible refine w_lc ?_ | with_reducible refine w_yes ?_ | with_reducible refine w_zipA ?_ | with_reducible refine w_itup ?_ | with_reducible refine w_ilist ?_ | with_reducible refine w_gcons ?_ | with_reducible refine w_gnil ?_
  | ((with_reducible refine' w_gtup ?h ?e ?_); (case h => assumption); (case e => exact rfl)) | ((with_reducible refine' w_glst ?h ?e ?_); (case h => assumption); (case e => exact rfl)) | with_reducible refine w_tru ?_ | with_reducible refine w_rng1 ?_ | with_reducible refine w_e1 ?_ | with_reducible refine w_e2 ?_ | with_reducible refine w_bits ?_ | with_reducible refine w_step2 ?_ | with_reducible refine w_lenSetI ?_ | with_reducible refine w_enum ?_ | with_reducible refine w_enumT ?_ | with_reducible refine w_par3 ?_ | with_reducible refine w_ex3 ?_ | with_reducible refine w_fld ?_ | with_reducible refine w_setF ?_ | with_reducible refine w_makeN ?_ | with_reducible refine w_make ?_ | with_reducible refine w_callS ?_)
local macro_rules | `(tactic| walk_at "go") => `(tactic| repeat (walk_at "s1"))
local macro_rules | `(tactic| walk_at "tr") => `(tactic| repeat (first | assumption | (refine TB.kd (Kd.of (by assumption)) ?_) | (refine TB.kd (by assumption) ?_)))


abbrev s_is_whole : Stmt := topS 22
theorem sc_is_whole : FnScope ["thing"] ["thing"] (defScope s_is_whole) := ⟨rfl, rfl, rfl, by decide +kernel, rfl, by decide +kernel, by decide +kernel⟩

abbrev s_common_divisor : Stmt := topS 23
theorem sc_common_divisor : FnScope ["a", "b"] ["a", "b"] (defScope s_common_divisor) := ⟨rfl, rfl, rfl, by decide +kernel, rfl, by decide +kernel, by decide +kernel⟩

abbrev s_whole_root : Stmt := topS 24
theorem sc_whole_root : FnScope ["square", "guess", "better"] ["square"] (defScope s_whole_root) := ⟨rfl, rfl, rfl, by decide +kernel, rfl, by decide +kernel, by decide +kernel⟩

abbrev s_wheel_back : Stmt := topS 30
theorem sc_wheel_back : FnScope ["wheel", "whole", "found"] ["wheel", "whole"] (defScope s_wheel_back) := ⟨rfl, rfl, rfl, by decide +kernel, rfl, by decide +kernel, by decide +kernel⟩

abbrev s_wheel_root : Stmt := topS 37
theorem sc_wheel_root : FnScope ["wheel", "x", "a"] ["wheel", "x"] (defScope s_wheel_root) := ⟨rfl, rfl, rfl, by decide +kernel, rfl, by decide +kernel, by decide +kernel⟩

abbrev s_dot : Stmt := topS 44
theorem sc_dot : FnScope ["wholes", "others", "whole", "other"] ["wholes", "others"] (defScope s_dot) := ⟨rfl, rfl, rfl, by decide +kernel, rfl, by decide +kernel, by decide +kernel⟩

abbrev s_turned : Stmt := topS 46
theorem sc_turned : FnScope ["table", "at", "row"] ["table"] (defScope s_turned) := ⟨rfl, rfl, rfl, by decide +kernel, rfl, by decide +kernel, by decide +kernel⟩

abbrev s_smaller_row : Stmt := topS 49
theorem sc_smaller_row : FnScope ["row", "head", "last", "at"] ["row", "head", "last"] (defScope s_smaller_row) := ⟨rfl, rfl, rfl, by decide +kernel, rfl, by decide +kernel, by decide +kernel⟩

abbrev s_head_place : Stmt := topS 50
theorem sc_head_place : FnScope ["rows", "begin", "at", "place"] ["rows", "begin", "at"] (defScope s_head_place) := ⟨rfl, rfl, rfl, by decide +kernel, rfl, by decide +kernel, by decide +kernel⟩

abbrev s__law_bag : Stmt := topS 70
theorem sc__law_bag : FnScope ["_law_script", "_law_at", "_law_cell", "_law_great", "_law_primes", "_law_mixed_here"] ["_law_script", "_law_at"] (defScope s__law_bag) := ⟨rfl, rfl, rfl, by decide +kernel, rfl, by decide +kernel, by decide +kernel⟩

abbrev s__law_take : Stmt := topS 71
theorem sc__law_take : FnScope ["_law_bag_here", "_law_many", "_law_digit"] ["_law_bag_here", "_law_many"] (defScope s__law_take) := ⟨rfl, rfl, rfl, by decide +kernel, rfl, by decide +kernel, by decide +kernel⟩

abbrev s__law_is_whole : Stmt := topS 73
theorem sc__law_is_whole : FnScope ["_law_thing"] ["_law_thing"] (defScope s__law_is_whole) := ⟨rfl, rfl, rfl, by decide +kernel, rfl, by decide +kernel, by decide +kernel⟩

abbrev s__law_shared : Stmt := topS 74
theorem sc__law_shared : FnScope ["_law_one", "_law_other"] ["_law_one", "_law_other"] (defScope s__law_shared) := ⟨rfl, rfl, rfl, by decide +kernel, rfl, by decide +kernel, by decide +kernel⟩

abbrev s__law_turned : Stmt := topS 85
theorem sc__law_turned : FnScope ["_law_table", "_law_k", "_law_row_here"] ["_law_table"] (defScope s__law_turned) := ⟨rfl, rfl, rfl, by decide +kernel, rfl, by decide +kernel, by decide +kernel⟩

abbrev s__law_ones : Stmt := topS 86
theorem sc__law_ones : FnScope ["_law_many", "_law_i", "_law_j"] ["_law_many"] (defScope s__law_ones) := ⟨rfl, rfl, rfl, by decide +kernel, rfl, by decide +kernel, by decide +kernel⟩

abbrev s_is_ground : Stmt := topS 27
theorem sc_is_ground : FnScope ["thing"] ["thing"] (defScope s_is_ground) := ⟨rfl, rfl, rfl, by decide +kernel, rfl, by decide +kernel, by decide +kernel⟩

abbrev s_is_number : Stmt := topS 28
theorem sc_is_number : FnScope ["ground", "thing", "top", "bottom"] ["ground", "thing"] (defScope s_is_number) := ⟨rfl, rfl, rfl, by decide +kernel, rfl, by decide +kernel, by decide +kernel⟩

abbrev s_lowest : Stmt := topS 29
theorem sc_lowest : FnScope ["ground", "top", "bottom", "shared"] ["ground", "top", "bottom"] (defScope s_lowest) := ⟨rfl, rfl, rfl, by decide +kernel, rfl, by decide +kernel, by decide +kernel⟩

abbrev s_fraction_root : Stmt := topS 36
theorem sc_fraction_root : FnScope ["x", "top", "bottom", "root"] ["x"] (defScope s_fraction_root) := ⟨rfl, rfl, rfl, by decide +kernel, rfl, by decide +kernel, by decide +kernel⟩

abbrev s_whole_row : Stmt := topS 45
theorem sc_whole_row : FnScope ["row", "bottom", "x"] ["row"] (defScope s_whole_row) := ⟨rfl, rfl, rfl, by decide +kernel, rfl, by decide +kernel, by decide +kernel⟩

abbrev s_whole_determinant : Stmt := topS 48
theorem sc_whole_determinant : FnScope ["rows", "sign", "last", "place", "head", "row"] ["rows"] (defScope s_whole_determinant) := ⟨rfl, rfl, rfl, by decide +kernel, rfl, by decide +kernel, by decide +kernel⟩

abbrev s__law_mixed : Stmt := topS 72
theorem sc__law_mixed : FnScope ["_law_bag_here", "_law_row_here", "_law_rest", "_law_thing"] ["_law_bag_here", "_law_row_here"] (defScope s__law_mixed) := ⟨rfl, rfl, rfl, by decide +kernel, rfl, by decide +kernel, by decide +kernel⟩

abbrev s__law_low : Stmt := topS 75
theorem sc__law_low : FnScope ["_law_g", "_law_up", "_law_down", "_law_one", "_law_common"] ["_law_g", "_law_up", "_law_down"] (defScope s__law_low) := ⟨rfl, rfl, rfl, by decide +kernel, rfl, by decide +kernel, by decide +kernel⟩

abbrev s__law_is_number : Stmt := topS 76
theorem sc__law_is_number : FnScope ["_law_g", "_law_thing", "_law_one"] ["_law_g", "_law_thing"] (defScope s__law_is_number) := ⟨rfl, rfl, rfl, by decide +kernel, rfl, by decide +kernel, by decide +kernel⟩

abbrev s__law_ground : Stmt := topS 90
theorem sc__law_ground : FnScope ["_law_bag_here"] ["_law_bag_here"] (defScope s__law_ground) := ⟨rfl, rfl, rfl, by decide +kernel, rfl, by decide +kernel, by decide +kernel⟩

abbrev s__law_letters : Stmt := topS 94
theorem sc__law_letters : FnScope ["_law_bag_here", "_law_g"] ["_law_bag_here", "_law_g"] (defScope s__law_letters) := ⟨rfl, rfl, rfl, by decide +kernel, rfl, by decide +kernel, by decide +kernel⟩

abbrev s__law_odd : Stmt := topS 98
theorem sc__law_odd : FnScope ["_law_bag_here", "_law_some"] ["_law_bag_here"] (defScope s__law_odd) := ⟨rfl, rfl, rfl, by decide +kernel, rfl, by decide +kernel, by decide +kernel⟩

abbrev s_plus : Stmt := topS 31
theorem sc_plus : FnScope ["ground", "x", "y"] ["ground", "x", "y"] (defScope s_plus) := ⟨rfl, rfl, rfl, by decide +kernel, rfl, by decide +kernel, by decide +kernel⟩

abbrev s_less : Stmt := topS 32
theorem sc_less : FnScope ["ground", "x", "y"] ["ground", "x", "y"] (defScope s_less) := ⟨rfl, rfl, rfl, by decide +kernel, rfl, by decide +kernel, by decide +kernel⟩

abbrev s_times : Stmt := topS 33
theorem sc_times : FnScope ["ground", "x", "y"] ["ground", "x", "y"] (defScope s_times) := ⟨rfl, rfl, rfl, by decide +kernel, rfl, by decide +kernel, by decide +kernel⟩

abbrev s_over : Stmt := topS 34
theorem sc_over : FnScope ["ground", "x", "y"] ["ground", "x", "y"] (defScope s_over) := ⟨rfl, rfl, rfl, by decide +kernel, rfl, by decide +kernel, by decide +kernel⟩

abbrev s_root_or_none : Stmt := topS 35
theorem sc_root_or_none : FnScope ["ground", "x"] ["ground", "x"] (defScope s_root_or_none) := ⟨rfl, rfl, rfl, by decide +kernel, rfl, by decide +kernel, by decide +kernel⟩

abbrev s_is_row : Stmt := topS 40
theorem sc_is_row : FnScope ["ground", "thing", "many", "x"] ["ground", "thing", "many"] (defScope s_is_row) := ⟨rfl, rfl, rfl, by decide +kernel, rfl, by decide +kernel, by decide +kernel⟩

abbrev s_product_row : Stmt := topS 43
theorem sc_product_row : FnScope ["ground", "row", "columns", "tops", "bottom", "column", "under"] ["ground", "row", "columns"] (defScope s_product_row) := ⟨rfl, rfl, rfl, by decide +kernel, rfl, by decide +kernel, by decide +kernel⟩

abbrev s_determinant : Stmt := topS 47
theorem sc_determinant : FnScope ["ground", "table", "rows", "bottom", "row", "tops", "under"] ["ground", "table"] (defScope s_determinant) := ⟨rfl, rfl, rfl, by decide +kernel, rfl, by decide +kernel, by decide +kernel⟩

abbrev s__law_plus : Stmt := topS 77
theorem sc__law_plus : FnScope ["_law_g", "_law_x", "_law_y"] ["_law_g", "_law_x", "_law_y"] (defScope s__law_plus) := ⟨rfl, rfl, rfl, by decide +kernel, rfl, by decide +kernel, by decide +kernel⟩

abbrev s__law_times : Stmt := topS 78
theorem sc__law_times : FnScope ["_law_g", "_law_x", "_law_y"] ["_law_g", "_law_x", "_law_y"] (defScope s__law_times) := ⟨rfl, rfl, rfl, by decide +kernel, rfl, by decide +kernel, by decide +kernel⟩

abbrev s__law_minus : Stmt := topS 79
theorem sc__law_minus : FnScope ["_law_g", "_law_x"] ["_law_g", "_law_x"] (defScope s__law_minus) := ⟨rfl, rfl, rfl, by decide +kernel, rfl, by decide +kernel, by decide +kernel⟩

abbrev s__law_is_row : Stmt := topS 89
theorem sc__law_is_row : FnScope ["_law_g", "_law_thing", "_law_many", "_law_one"] ["_law_g", "_law_thing", "_law_many"] (defScope s__law_is_row) := ⟨rfl, rfl, rfl, by decide +kernel, rfl, by decide +kernel, by decide +kernel⟩

abbrev s__law_number : Stmt := topS 91
theorem sc__law_number : FnScope ["_law_bag_here", "_law_g", "_law_wide", "_law_down"] ["_law_bag_here", "_law_g"] (defScope s__law_number) := ⟨rfl, rfl, rfl, by decide +kernel, rfl, by decide +kernel, by decide +kernel⟩

abbrev s__law_odd_row : Stmt := topS 100
theorem sc__law_odd_row : FnScope ["_law_bag_here", "_law_g", "_law_row_here", "_law_way", "_law_at", "_law_odd_here"] ["_law_bag_here", "_law_g", "_law_row_here"] (defScope s__law_odd_row) := ⟨rfl, rfl, rfl, by decide +kernel, rfl, by decide +kernel, by decide +kernel⟩

abbrev s_is_table : Stmt := topS 41
theorem sc_is_table : FnScope ["ground", "thing", "high", "wide", "row"] ["ground", "thing", "high", "wide"] (defScope s_is_table) := ⟨rfl, rfl, rfl, by decide +kernel, rfl, by decide +kernel, by decide +kernel⟩

abbrev s_product : Stmt := topS 42
theorem sc_product : FnScope ["ground", "one", "other", "columns", "column", "row"] ["ground", "one", "other"] (defScope s_product) := ⟨rfl, rfl, rfl, by decide +kernel, rfl, by decide +kernel, by decide +kernel⟩

abbrev s_row_plus : Stmt := topS 51
theorem sc_row_plus : FnScope ["ground", "row", "other", "x", "y"] ["ground", "row", "other"] (defScope s_row_plus) := ⟨rfl, rfl, rfl, by decide +kernel, rfl, by decide +kernel, by decide +kernel⟩

abbrev s_row_less : Stmt := topS 52
theorem sc_row_less : FnScope ["ground", "row", "other", "x", "y"] ["ground", "row", "other"] (defScope s_row_less) := ⟨rfl, rfl, rfl, by decide +kernel, rfl, by decide +kernel, by decide +kernel⟩

abbrev s_row_times : Stmt := topS 53
theorem sc_row_times : FnScope ["ground", "row", "factor", "x"] ["ground", "row", "factor"] (defScope s_row_times) := ⟨rfl, rfl, rfl, by decide +kernel, rfl, by decide +kernel, by decide +kernel⟩

abbrev s_want_rows : Stmt := topS 61
theorem sc_want_rows : FnScope ["form", "things", "thing"] ["form", "things"] (defScope s_want_rows) := ⟨rfl, rfl, rfl, by decide +kernel, rfl, by decide +kernel, by decide +kernel⟩

abbrev s__law_sum : Stmt := topS 80
theorem sc__law_sum : FnScope ["_law_g", "_law_some", "_law_found", "_law_one"] ["_law_g", "_law_some"] (defScope s__law_sum) := ⟨rfl, rfl, rfl, by decide +kernel, rfl, by decide +kernel, by decide +kernel⟩

abbrev s__law_scaled : Stmt := topS 81
theorem sc__law_scaled : FnScope ["_law_g", "_law_row_here", "_law_x", "_law_one"] ["_law_g", "_law_row_here", "_law_x"] (defScope s__law_scaled) := ⟨rfl, rfl, rfl, by decide +kernel, rfl, by decide +kernel, by decide +kernel⟩

abbrev s__law_added : Stmt := topS 82
theorem sc__law_added : FnScope ["_law_g", "_law_row_here", "_law_other", "_law_one", "_law_two"] ["_law_g", "_law_row_here", "_law_other"] (defScope s__law_added) := ⟨rfl, rfl, rfl, by decide +kernel, rfl, by decide +kernel, by decide +kernel⟩

abbrev s__law_other_than_nought : Stmt := topS 92
theorem sc__law_other_than_nought : FnScope ["_law_bag_here", "_law_g", "_law_x"] ["_law_bag_here", "_law_g"] (defScope s__law_other_than_nought) := ⟨rfl, rfl, rfl, by decide +kernel, rfl, by decide +kernel, by decide +kernel⟩

abbrev s__law_row : Stmt := topS 93
theorem sc__law_row : FnScope ["_law_bag_here", "_law_g", "_law_many", "_law_k"] ["_law_bag_here", "_law_g", "_law_many"] (defScope s__law_row) := ⟨rfl, rfl, rfl, by decide +kernel, rfl, by decide +kernel, by decide +kernel⟩

abbrev s_is_form_table : Stmt := topS 60
theorem sc_is_form_table : FnScope ["ground", "thing", "many", "most"] ["ground", "thing"] (defScope s_is_form_table) := ⟨rfl, rfl, rfl, by decide +kernel, rfl, by decide +kernel, by decide +kernel⟩

abbrev s_products : Stmt := topS 63
theorem sc_products : FnScope ["form", "rows", "others"] ["form", "rows", "others"] (defScope s_products) := ⟨rfl, rfl, rfl, by decide +kernel, rfl, by decide +kernel, by decide +kernel⟩

abbrev s__law_through : Stmt := topS 83
theorem sc__law_through : FnScope ["_law_g", "_law_row_here", "_law_table", "_law_found", "_law_x", "_law_one"] ["_law_g", "_law_row_here", "_law_table"] (defScope s__law_through) := ⟨rfl, rfl, rfl, by decide +kernel, rfl, by decide +kernel, by decide +kernel⟩

abbrev s_Form___init__ : Stmt := ((clsB (topS 59)).getD 0 (.Pass ⟨0, 0, 0, 0⟩))
theorem sc_Form___init__ : FnScope ["self", "table", "ground"] ["self", "table", "ground"] (defScope s_Form___init__) := ⟨rfl, rfl, rfl, by decide +kernel, rfl, by decide +kernel, by decide +kernel⟩

abbrev s_worth_of : Stmt := topS 64
theorem sc_worth_of : FnScope ["form", "row"] ["form", "row"] (defScope s_worth_of) := ⟨rfl, rfl, rfl, by decide +kernel, rfl, by decide +kernel, by decide +kernel⟩

abbrev s__law_product : Stmt := topS 84
theorem sc__law_product : FnScope ["_law_g", "_law_one", "_law_other", "_law_row_here"] ["_law_g", "_law_one", "_law_other"] (defScope s__law_product) := ⟨rfl, rfl, rfl, by decide +kernel, rfl, by decide +kernel, by decide +kernel⟩

abbrev s__law_pair : Stmt := topS 87
theorem sc__law_pair : FnScope ["_law_g", "_law_table", "_law_row_here", "_law_other", "_law_x", "_law_y"] ["_law_g", "_law_table", "_law_row_here", "_law_other"] (defScope s__law_pair) := ⟨rfl, rfl, rfl, by decide +kernel, rfl, by decide +kernel, by decide +kernel⟩

abbrev s_want_worths : Stmt := topS 62
theorem sc_want_worths : FnScope ["form", "rows", "row"] ["form", "rows"] (defScope s_want_worths) := ⟨rfl, rfl, rfl, by decide +kernel, rfl, by decide +kernel, by decide +kernel⟩

abbrev s_leading_mirrors : Stmt := topS 68
theorem sc_leading_mirrors : FnScope ["form", "row", "other", "gap"] ["form", "row", "other"] (defScope s_leading_mirrors) := ⟨rfl, rfl, rfl, by decide +kernel, rfl, by decide +kernel, by decide +kernel⟩

abbrev s__law_worth : Stmt := topS 88
theorem sc__law_worth : FnScope ["_law_g", "_law_table", "_law_row_here"] ["_law_g", "_law_table", "_law_row_here"] (defScope s__law_worth) := ⟨rfl, rfl, rfl, by decide +kernel, rfl, by decide +kernel, by decide +kernel⟩

abbrev s__law_changed : Stmt := topS 95
theorem sc__law_changed : FnScope ["_law_bag_here", "_law_g", "_law_table", "_law_many", "_law_turn", "_law_i", "_law_j", "_law_x", "_law_letters_here", "_law_step", "_law_row_here"] ["_law_bag_here", "_law_g", "_law_table"] (defScope s__law_changed) := ⟨rfl, rfl, rfl, by decide +kernel, rfl, by decide +kernel, by decide +kernel⟩

abbrev s_leading : Stmt := topS 66
theorem sc_leading : FnScope ["form", "row", "other"] ["form", "row", "other"] (defScope s_leading) := ⟨rfl, rfl, rfl, by decide +kernel, rfl, by decide +kernel, by decide +kernel⟩

abbrev s_led : Stmt := topS 67
theorem sc_led : FnScope ["form", "row", "other", "c"] ["form", "row", "other"] (defScope s_led) := ⟨rfl, rfl, rfl, by decide +kernel, rfl, by decide +kernel, by decide +kernel⟩

abbrev s__law_form : Stmt := topS 96
theorem sc__law_form : FnScope ["_law_bag_here", "_law_g", "_law_many", "_law_way", "_law_lack", "_law_row_here", "_law_table", "_law_k", "_law_i", "_law_j"] ["_law_bag_here", "_law_g", "_law_many"] (defScope s__law_form) := ⟨rfl, rfl, rfl, by decide +kernel, rfl, by decide +kernel, by decide +kernel⟩

abbrev s__law_with_worth : Stmt := topS 97
theorem sc__law_with_worth : FnScope ["_law_bag_here", "_law_g", "_law_table", "_law_many", "_law_letters_here", "_law_row_here", "_law_some", "_law_k", "_law_one", "_law_j"] ["_law_bag_here", "_law_g", "_law_table"] (defScope s__law_with_worth) := ⟨rfl, rfl, rfl, by decide +kernel, rfl, by decide +kernel, by decide +kernel⟩

abbrev s__law_due : Stmt := topS 101
theorem sc__law_due : FnScope ["_law_g", "_law_table", "_law_row_here", "_law_other", "_law_worths"] ["_law_g", "_law_table", "_law_row_here", "_law_other"] (defScope s__law_due) := ⟨rfl, rfl, rfl, by decide +kernel, rfl, by decide +kernel, by decide +kernel⟩

abbrev s__law_is_refused : Stmt := topS 102
theorem sc__law_is_refused : FnScope ["_law_form_here", "_law_g", "_law_table", "_law_row_here", "_law_other", "_law_due_here"] ["_law_form_here", "_law_g", "_law_table", "_law_row_here", "_law_other"] (defScope s__law_is_refused) := ⟨rfl, rfl, rfl, by decide +kernel, rfl, by decide +kernel, by decide +kernel⟩

abbrev s_law : Stmt := topS 103
theorem sc_law : FnScope ["_law_script", "_law_k", "_law_bag_here", "_law_g", "_law_many", "_law_table", "_law_form_here", "_law_row_here", "_law_gap", "_law_some", "_law_one", "_law_turn", "_law_two"] ["_law_script"] (defScope s_law) := ⟨rfl, rfl, rfl, by decide +kernel, rfl, by decide +kernel, by decide +kernel⟩

abbrev s__law_refusal : Stmt := topS 99
theorem sc__law_refusal : FnScope ["_law_deed", "e", "_law_some", "_law_names", "_law_name", "_law_is_so"] ["_law_deed"] (defScope s__law_refusal) := ⟨rfl, rfl, rfl, by decide +kernel, rfl, by decide +kernel, by decide +kernel⟩

/-- the names that _law_refusal asks for, as the top has them -/
structure MirG (K : PySem.W.Frag) (mg : Str → Option Value) : Prop where
  g_MirrorError : mg "MirrorError" = some (.ref (He.ga K "MirrorError"))
  g_NoGround : mg "NoGround" = some (.ref (He.ga K "NoGround"))
  g_NoNumber : mg "NoNumber" = some (.ref (He.ga K "NoNumber"))
  g_NoRow : mg "NoRow" = some (.ref (He.ga K "NoRow"))
  g_NoTable : mg "NoTable" = some (.ref (He.ga K "NoTable"))
  g_NoForm : mg "NoForm" = some (.ref (He.ga K "NoForm"))
  g_NoKeeper : mg "NoKeeper" = some (.ref (He.ga K "NoKeeper"))
  g_NoWorth : mg "NoWorth" = some (.ref (He.ga K "NoWorth"))
  g_NoSeat : mg "NoSeat" = some (.ref (He.ga K "NoSeat"))
  g_NoFour : mg "NoFour" = some (.ref (He.ga K "NoFour"))
  g_NoPlace : mg "NoPlace" = some (.ref (He.ga K "NoPlace"))
  g_NoClaim : mg "NoClaim" = some (.ref (He.ga K "NoClaim"))
  g_NoText : mg "NoText" = some (.ref (He.ga K "NoText"))
  g_NoSaying : mg "NoSaying" = some (.ref (He.ga K "NoSaying"))
  g_TooMany : mg "TooMany" = some (.ref (He.ga K "TooMany"))
  g_NotKept : mg "NotKept" = some (.ref (He.ga K "NotKept"))
  g_OverNought : mg "OverNought" = some (.ref (He.ga K "OverNought"))
  g_Flat : mg "Flat" = some (.ref (He.ga K "Flat"))
  g_NoName : mg "NoName" = some (.ref (He.ga K "NoName"))
  isi : mg "isinstance" = none
  len : mg "len" = none
  ve : mg "ValueError" = none
theorem ref_rel {a : Addr} : ∀ u, RelV (V.ref a) u → u = Value.ref a := fun _ h => h
theorem ty_rel {x : String} : ∀ u, RelV (V.ty x) u → u = Value.type x := fun _ h => h
theorem refusal_gives {X : Cx} {g : Addr} {cdg : Value} {q : Str} (G : MirG X.K X.mg) : GivesN X ["_law_deed", "e", "_law_some", "_law_names", "_law_name", "_law_is_so"] "_law_refusal" (defScope s__law_refusal) g cdg (defBody s__law_refusal) "_law_deed" q (TTref X.K) := by
  intro f c s H Q tl hr act hc h
  refine ⟨_, pss_cons (ps_tryM (X := (cxOf C8.CX0 X.prog X.w X.K X.mg X.base ["_law_deed", "e", "_law_some", "_law_names", "_law_name", "_law_is_so"] "_law_refusal" (defScope s__law_refusal) g cdg X.A X.stack s H C8.E0).nox) (c := .ref (He.ga X.K "MirrorError")) (i := 1)
      (tb := fun W D σ H => ∃ Ech : XK, (∀ cls d H', Ech cls d H' → W cls d σ H') ∧ σ[0]? = some (some (.ref f)) ∧ H c = some (LamX.CodeO c q) ∧ tl Ech H (fun _ H' => D.nx σ H')) (ts := tsMir X.K 1 6)
      rfl rfl sc__law_refusal.nd rfl rfl ⟨rfl, by decide, .inl G.g_MirrorError⟩ takes0N (fun W pn xe tk _ => ?body) (fun a oe cls d pn hz hf => ?suite)
      (L2N.HdsOk.cons (ts := fun _ _ _ => tRet (tC (.str "OverNought"))) ⟨rfl, by decide, .inl G.g_OverNought⟩ (fun _ _ _ _ _ _ _ => pss_one (ps_ret pe_str)) (L2N.HdsOk.cons (ts := fun _ _ _ => tRet (tC (.str "Flat"))) ⟨rfl, by decide, .inl G.g_Flat⟩ (fun _ _ _ _ _ _ _ => pss_one (ps_ret pe_str)) (L2N.HdsOk.cons (ts := fun _ _ _ => tRet (tC (.str "NoName"))) ⟨rfl, by decide, .inl G.g_NoName⟩ (fun _ _ _ _ _ _ _ => pss_one (ps_ret pe_str)) L2N.HdsOk.nil)))) (pss_one (ps_ret pe_non)), ?read⟩
  case body =>
    refine pss_by fun D σ H' hh => ?_
    obtain ⟨Ech, hW, h1, h2, h3⟩ := hh
    exact ⟨_, pss_one (ps_expr (act W pn xe Ech _ _ tk)), hW, h1, h2, h3⟩
  case suite =>
    refine pss_by fun D σ H1 hh => ?_
    obtain ⟨C, nm, rfl, rfl, M, h1, hlen, hq⟩ := hh
    have hot : L2H.Hot1 ((cxOf C8.CX0 X.prog X.w X.K X.mg X.base ["_law_deed", "e", "_law_some", "_law_names", "_law_name", "_law_is_so"] "_law_refusal" (defScope s__law_refusal) g cdg X.A X.stack s H C8.E0).nox.suite a ((a, oe) :: pn)).A (a, oe) := ⟨rfl, by
      obtain ⟨vs, e⟩ := hf
      exact ⟨vs, e, hz.2.2 vs e⟩⟩
    refine ⟨_, (pss_cons (ps_set (i := 2) sc__law_refusal.nd rfl (.inl rfl) (pe_lst (pa_cons (pe_tup (pa_cons pe_str (pa_cons (pe_callB (r := rIsE X.K C a) (call_isE M.exc hz.zc hf) (by rfl) G.isi (by decide +kernel) (pa_cons (pv 1) (pa_cons (pe_glob (v := .ref (He.ga X.K "NoGround")) (by rfl) G.g_NoGround rfl) pa_nil))) pa_nil)))
        (pa_cons (pe_tup (pa_cons pe_str (pa_cons (pe_callB (r := rIsE X.K C a) (call_isE M.exc hz.zc hf) (by rfl) G.isi (by decide +kernel) (pa_cons (pv 1) (pa_cons (pe_glob (v := .ref (He.ga X.K "NoNumber")) (by rfl) G.g_NoNumber rfl) pa_nil))) pa_nil)))
        (pa_cons (pe_tup (pa_cons pe_str (pa_cons (pe_callB (r := rIsE X.K C a) (call_isE M.exc hz.zc hf) (by rfl) G.isi (by decide +kernel) (pa_cons (pv 1) (pa_cons (pe_glob (v := .ref (He.ga X.K "NoRow")) (by rfl) G.g_NoRow rfl) pa_nil))) pa_nil)))
        (pa_cons (pe_tup (pa_cons pe_str (pa_cons (pe_callB (r := rIsE X.K C a) (call_isE M.exc hz.zc hf) (by rfl) G.isi (by decide +kernel) (pa_cons (pv 1) (pa_cons (pe_glob (v := .ref (He.ga X.K "NoTable")) (by rfl) G.g_NoTable rfl) pa_nil))) pa_nil)))
        (pa_cons (pe_tup (pa_cons pe_str (pa_cons (pe_callB (r := rIsE X.K C a) (call_isE M.exc hz.zc hf) (by rfl) G.isi (by decide +kernel) (pa_cons (pv 1) (pa_cons (pe_glob (v := .ref (He.ga X.K "NoForm")) (by rfl) G.g_NoForm rfl) pa_nil))) pa_nil)))
        (pa_cons (pe_tup (pa_cons pe_str (pa_cons (pe_callB (r := rIsE X.K C a) (call_isE M.exc hz.zc hf) (by rfl) G.isi (by decide +kernel) (pa_cons (pv 1) (pa_cons (pe_glob (v := .ref (He.ga X.K "NoKeeper")) (by rfl) G.g_NoKeeper rfl) pa_nil))) pa_nil)))
        (pa_cons (pe_tup (pa_cons pe_str (pa_cons (pe_callB (r := rIsE X.K C a) (call_isE M.exc hz.zc hf) (by rfl) G.isi (by decide +kernel) (pa_cons (pv 1) (pa_cons (pe_glob (v := .ref (He.ga X.K "NoWorth")) (by rfl) G.g_NoWorth rfl) pa_nil))) pa_nil)))
        (pa_cons (pe_tup (pa_cons pe_str (pa_cons (pe_callB (r := rIsE X.K C a) (call_isE M.exc hz.zc hf) (by rfl) G.isi (by decide +kernel) (pa_cons (pv 1) (pa_cons (pe_glob (v := .ref (He.ga X.K "NoSeat")) (by rfl) G.g_NoSeat rfl) pa_nil))) pa_nil)))
        (pa_cons (pe_tup (pa_cons pe_str (pa_cons (pe_callB (r := rIsE X.K C a) (call_isE M.exc hz.zc hf) (by rfl) G.isi (by decide +kernel) (pa_cons (pv 1) (pa_cons (pe_glob (v := .ref (He.ga X.K "NoFour")) (by rfl) G.g_NoFour rfl) pa_nil))) pa_nil)))
        (pa_cons (pe_tup (pa_cons pe_str (pa_cons (pe_callB (r := rIsE X.K C a) (call_isE M.exc hz.zc hf) (by rfl) G.isi (by decide +kernel) (pa_cons (pv 1) (pa_cons (pe_glob (v := .ref (He.ga X.K "NoPlace")) (by rfl) G.g_NoPlace rfl) pa_nil))) pa_nil)))
        (pa_cons (pe_tup (pa_cons pe_str (pa_cons (pe_callB (r := rIsE X.K C a) (call_isE M.exc hz.zc hf) (by rfl) G.isi (by decide +kernel) (pa_cons (pv 1) (pa_cons (pe_glob (v := .ref (He.ga X.K "NoClaim")) (by rfl) G.g_NoClaim rfl) pa_nil))) pa_nil)))
        (pa_cons (pe_tup (pa_cons pe_str (pa_cons (pe_callB (r := rIsE X.K C a) (call_isE M.exc hz.zc hf) (by rfl) G.isi (by decide +kernel) (pa_cons (pv 1) (pa_cons (pe_glob (v := .ref (He.ga X.K "NoText")) (by rfl) G.g_NoText rfl) pa_nil))) pa_nil)))
        (pa_cons (pe_tup (pa_cons pe_str (pa_cons (pe_callB (r := rIsE X.K C a) (call_isE M.exc hz.zc hf) (by rfl) G.isi (by decide +kernel) (pa_cons (pv 1) (pa_cons (pe_glob (v := .ref (He.ga X.K "NoSaying")) (by rfl) G.g_NoSaying rfl) pa_nil))) pa_nil)))
        (pa_cons (pe_tup (pa_cons pe_str (pa_cons (pe_callB (r := rIsE X.K C a) (call_isE M.exc hz.zc hf) (by rfl) G.isi (by decide +kernel) (pa_cons (pv 1) (pa_cons (pe_glob (v := .ref (He.ga X.K "TooMany")) (by rfl) G.g_TooMany rfl) pa_nil))) pa_nil)))
        (pa_cons (pe_tup (pa_cons pe_str (pa_cons (pe_callB (r := rIsE X.K C a) (call_isE M.exc hz.zc hf) (by rfl) G.isi (by decide +kernel) (pa_cons (pv 1) (pa_cons (pe_glob (v := .ref (He.ga X.K "NotKept")) (by rfl) G.g_NotKept rfl) pa_nil))) pa_nil)))
        pa_nil)))))))))))))))))
      (pss_cons (ps_setLcH (i := 3) (own := [("_law_name", 4), ("_law_is_so", 5)]) (ti := tVar 2) (g := gTup X.K 2 (gCons (gName 4) (gCons (gName 5) gNil))) (tt := tB (tVar 5)) (te := tVar 4) (p := (a, oe)) hot List.mem_cons_self sc__law_refusal.nd rfl rfl (sw_true rfl rfl rfl (by decide +kernel)) (pv 2) (blkOk_by (own := [("_law_name", 4), ("_law_is_so", 5)]) (N := ["_law_deed", "e", "_law_some", "_law_names", "_law_name", "_law_is_so"]) (sc := defScope s__law_refusal) (by decide +kernel))
        (fun _ _ _ _ _ => pg_tupH (hot_blk hot) (pgs_cons (pg_name (i := 4) sc__law_refusal.nd rfl (.inl rfl)) (pgs_cons (pg_name (i := 5) sc__law_refusal.nd rfl (.inl rfl)) pgs_nil)))
        (fun _ _ _ _ _ => (pts_one (pt_val (pv 5)))) (fun _ _ _ _ _ => (pv 4)))
      (pss_cons (ps_if (PW.pt (pw_and (pt_cmpR op_eq (pe_callB call_len_seq (by rfl) G.len (by decide +kernel) (pa_cons (pv 3) pa_nil)) pe_int (nomark _)) (pw_and1 (pt_val (pe_callB (r := rIsE X.K C a) (call_isE M.exc hz.zc hf) (by rfl) G.isi (by decide +kernel) (pa_cons (pv 1) (pa_cons (pe_bltn (v := .ty "ValueError") (by rfl) G.ve (by decide +kernel) rfl) pa_nil))))))) (pss_one (ps_ret (pe_ix ix_list (pv 3) pe_int (fun _ _ => rfl)))) pss_nil) (pss_one (ps_ret pe_str))))), ?_⟩
    obtain ⟨σ0, σ1, σ2, σ3, σ4, σ5, rfl⟩ : ∃ a b c d e f, σ = [a, b, c, d, e, f] := list6 hlen
    obtain rfl : σ1 = some (.ref a) := Option.some.inj h1
    walk_at "go"
    refine ⟨.ref (He.ga X.K "NoGround"), .ref (He.ga X.K "NoGround"), _, rfl, ref_rel, M.kit _ (by decide), ?_⟩
    walk_at "go"
    refine w_new (by simp) fun t0 J0 n0 s0 i0 => ?_
    walk_at "go"
    refine ⟨.ref (He.ga X.K "NoNumber"), .ref (He.ga X.K "NoNumber"), _, rfl, ref_rel, M.kit _ (by decide), ?_⟩
    walk_at "go"
    refine w_new (by simp) fun t1 J1 n1 s1 i1 => ?_
    walk_at "go"
    refine ⟨.ref (He.ga X.K "NoRow"), .ref (He.ga X.K "NoRow"), _, rfl, ref_rel, M.kit _ (by decide), ?_⟩
    walk_at "go"
    refine w_new (by simp) fun t2 J2 n2 s2 i2 => ?_
    walk_at "go"
    refine ⟨.ref (He.ga X.K "NoTable"), .ref (He.ga X.K "NoTable"), _, rfl, ref_rel, M.kit _ (by decide), ?_⟩
    walk_at "go"
    refine w_new (by simp) fun t3 J3 n3 s3 i3 => ?_
    walk_at "go"
    refine ⟨.ref (He.ga X.K "NoForm"), .ref (He.ga X.K "NoForm"), _, rfl, ref_rel, M.kit _ (by decide), ?_⟩
    walk_at "go"
    refine w_new (by simp) fun t4 J4 n4 s4 i4 => ?_
    walk_at "go"
    refine ⟨.ref (He.ga X.K "NoKeeper"), .ref (He.ga X.K "NoKeeper"), _, rfl, ref_rel, M.kit _ (by decide), ?_⟩
    walk_at "go"
    refine w_new (by simp) fun t5 J5 n5 s5 i5 => ?_
    walk_at "go"
    refine ⟨.ref (He.ga X.K "NoWorth"), .ref (He.ga X.K "NoWorth"), _, rfl, ref_rel, M.kit _ (by decide), ?_⟩
    walk_at "go"
    refine w_new (by simp) fun t6 J6 n6 s6 i6 => ?_
    walk_at "go"
    refine ⟨.ref (He.ga X.K "NoSeat"), .ref (He.ga X.K "NoSeat"), _, rfl, ref_rel, M.kit _ (by decide), ?_⟩
    walk_at "go"
    refine w_new (by simp) fun t7 J7 n7 s7 i7 => ?_
    walk_at "go"
    refine ⟨.ref (He.ga X.K "NoFour"), .ref (He.ga X.K "NoFour"), _, rfl, ref_rel, M.kit _ (by decide), ?_⟩
    walk_at "go"
    refine w_new (by simp) fun t8 J8 n8 s8 i8 => ?_
    walk_at "go"
    refine ⟨.ref (He.ga X.K "NoPlace"), .ref (He.ga X.K "NoPlace"), _, rfl, ref_rel, M.kit _ (by decide), ?_⟩
    walk_at "go"
    refine w_new (by simp) fun t9 J9 n9 s9 i9 => ?_
    walk_at "go"
    refine ⟨.ref (He.ga X.K "NoClaim"), .ref (He.ga X.K "NoClaim"), _, rfl, ref_rel, M.kit _ (by decide), ?_⟩
    walk_at "go"
    refine w_new (by simp) fun t10 J10 n10 s10 i10 => ?_
    walk_at "go"
    refine ⟨.ref (He.ga X.K "NoText"), .ref (He.ga X.K "NoText"), _, rfl, ref_rel, M.kit _ (by decide), ?_⟩
    walk_at "go"
    refine w_new (by simp) fun t11 J11 n11 s11 i11 => ?_
    walk_at "go"
    refine ⟨.ref (He.ga X.K "NoSaying"), .ref (He.ga X.K "NoSaying"), _, rfl, ref_rel, M.kit _ (by decide), ?_⟩
    walk_at "go"
    refine w_new (by simp) fun t12 J12 n12 s12 i12 => ?_
    walk_at "go"
    refine ⟨.ref (He.ga X.K "TooMany"), .ref (He.ga X.K "TooMany"), _, rfl, ref_rel, M.kit _ (by decide), ?_⟩
    walk_at "go"
    refine w_new (by simp) fun t13 J13 n13 s13 i13 => ?_
    walk_at "go"
    refine ⟨.ref (He.ga X.K "NotKept"), .ref (He.ga X.K "NotKept"), _, rfl, ref_rel, M.kit _ (by decide), ?_⟩
    walk_at "go"
    refine w_new (by simp) fun t14 J14 n14 s14 i14 => ?_
    walk_at "go"
    refine w_new (by simp) fun L J15 nL s15 iL => ?_
    walk_at "go"
    have hts : ∀ (i : Nat) (t : V) (p : Str × Bool), ([V.ref t0, V.ref t1, V.ref t2, V.ref t3, V.ref t4, V.ref t5, V.ref t6, V.ref t7, V.ref t8, V.ref t9, V.ref t10, V.ref t11, V.ref t12, V.ref t13, V.ref t14] : List V)[i]? = some t → (mirNames.map fun x => (x, decide (x = nm)))[i]? = some p → ∃ a, t = .ref a ∧ J15 a = some (.tup [.str p.1, .bl p.2]) := by
      intro i t p e1 e2
      match i, e1, e2 with
      | 0, e1, e2 => cases e1; cases e2; exact ⟨t0, rfl, (s15 _ _ (s14 _ _ (s13 _ _ (s12 _ _ (s11 _ _ (s10 _ _ (s9 _ _ (s8 _ _ (s7 _ _ (s6 _ _ (s5 _ _ (s4 _ _ (s3 _ _ (s2 _ _ (s1 _ _ i0)))))))))))))))⟩
      | 1, e1, e2 => cases e1; cases e2; exact ⟨t1, rfl, (s15 _ _ (s14 _ _ (s13 _ _ (s12 _ _ (s11 _ _ (s10 _ _ (s9 _ _ (s8 _ _ (s7 _ _ (s6 _ _ (s5 _ _ (s4 _ _ (s3 _ _ (s2 _ _ i1))))))))))))))⟩
      | 2, e1, e2 => cases e1; cases e2; exact ⟨t2, rfl, (s15 _ _ (s14 _ _ (s13 _ _ (s12 _ _ (s11 _ _ (s10 _ _ (s9 _ _ (s8 _ _ (s7 _ _ (s6 _ _ (s5 _ _ (s4 _ _ (s3 _ _ i2)))))))))))))⟩
      | 3, e1, e2 => cases e1; cases e2; exact ⟨t3, rfl, (s15 _ _ (s14 _ _ (s13 _ _ (s12 _ _ (s11 _ _ (s10 _ _ (s9 _ _ (s8 _ _ (s7 _ _ (s6 _ _ (s5 _ _ (s4 _ _ i3))))))))))))⟩
      | 4, e1, e2 => cases e1; cases e2; exact ⟨t4, rfl, (s15 _ _ (s14 _ _ (s13 _ _ (s12 _ _ (s11 _ _ (s10 _ _ (s9 _ _ (s8 _ _ (s7 _ _ (s6 _ _ (s5 _ _ i4)))))))))))⟩
      | 5, e1, e2 => cases e1; cases e2; exact ⟨t5, rfl, (s15 _ _ (s14 _ _ (s13 _ _ (s12 _ _ (s11 _ _ (s10 _ _ (s9 _ _ (s8 _ _ (s7 _ _ (s6 _ _ i5))))))))))⟩
      | 6, e1, e2 => cases e1; cases e2; exact ⟨t6, rfl, (s15 _ _ (s14 _ _ (s13 _ _ (s12 _ _ (s11 _ _ (s10 _ _ (s9 _ _ (s8 _ _ (s7 _ _ i6)))))))))⟩
      | 7, e1, e2 => cases e1; cases e2; exact ⟨t7, rfl, (s15 _ _ (s14 _ _ (s13 _ _ (s12 _ _ (s11 _ _ (s10 _ _ (s9 _ _ (s8 _ _ i7))))))))⟩
      | 8, e1, e2 => cases e1; cases e2; exact ⟨t8, rfl, (s15 _ _ (s14 _ _ (s13 _ _ (s12 _ _ (s11 _ _ (s10 _ _ (s9 _ _ i8)))))))⟩
      | 9, e1, e2 => cases e1; cases e2; exact ⟨t9, rfl, (s15 _ _ (s14 _ _ (s13 _ _ (s12 _ _ (s11 _ _ (s10 _ _ i9))))))⟩
      | 10, e1, e2 => cases e1; cases e2; exact ⟨t10, rfl, (s15 _ _ (s14 _ _ (s13 _ _ (s12 _ _ (s11 _ _ i10)))))⟩
      | 11, e1, e2 => cases e1; cases e2; exact ⟨t11, rfl, (s15 _ _ (s14 _ _ (s13 _ _ (s12 _ _ i11))))⟩
      | 12, e1, e2 => cases e1; cases e2; exact ⟨t12, rfl, (s15 _ _ (s14 _ _ (s13 _ _ i12)))⟩
      | 13, e1, e2 => cases e1; cases e2; exact ⟨t13, rfl, (s15 _ _ (s14 _ _ i13))⟩
      | 14, e1, e2 => cases e1; cases e2; exact ⟨t14, rfl, (s15 _ _ i14)⟩
      | _ + 15, e1, _ => cases e1
    refine names_read (iS := 2) (j1 := 4) (j2 := 5) rfl iL rfl (by rw [List.length_map]; decide) hts (by decide) (by show 4 < 6; decide) (by show 5 < 6; decide) (fun _ _ => rfl) fun D' J16 nD s16 hD => ?_
    rw [mir_told M.one] at hD
    walk_at "go"
    refine ⟨D', _, rfl, .inl (SqL.of hD), ?_⟩
    walk_at "go"
    refine w_ite (fun _ => ?_) (fun z => absurd rfl z)
    walk_at "go"
    refine ⟨.ty "ValueError", .type "ValueError", _, rfl, ty_rel, M.ve, ?_⟩
    walk_at "go"
    exact hq _ ((s0.trans (s1.trans (s2.trans (s3.trans (s4.trans (s5.trans (s6.trans (s7.trans (s8.trans (s9.trans (s10.trans (s11.trans (s12.trans (s13.trans (s14.trans s15))))))))))))))).trans s16)
  case read =>
    refine ⟨_, fun cls d H' hh => ?_, rfl, hc, h⟩
    rcases hh with ⟨C, nm, rfl, rfl, M, hq⟩ | ⟨C, rfl, e1, e2, hq⟩ | ⟨C, rfl, e1, e2, e3, hq⟩
    · exact ⟨true, M.exm, fun _ a ha => ⟨C, nm, rfl, rfl, M, rfl, rfl, hq⟩, fun z => Bool.noConfusion z⟩
    · exact ⟨false, e1, fun z => Bool.noConfusion z, fun _ => ⟨true, e2, fun _ a ha => hq, fun z => Bool.noConfusion z⟩⟩
    · exact ⟨false, e1, fun z => Bool.noConfusion z, fun _ => ⟨false, e2, fun z => Bool.noConfusion z, fun _ => ⟨true, e3, fun _ a ha => hq, fun z => Bool.noConfusion z⟩⟩⟩


variable {P : Program} {w : World} {K : PySem.W.Frag} {mg : Str → Option Value} {base : Heap} {T : List (Addr × Str)}
def sp_is_whole (K : PySem.W.Frag) : Sp := fun vs H Q _ => ∃ (v : V), vs = [v] ∧ Tv H v ∧ Q (.bl (wholeB v)) H

def sp_common_divisor (K : PySem.W.Frag) : Sp := fun vs H Q _ => ∃ (a c : Int), vs = [.int a, .int c] ∧ Q (.int (Int.gcd a c : Int)) H

def sp_whole_root (K : PySem.W.Frag) : Sp := fun vs H Q _ => ∃ (n : Nat), vs = [.int n] ∧ n < 2 ^ 8000 ∧ Q (.int (isqrt n : Nat)) H
theorem bits_lt (n : Nat) : n < 2 ^ Builtin.Int.intBits (n : Int) := by
  unfold Builtin.Int.intBits
  split
  · rename_i h
    have : (n : Int) = 0 := by simpa using h
    have : n = 0 := by omega
    rw [this]
    decide
  · exact Nat.lt_log2_self
theorem guess_gt {n L : Nat} (h : n < 2 ^ L) : n < (2 ^ (L / 2 + 1) + 1) * (2 ^ (L / 2 + 1) + 1) := by
  have e : 2 ^ L ≤ 2 ^ (L / 2 + 1) * 2 ^ (L / 2 + 1) := by
    rw [← Nat.pow_add]
    exact Nat.pow_le_pow_right (by decide) (by omega)
  have e2 : 2 ^ (L / 2 + 1) * 2 ^ (L / 2 + 1) ≤ (2 ^ (L / 2 + 1) + 1) * (2 ^ (L / 2 + 1) + 1) := Nat.mul_le_mul (Nat.le_succ _) (Nat.le_succ _)
  omega
theorem fdiv_nat (a b : Nat) : ((a : Int)).fdiv (b : Int) = ((a / b : Nat) : Int) := by
  rw [Int.fdiv_eq_ediv_of_nonneg _ (by omega)]
  exact (Int.natCast_ediv a b).symm

def sp_wheel_back (K : PySem.W.Frag) : Sp := fun vs H Q _ => ∃ (g w k : Int), vs = [.int g, .int w] ∧ 3 ≤ g ∧ 1 ≤ k ∧ k ≤ 13 ∧ (k * w).fmod g = 1 ∧ ∀ f : Int, 1 ≤ f → f ≤ 13 → (f * w).fmod g = 1 → Q (.int f) H

def sp_wheel_root (K : PySem.W.Frag) : Sp := fun vs H Q _ => ∃ (g : Int) (v : V) (a : Int × Int), vs = [.int g, v] ∧ 0 < g ∧ g ≤ 13 ∧ NumV H v a ∧ ∀ H' v', Same H H' → OptV H' v' ((wroot g a.1).map fun i => (i, 1)) → Q v' H'
theorem wroot_some {g a : Int} {i : Nat} (h : ∀ j : Nat, j < i → ((j : Int) * (j : Int)).fmod g ≠ a) (hi : ((i : Int) * (i : Int)).fmod g = a) (hg : i < g.toNat) : wroot g a = some (i : Int) := by
  unfold wroot
  rw [List.find?_map]
  have e : (List.range g.toNat).find? ((fun i : Int => decide ((i * i).fmod g = a)) ∘ fun (i : Nat) => (i : Int)) = some i := by
    rw [List.find?_range_eq_some]
    refine ⟨?_, ?_, fun j hj => ?_⟩
    · show decide _ = true
      exact decide_eq_true hi
    · exact List.mem_range.mpr hg
    · show (!decide _) = true
      rw [decide_eq_false (h j hj)]
      rfl
  rw [e]
  rfl
theorem wroot_none {g a : Int} (h : ∀ j : Nat, j < g.toNat → ((j : Int) * (j : Int)).fmod g ≠ a) : wroot g a = none := by
  unfold wroot
  rw [List.find?_eq_none]
  intro x hx
  obtain ⟨n, hn, rfl⟩ := List.mem_map.mp hx
  have := h n (List.mem_range.mp hn)
  simpa using this

def sp_dot (K : PySem.W.Frag) : Sp := fun vs H Q _ => ∃ (a b : Addr) (ts ss : List Int), vs = [.ref a, .ref b] ∧ H a = some (.lst (ts.map V.int)) ∧ H b = some (.lst (ss.map V.int)) ∧ ts.length = ss.length ∧ ts.length ≤ 100 ∧ (∀ t ∈ ts, t.natAbs ≤ 2 ^ 5000) ∧ (∀ t ∈ ss, t.natAbs ≤ 2 ^ 5000) ∧ ∀ H', Same H H' → Q (.int (dotF ts ss)) H'

def sp_turned (K : PySem.W.Frag) : Sp := fun vs H Q _ => ∃ (v : V) (t : List (List (Int × Int))) (l : Nat), vs = [v] ∧ TabV H v t ∧ 0 < t.length ∧ t.length ≤ 10 ∧ (∀ r ∈ t, r.length = l) ∧ l ≤ 10 ∧ ∀ (v' : V) (H' : Hp), Same H H' → TabV H' v' (turnF l t) → Q v' H'

def sp_smaller_row (K : PySem.W.Frag) : Sp := fun vs H Q _ => ∃ (vr vh : V) (r h : List Int) (last : Int) (b : Nat), vs = [vr, vh, .int last] ∧ IL H vr r ∧ IL H vh h ∧ r.length = h.length ∧ 0 < r.length ∧ r.length ≤ 100 ∧ (∀ x, (gt r x).natAbs < 2 ^ b) ∧ (∀ x, (gt h x).natAbs < 2 ^ b) ∧ last ≠ 0 ∧ last.natAbs < 2 ^ b ∧ 0 < b ∧ b ≤ 4400 ∧ ∀ (p' : Addr) (H' : Hp), Same H H' → H' p' = some (.lst ((smF last h r).map V.int)) → H p' = none → Q (.ref p') H'

def sp_head_place (K : PySem.W.Frag) : Sp := fun vs H Q _ => ∃ (v : V) (rows : List (List Int)) (b a : Nat), vs = [v, .int (b : Int), .int (a : Int)] ∧ ILs H v rows ∧ (∀ r ∈ rows, a < r.length) ∧ rows.length ≤ 100 ∧ b ≤ 100 ∧
  ((∀ (i : Nat) (r : List Int), b ≤ i → rows[i]? = some r → gt r a = 0) → Q .non H) ∧ ∀ (i : Nat) (r : List Int), b ≤ i → rows[i]? = some r → gt r a ≠ 0 → Q (.int (i : Int)) H

def sp__law_bag (K : PySem.W.Frag) : Sp := fun vs H Q _ => ∃ (a : Addr) (ns : List Int) (k : Int), vs = [.ref a, .int k] ∧ SqL K H a (ns.map V.int) ∧ 0 ≤ k ∧ k < 64 ∧ ∀ (p : Addr) (H' : Hp), H p = none → Same H H' → Bag H' p → Q (.ref p) H'
theorem bag_primes {i : Int} (h0 : 0 ≤ i) (h8 : i < 8) : ∃ m : Int, atI [V.int 2147483647, V.int 2147483629, V.int 2147483587, V.int 2147483579, V.int 2147483563, V.int 2147483549, V.int 2147483543, V.int 2147483497] i = some (.int m) ∧ 0 < m ∧ m ≤ 2147483647 := by
  rcases (by omega : i = 0 ∨ i = 1 ∨ i = 2 ∨ i = 3 ∨ i = 4 ∨ i = 5 ∨ i = 6 ∨ i = 7) with rfl | rfl | rfl | rfl | rfl | rfl | rfl | rfl <;> exact ⟨_, rfl, by decide, by decide⟩

def sp__law_take (K : PySem.W.Frag) : Sp := fun vs H Q _ => ∃ (b : Addr) (m : Int), vs = [.ref b, .int m] ∧ 0 < m ∧ m < 1073741824 ∧ Bag H b ∧ ∀ (H' : Hp) (d : Int), 0 ≤ d → d < m → Mv b H H' → Bag H' b → Q (.int d) H'

def sp__law_is_whole (K : PySem.W.Frag) : Sp := fun vs H Q _ => ∃ (v : V), vs = [v] ∧ Tv H v ∧ Q (.bl (wholeB v)) H

def sp__law_shared (K : PySem.W.Frag) : Sp := fun vs H Q _ => ∃ (a c : Int), vs = [.int a, .int c] ∧ Q (.int (Int.gcd a c : Int)) H
theorem abs_nat (a : Int) : (if a < 0 then -a else a) = ((a.natAbs : Nat) : Int) := by
  split <;> omega

def sp__law_turned (K : PySem.W.Frag) : Sp := fun vs H Q _ => ∃ (v : V) (t : List (List (Int × Int))) (l : Nat), vs = [v] ∧ TabV H v t ∧ 0 < t.length ∧ t.length ≤ 10 ∧ (∀ r ∈ t, r.length = l) ∧ l ≤ 10 ∧ ∀ (v' : V) (H' : Hp), Same H H' → TabV H' v' (turnF l t) → Q v' H'

def sp__law_ones (K : PySem.W.Frag) : Sp := fun vs H Q _ => ∃ (m : Nat), vs = [.int (m : Int)] ∧ m ≤ 10 ∧ ∀ (v : V) (H' : Hp), Same H H' → TabV H' v (onesF m) → Q v H'

def sp_is_ground (K : PySem.W.Frag) : Sp := fun vs H Q _ => ∃ (i : Int), vs = [.int i] ∧ Q (.bl (grdB (.int i))) H

def sp_is_number (K : PySem.W.Frag) : Sp := fun vs H Q _ => ∃ (g : Int) (v : V) (kb nb : Nat), vs = [.int g, v] ∧ TB kb (nb + 1) H v ∧ Q (.bl (numOf H g v)) H

def sp_lowest (K : PySem.W.Frag) : Sp := fun vs H Q _ => ∃ (g u d : Int), vs = [.int g, .int u, .int d] ∧ ((g = 0 ∧ d ≠ 0 ∧ d.natAbs < 2 ^ 8500) ∨ (3 ≤ g ∧ u.natAbs < 2 ^ 50000 ∧ ∃ k : Int, 1 ≤ k ∧ k ≤ 13 ∧ (k * d).fmod g = 1)) ∧ ∀ (p : Addr) (H' : Hp), H p = none → Same H H' → H' p = some (.tup [.int (lowF g u d).1, .int (lowF g u d).2]) → Q (.ref p) H'

def sp_fraction_root (K : PySem.W.Frag) : Sp := fun vs H Q _ => ∃ (v : V) (a : Int × Int), vs = [v] ∧ 0 < a.2 ∧ a.1.natAbs < 2 ^ 8000 ∧ a.2.natAbs < 2 ^ 8000 ∧ NumV H v a ∧ ∀ H' v', Same H H' → OptV H' v' (rootV 0 a) → Q v' H'
theorem isqrt_le (n : Nat) : isqrt n ≤ n := by
  have h := (isqrt_spec n).1
  rcases Nat.eq_zero_or_pos (isqrt n) with e | e
  · omega
  · exact Nat.le_trans (Nat.le_mul_of_pos_right _ e) h
theorem rootV_neg {a : Int × Int} (h : a.1 < 0) : rootV 0 a = none := by
  unfold rootV
  rw [if_pos rfl, if_pos h]
theorem rootV_yes {a : Int × Int} (h : ¬ a.1 < 0) (h1 : (isqrt a.1.toNat : Int) * (isqrt a.1.toNat : Int) = a.1) (h2 : (isqrt a.2.toNat : Int) * (isqrt a.2.toNat : Int) = a.2) : rootV 0 a = some ((isqrt a.1.toNat : Int), (isqrt a.2.toNat : Int)) := by
  unfold rootV
  rw [if_pos rfl, if_neg h, if_pos ⟨h1, h2⟩]
theorem rootV_no {a : Int × Int} (h : ¬ a.1 < 0) (h1 : ¬ ((isqrt a.1.toNat : Int) * (isqrt a.1.toNat : Int) = a.1 ∧ (isqrt a.2.toNat : Int) * (isqrt a.2.toNat : Int) = a.2)) : rootV 0 a = none := by
  unfold rootV
  rw [if_pos rfl, if_neg h, if_neg h1]
theorem isq_mulW {n : Nat} (h : n < 2 ^ 8000) : CMulW (isqrt n : Int) (isqrt n : Int) := wide_mul (a := 8000) (b := 8000) (by rw [Int.natAbs_natCast]; exact Nat.lt_of_le_of_lt (isqrt_le n) h) (by rw [Int.natAbs_natCast]; exact Nat.lt_of_le_of_lt (isqrt_le n) h) (by decide) (by decide) (by decide)

def sp_whole_row (K : PySem.W.Frag) : Sp := fun vs H Q _ => ∃ (v : V) (r : List (Int × Int)) (g : Int) (k : Nat), vs = [v] ∧ RowV H v r ∧ (∀ x ∈ r, OkN g k x) ∧ 0 < k ∧ k * r.length ≤ 8000 ∧ k ≤ 1600 ∧ r.length ≤ 20 ∧ ∀ (p L : Addr) (H' : Hp), Same H H' → H L = none → H' p = some (.tup [.ref L, .int (wrB r)]) → H' L = some (.lst ((wrT r).map V.int)) → Q (.ref p) H'

def sp_whole_determinant (K : PySem.W.Frag) : Sp := fun vs H Q _ => ∃ (v : V) (rows : List (List Int)) (n A k : Nat), vs = [v] ∧ ILs H v rows ∧ rows.length = n ∧ 1 ≤ n ∧ n ≤ 20 ∧ (∀ r ∈ rows, r.length = n ∧ ∀ x, (gt r x).natAbs ≤ A) ∧ 1 ≤ A ∧ (n * A) ^ n < 2 ^ k ∧ 0 < k ∧ k ≤ 4400 ∧ ∀ H', Same H H' → Q (.int (dt rows (List.range n))) H'

def sp__law_mixed (K : PySem.W.Frag) : Sp := fun vs H Q _ => ∃ (b p : Addr) (xs : List V), vs = [.ref b, .ref p] ∧ Bag H b ∧ H p = some (.lst xs) ∧ p ≠ b ∧ xs.length ≤ 20 ∧ ∀ (q' : Addr) (H' : Hp) (ys : List V), Mv b H H' → Bag H' b → H' q' = some (.lst ys) → H q' = none → ys.length = xs.length → (∀ y, y ∈ ys ↔ y ∈ xs) → Q (.ref q') H'
theorem erase_mem {α : Type} {xs : List α} {k : Nat} {y : α} (h : xs[k]? = some y) (z : α) : z ∈ xs ↔ z = y ∨ z ∈ xs.eraseIdx k := by
  constructor
  · intro hz
    obtain ⟨i, hi⟩ := List.getElem?_of_mem hz
    by_cases e : i = k
    · subst e
      exact .inl (Option.some.inj (hi.symm.trans h))
    · exact .inr (List.mem_eraseIdx_iff_getElem?.mpr ⟨i, e, hi⟩)
  · rintro (rfl | hz)
    · exact List.mem_of_getElem? h
    · exact List.mem_of_mem_eraseIdx hz
theorem sq_ix {d : Int} {n : Nat} (h0 : 0 ≤ d) (h1 : d < n) : PySem.seqIndex? d n = some d.toNat := by
  unfold PySem.seqIndex?
  simp
  omega

def sp__law_low (K : PySem.W.Frag) : Sp := fun vs H Q _ => ∃ (g u d : Int), vs = [.int g, .int u, .int d] ∧ 0 ≤ g ∧ g ≤ 13 ∧ d ≠ 0 ∧ d.natAbs < 2 ^ 8000 ∧ ∀ (p : Addr) (H' : Hp), H p = none → Same H H' → H' p = some (.tup [.int (lowF g u d).1, .int (lowF g u d).2]) → Q (.ref p) H'
theorem lowI_some {g u d : Int} {i : Nat} (hi : i < g.toNat) (h : ((i : Int) * d).fmod g = u.fmod g) (hn : ∀ j : Nat, j < i → ¬ ((j : Int) * d).fmod g = u.fmod g) : lowI g u d = some i := by
  unfold lowI
  rw [if_pos (by omega)]
  refine List.find?_range_eq_some.mpr ⟨decide_eq_true h, List.mem_range.mpr hi, fun j hj => ?_⟩
  rw [decide_eq_false (hn j hj)]
  rfl
theorem lowI_none {g u d : Int} (hn : ∀ j : Nat, j < g.toNat → ¬ ((j : Int) * d).fmod g = u.fmod g) : lowI g u d = none := by
  unfold lowI
  split
  · refine List.find?_range_eq_none.mpr fun j hj => ?_
    rw [decide_eq_false (hn j hj)]
    rfl
  · rfl
theorem low_sign (d : Int) : atI [V.int 1, V.int (-1)] (if decide (d < 0) = true then 1 else 0) = some (.int (if d < 0 then -1 else 1)) := by
  by_cases h : d < 0
  · rw [decide_eq_true h, if_pos h]; rfl
  · rw [decide_eq_false h, if_neg h]; rfl
theorem low_cb {u d : Int} (hd : d ≠ 0) (hz : d.natAbs < 2 ^ 8000) (i : Int) : CDivZ i ((Int.gcd u d : Int) * (if d < 0 then -1 else 1)) :=
  divZ_of (b := 8000) (lowC_ne hd) (Nat.lt_of_le_of_lt (lowC_le hd) hz) (by decide) (by decide)

def sp__law_is_number (K : PySem.W.Frag) : Sp := fun vs H Q _ => ∃ (g : Int) (v : V) (kb nb : Nat), vs = [.int g, v] ∧ 0 ≤ g ∧ TB kb (nb + 1) H v ∧ ∀ H', Same H H' → Q (.bl (numOf H g v)) H'

def Gr (g : Int) : Prop := g = 0 ∨ g = 3 ∨ g = 5 ∨ g = 7 ∨ g = 11 ∨ g = 13
def sp__law_ground (K : PySem.W.Frag) : Sp := fun vs H Q _ => ∃ (b : Addr), vs = [.ref b] ∧ Bag H b ∧ ∀ (H' : Hp) (g : Int), Gr g → Mv b H H' → Bag H' b → Q (.int g) H'
theorem gr_three {i : Int} (h0 : 0 ≤ i) (h3 : i < 3) : ∃ m : Int, atI [V.int 7, V.int 11, V.int 13] i = some (.int m) ∧ Gr m := by
  rcases (by omega : i = 0 ∨ i = 1 ∨ i = 2) with rfl | rfl | rfl <;> exact ⟨_, rfl, by unfold Gr; decide⟩
theorem gr_eight {i m : Int} (h0 : 0 ≤ i) (h8 : i < 8) (hm : Gr m) : ∃ g : Int, atI [V.int 0, V.int 0, V.int 0, V.int 0, V.int 3, V.int 3, V.int 5, V.int m] i = some (.int g) ∧ Gr g := by
  rcases (by omega : i = 0 ∨ i = 1 ∨ i = 2 ∨ i = 3 ∨ i = 4 ∨ i = 5 ∨ i = 6 ∨ i = 7) with rfl | rfl | rfl | rfl | rfl | rfl | rfl | rfl
  · exact ⟨_, rfl, by unfold Gr; decide⟩
  · exact ⟨_, rfl, by unfold Gr; decide⟩
  · exact ⟨_, rfl, by unfold Gr; decide⟩
  · exact ⟨_, rfl, by unfold Gr; decide⟩
  · exact ⟨_, rfl, by unfold Gr; decide⟩
  · exact ⟨_, rfl, by unfold Gr; decide⟩
  · exact ⟨_, rfl, by unfold Gr; decide⟩
  · exact ⟨_, rfl, hm⟩

def sp__law_letters (K : PySem.W.Frag) : Sp := fun vs H Q _ => ∃ (b : Addr) (g : Int), vs = [.ref b, .int g] ∧ Gr g ∧ Bag H b ∧ ∀ (H' : Hp) (m : Nat), 1 ≤ m → m ≤ 5 → (g ≠ 0 → m ≤ 4) → Mv b H H' → Bag H' b → Q (.int (m : Int)) H'
theorem rep_one {u : V} (m : Nat) : (List.replicate m [u]).flatten = List.replicate m u := by
  induction m with
  | zero => rfl
  | succ m ih => rw [List.replicate_succ, List.flatten_cons, ih, List.replicate_succ]; rfl
theorem row_zeros {H : Hp} {u l : Addr} {m : Nat} (hu : H u = some (.tup [.int 0, .int 1])) (hl : H l = some (.tup (List.replicate m [V.ref u]).flatten)) : RowV H (.ref l) (List.replicate m (0, 1)) := by
  rw [rep_one] at hl
  refine ⟨l, _, rfl, hl, by rw [List.length_replicate, List.length_replicate], fun i x a h1 h2 => ?_⟩
  have e1 := List.eq_of_mem_replicate (List.mem_of_getElem? h1)
  have e2 := List.eq_of_mem_replicate (List.mem_of_getElem? h2)
  subst e1 e2
  exact ⟨u, rfl, hu⟩
theorem mir_b1 {m : Nat} (h : m ≤ 5) : (m + 1) * (16128000000000 * 161280) < 2 ^ 130 ∧ (m + 1) * (m * (16128000000000 * 161280) * 161280) < 2 ^ 130 ∧ m * (m * (16128000000000 * 161280) * 161280) ≤ 25 * (16128000000000 * 161280 * 161280) ∧ (m + 1) * (16128000000000 * 1) < 2 ^ 130 ∧ (m + 1) * (m * (16128000000000 * 1) * 161280) < 2 ^ 130 ∧ m * (m * (16128000000000 * 1) * 161280) ≤ 25 * (16128000000000 * 161280) := by
  rcases (by omega : m = 0 ∨ m = 1 ∨ m = 2 ∨ m = 3 ∨ m = 4 ∨ m = 5) with rfl | rfl | rfl | rfl | rfl | rfl <;> decide
theorem pick_let {i e : Int} (h0 : 0 ≤ i) (h8 : i < 8) (he : e = 4 ∨ e = 5) : ∃ m : Nat, atI [V.int 1, V.int 2, V.int 2, V.int 3, V.int 3, V.int 3, V.int 4, V.int e] i = some (.int (m : Int)) ∧ 1 ≤ m ∧ ((m : Int) = e ∨ m ≤ 4) := by
  rcases (by omega : i = 0 ∨ i = 1 ∨ i = 2 ∨ i = 3 ∨ i = 4 ∨ i = 5 ∨ i = 6 ∨ i = 7) with rfl | rfl | rfl | rfl | rfl | rfl | rfl | rfl
  · exact ⟨1, rfl, by decide, .inr (by decide)⟩
  · exact ⟨2, rfl, by decide, .inr (by decide)⟩
  · exact ⟨2, rfl, by decide, .inr (by decide)⟩
  · exact ⟨3, rfl, by decide, .inr (by decide)⟩
  · exact ⟨3, rfl, by decide, .inr (by decide)⟩
  · exact ⟨3, rfl, by decide, .inr (by decide)⟩
  · exact ⟨4, rfl, by decide, .inr (by decide)⟩
  · rcases he with rfl | rfl
    · exact ⟨4, rfl, by decide, .inl rfl⟩
    · exact ⟨5, rfl, by decide, .inl rfl⟩

/-- a row of the size that is drawn here -/
def BR (g : Int) (m : Nat) (r : List (Int × Int)) : Prop := RZ g 2520 322560 m r
/-- a thing that may be handed in: if it is a row, it is of that size -/
def SRow (H : Hp) (g : Int) (m : Nat) (v : V) : Prop := TB 200 2 H v ∧ (rowOf H g (m : Int) v = true → ∃ r, RowV H v r ∧ BR g m r)
theorem SRow.sm {H H' : Hp} {g : Int} {m : Nat} {v : V} (h : SRow H g m v) (s : Same H H') : SRow H' g m v := ⟨h.1.kd (Kd.of s), fun e => by
  rw [rowOf_tb h.1 (Kd.of s)] at e
  obtain ⟨r, h1, h2⟩ := h.2 e
  exact ⟨r, RowV.kt h1 (Kt.of s), h2⟩⟩
def sp__law_odd (K : PySem.W.Frag) : Sp := fun vs H Q _ => ∃ (b : Addr), vs = [.ref b] ∧ Bag H b ∧ ∀ (H' : Hp) (v : V), TB 200 1 H' v → (∀ g, (g = 0 ∨ Gr5 g) → numOf H' g v = false) → Mv b H H' → Bag H' b → Q v H'
theorem bad_num {g t b : Int} (hg : g = 0 ∨ Gr5 g) (h0 : ¬ (1 ≤ b ∧ Int.gcd t b = 1)) (h1 : b ≠ 1) : numOk g [.int t, .int b] = false := by
  rcases hg with rfl | h5
  · rw [numOk_0]
    by_cases h : 1 ≤ b
    · rw [decide_eq_false (show ¬ ((Int.gcd t b : Int) = 1) from fun z => h0 ⟨h, by exact_mod_cast z⟩), Bool.and_false]
    · rw [decide_eq_false h, Bool.false_and]
  · rw [numOk_g (by unfold Gr5 at h5; omega), decide_eq_false h1, Bool.and_false]

def sp_plus (K : PySem.W.Frag) : Sp := fun vs H Q _ => ∃ (g : Int) (x y : V) (a c : Int × Int) (k l : Nat), vs = [.int g, x, y] ∧ (g = 0 ∨ Gr5 g) ∧ NumV H x a ∧ NumV H y c ∧ TN g k a ∧ TN g l c ∧ 4 ≤ k ∧ 4 ≤ l ∧ k ≤ 3000 ∧ l ≤ 3000 ∧ ∀ (p : Addr) (H' : Hp), H p = none → Same H H' → H' p = some (.tup [.int (plusF g a c).1, .int (plusF g a c).2]) → Q (.ref p) H'

def sp_less (K : PySem.W.Frag) : Sp := fun vs H Q _ => ∃ (g : Int) (x y : V) (a c : Int × Int) (k l : Nat), vs = [.int g, x, y] ∧ (g = 0 ∨ Gr5 g) ∧ NumV H x a ∧ NumV H y c ∧ TN g k a ∧ TN g l c ∧ 4 ≤ k ∧ 4 ≤ l ∧ k ≤ 3000 ∧ l ≤ 3000 ∧ ∀ (p : Addr) (H' : Hp), H p = none → Same H H' → H' p = some (.tup [.int (lessF g a c).1, .int (lessF g a c).2]) → Q (.ref p) H'

def sp_times (K : PySem.W.Frag) : Sp := fun vs H Q _ => ∃ (g : Int) (x y : V) (a c : Int × Int) (k l : Nat), vs = [.int g, x, y] ∧ (g = 0 ∨ Gr5 g) ∧ NumV H x a ∧ NumV H y c ∧ TN g k a ∧ TN g l c ∧ 4 ≤ k ∧ 4 ≤ l ∧ k ≤ 3000 ∧ l ≤ 3000 ∧ ∀ (p : Addr) (H' : Hp), H p = none → Same H H' → H' p = some (.tup [.int (timesF g a c).1, .int (timesF g a c).2]) → Q (.ref p) H'
theorem low_pre {g u d : Int} {k : Nat} (hg : g = 0 ∨ Gr5 g) (hd : d ≠ 0) (h1 : g ≠ 0 → d.fmod g ≠ 0) (hu : u.natAbs < 2 ^ k) (hb : d.natAbs < 2 ^ k) (hk : k ≤ 8500) : (g = 0 ∧ d ≠ 0 ∧ d.natAbs < 2 ^ 8500) ∨ (3 ≤ g ∧ u.natAbs < 2 ^ 50000 ∧ ∃ k : Int, 1 ≤ k ∧ k ≤ 13 ∧ (k * d).fmod g = 1) := by
  rcases hg with e | h5
  · exact .inl ⟨e, hd, Nat.lt_of_lt_of_le hb (Nat.pow_le_pow_right (by decide) hk)⟩
  · have g3 : 3 ≤ g := by unfold Gr5 at h5; omega
    exact .inr ⟨g3, Nat.lt_of_lt_of_le hu (Nat.pow_le_pow_right (by decide) (by omega)), inv_of h5 (h1 (by omega))⟩
theorem TN.dn {g : Int} {k l : Nat} {a c : Int × Int} (hg : g = 0 ∨ Gr5 g) (ha : TN g k a) (hc : TN g l c) : g ≠ 0 → (a.2 * c.2).fmod g ≠ 0 := fun z => by
  have g0 := ha.gpos z
  rw [ha.one g0, hc.one g0]
  exact one_fmod (hg.resolve_left z)

def sp_over (K : PySem.W.Frag) : Sp := fun vs H Q _ => ∃ (g : Int) (x y : V) (a c : Int × Int) (k l : Nat), vs = [.int g, x, y] ∧ (g = 0 ∨ Gr5 g) ∧ NumV H x a ∧ NumV H y c ∧ TN g k a ∧ TN g l c ∧ 4 ≤ k ∧ 4 ≤ l ∧ k ≤ 3000 ∧ l ≤ 3000 ∧ c.1 ≠ 0 ∧
  ∀ (p : Addr) (H' : Hp), H p = none → Same H H' → H' p = some (.tup [.int (ovrF g a c).1, .int (ovrF g a c).2]) → Q (.ref p) H'

def sp_root_or_none (K : PySem.W.Frag) : Sp := fun vs H Q _ => ∃ (g : Int) (v : V) (a : Int × Int) (k : Nat), vs = [.int g, v] ∧ g ≤ 13 ∧ TN g k a ∧ k ≤ 8000 ∧ NumV H v a ∧ ∀ H' v', Same H H' → OptV H' v' (rootV g a) → Q v' H'
theorem TN.g0 {g : Int} {k : Nat} {a : Int × Int} (h : TN g k a) : 0 ≤ g := by
  rcases h.1 with ⟨e, _⟩ | ⟨e, _⟩ <;> omega
theorem rootV_wheel {g : Int} {a : Int × Int} (h : g ≠ 0) : rootV g a = (wroot g a.1).map fun i => (i, 1) := by
  unfold rootV
  rw [if_neg h]

def sp_is_row (K : PySem.W.Frag) : Sp := fun vs H Q _ => ∃ (g : Int) (v : V) (m : Int) (kb nb : Nat), vs = [.int g, v, .int m] ∧ TB kb (nb + 2) H v ∧ ∀ H', Same H H' → Q (.bl (rowOf H g m v)) H'

def sp_product_row (K : PySem.W.Frag) : Sp := fun vs H Q _ => ∃ (g : Int) (v : V) (c : Addr) (r : List (Int × Int)) (ss : List (List (Int × Int))) (cs : List V) (k : Nat), vs = [.int g, v, .ref c] ∧ (g = 0 ∨ (3 ≤ g ∧ g ≤ 13)) ∧ WR H v (wrT r) (wrB r) ∧ (∀ x ∈ r, OkN g k x) ∧ H c = some (.lst cs) ∧ cs.length = ss.length ∧ (∀ (i : Nat) (x : V) (s : List (Int × Int)), cs[i]? = some x → ss[i]? = some s → WR H x (wrT s) (wrB s)) ∧ (∀ s ∈ ss, s.length = r.length ∧ ∀ x ∈ s, OkN g k x) ∧ k * r.length ≤ 4000 ∧ k ≤ 800 ∧ r.length ≤ 10 ∧ ss.length ≤ 10 ∧ ∀ (v' : V) (H' : Hp), Same H H' → RowV H' v' (ss.map (cellF g r)) → Q v' H'

def sp_determinant (K : PySem.W.Frag) : Sp := fun vs H Q _ => ∃ (g : Int) (v : V) (t : List (List (Int × Int))) (n k kb A : Nat) (F : Type) (R : Lean.Grind.CommRing F) (W : GV g F), vs = [.int g, v] ∧ (g = 0 ∨ Gr5 g) ∧ TabV H v t ∧ t.length = n ∧ (∀ r ∈ t, r.length = n ∧ ∀ a ∈ r, TN g kb a) ∧ 1 ≤ n ∧ n ≤ 20 ∧ 0 < kb ∧ kb * n ≤ 8000 ∧ kb ≤ 1600 ∧
  (∀ r ∈ t, (wrB r).natAbs ≤ A ∧ ∀ y ∈ wrT r, y.natAbs ≤ A) ∧ 1 ≤ A ∧ (n * A) ^ n < 2 ^ k ∧ 4 ≤ k ∧ k ≤ 4400 ∧
  ∀ (v' : V) (H' : Hp) (d : Int × Int), Same H H' → NumV H' v' d → TN g k d → W.e d = dC (t.map (er W)) (List.range n) → Q v' H'

def sp__law_plus (K : PySem.W.Frag) : Sp := fun vs H Q _ => ∃ (g : Int) (x y : V) (a c : Int × Int), vs = [.int g, x, y] ∧ 0 ≤ g ∧ g ≤ 13 ∧ NumV H x a ∧ NumV H y c ∧ PBe a ∧ PBe c ∧ ∀ (p : Addr) (H' : Hp), H p = none → Same H H' → H' p = some (.tup [.int (plusF g a c).1, .int (plusF g a c).2]) → Q (.ref p) H'

def sp__law_times (K : PySem.W.Frag) : Sp := fun vs H Q _ => ∃ (g : Int) (x y : V) (a c : Int × Int), vs = [.int g, x, y] ∧ 0 ≤ g ∧ g ≤ 13 ∧ NumV H x a ∧ NumV H y c ∧ PBe a ∧ PBe c ∧ ∀ (p : Addr) (H' : Hp), H p = none → Same H H' → H' p = some (.tup [.int (timesF g a c).1, .int (timesF g a c).2]) → Q (.ref p) H'

def sp__law_minus (K : PySem.W.Frag) : Sp := fun vs H Q _ => ∃ (g : Int) (x : V) (a : Int × Int), vs = [.int g, x] ∧ 0 ≤ g ∧ g ≤ 13 ∧ NumV H x a ∧ a.2.natAbs < 2 ^ 8000 ∧ a.2 ≠ 0 ∧ ∀ (p : Addr) (H' : Hp), H p = none → Same H H' → H' p = some (.tup [.int (minusF g a).1, .int (minusF g a).2]) → Q (.ref p) H'

def sp__law_is_row (K : PySem.W.Frag) : Sp := fun vs H Q _ => ∃ (g : Int) (v : V) (m : Int) (kb nb : Nat), vs = [.int g, v, .int m] ∧ 0 ≤ g ∧ TB kb (nb + 2) H v ∧ ∀ H', Same H H' → Q (.bl (rowOf H g m v)) H'

def sp__law_number (K : PySem.W.Frag) : Sp := fun vs H Q _ => ∃ (b : Addr) (g : Int), vs = [.ref b, .int g] ∧ Gr g ∧ Bag H b ∧ ∀ (H' : Hp) (v : V) (a : Int × Int), NumV H' v a → NG g 0 a → TN g 7 a → Mv b H H' → Bag H' b → Q v H'
theorem nu_six {i : Int} (h0 : 0 ≤ i) (h6 : i < 6) : ∃ m : Int, atI [V.int 3, V.int 5, V.int 5, V.int 9, V.int 19, V.int 99] i = some (.int m) ∧ 3 ≤ m ∧ m ≤ 99 := by
  rcases (by omega : i = 0 ∨ i = 1 ∨ i = 2 ∨ i = 3 ∨ i = 4 ∨ i = 5) with rfl | rfl | rfl | rfl | rfl | rfl <;> exact ⟨_, rfl, by decide, by decide⟩
theorem nu_four {i d : Int} (h0 : 0 ≤ i) (h4 : i < 4) (d0 : 0 ≤ d) (d8 : d < 8) : ∃ m : Int, atI [V.int 1, V.int 1, V.int 1, V.int (2 + d)] i = some (.int m) ∧ 1 ≤ m ∧ m ≤ 9 := by
  rcases (by omega : i = 0 ∨ i = 1 ∨ i = 2 ∨ i = 3) with rfl | rfl | rfl | rfl
  · exact ⟨_, rfl, by decide, by decide⟩
  · exact ⟨_, rfl, by decide, by decide⟩
  · exact ⟨_, rfl, by decide, by decide⟩
  · exact ⟨_, rfl, by omega, by omega⟩
theorem Gr.two {g : Int} (h : Gr g) : g = 0 ∨ Gr5 g := by
  unfold Gr at h
  unfold Gr5
  omega
theorem Gr.bd {g : Int} (h : Gr g) : 0 ≤ g ∧ g ≤ 13 := by
  unfold Gr at h
  omega
theorem Gr.three {g : Int} (h : Gr g) : g = 0 ∨ (3 ≤ g ∧ g ≤ 13) := by
  unfold Gr at h
  omega

theorem row_no1 {H : Hp} {g : Int} {m k : Nat} {v : V} (h : TB k 1 H v) (hm : 1 ≤ m) : rowOf H g (m : Int) v = false := by
  rcases h with h | ⟨p, xs, rfl, hp⟩ | ⟨p, xs, rfl, hp, _, hx⟩
  · cases v <;> first | rfl | cases h
  · unfold rowOf
    dsimp only
    rw [hp]
    rfl
  · rw [rowOf_tup hp]
    cases xs with
    | nil =>
      rw [decide_eq_false (by simp; omega), Bool.false_and]
    | cons x xs =>
      have hx0 : numOf H g x = false := by
        rcases hx x List.mem_cons_self with h | ⟨q, ys, rfl, hq⟩
        · cases x <;> first | rfl | cases h
        · exact numOf_lst hq
      rw [List.all_cons, hx0, Bool.false_and, Bool.and_false]
theorem row_len {H : Hp} {g : Int} {m : Nat} {p : Addr} {xs : List V} (h : H p = some (.tup xs)) (hl : xs.length ≠ m) : rowOf H g (m : Int) (.ref p) = false := by
  rw [rowOf_tup h, decide_eq_false (by omega), Bool.false_and]
theorem row_lst {H : Hp} {g : Int} {m : Int} {p : Addr} {xs : List V} (h : H p = some (.lst xs)) : rowOf H g m (.ref p) = false := by
  unfold rowOf
  dsimp only
  rw [h]
  rfl
theorem pick4 {i : Int} {a b c d : V} (h0 : 0 ≤ i) (h4 : i < 4) : ∃ v, atI [a, b, c, d] i = some v ∧ (v = a ∨ v = b ∨ v = c ∨ v = d) := by
  rcases (by omega : i = 0 ∨ i = 1 ∨ i = 2 ∨ i = 3) with rfl | rfl | rfl | rfl
  · exact ⟨_, rfl, .inl rfl⟩
  · exact ⟨_, rfl, .inr (.inl rfl)⟩
  · exact ⟨_, rfl, .inr (.inr (.inl rfl))⟩
  · exact ⟨_, rfl, .inr (.inr (.inr rfl))⟩
def sp__law_odd_row (K : PySem.W.Frag) : Sp := fun vs H Q _ => ∃ (b : Addr) (g : Int) (x : V) (r : List (Int × Int)) (m : Nat), vs = [.ref b, .int g, x] ∧ Gr g ∧ Bag H b ∧ RowV H x r ∧ RZ g 2520 161280 m r ∧ 1 ≤ m ∧ m ≤ 5 ∧ ∀ (H' : Hp) (v : V), SRow H' g m v → Mv b H H' → Bag H' b → Q v H'
theorem half_tz {g : Int} (hg : g = 0 ∨ Gr5 g) (h : numOk g [.int 1, .int 2] = true) : TZ g 2520 322560 (1, 2) := by
  rcases hg with rfl | h5
  · exact TZ.dvd (.inl rfl) (k := 4) ⟨.inl ⟨rfl, by decide, by decide⟩, by decide, by decide⟩ (by decide) (by decide) (by decide)
  · rw [numOk_g (by unfold Gr5 at h5; omega), decide_eq_false (show ¬ (2 : Int) = 1 by decide), Bool.and_false] at h
    cases h
theorem next_tz {g : Int} (hg : g = 0 ∨ Gr5 g) (h : numOk g [.int (g + 1), .int 1] = true) : TZ g 2520 322560 (g + 1, 1) := by
  rcases hg with rfl | h5
  · exact ((TZ.one (.inl rfl)).wide 2520).mono (by decide)
  · rw [numOk_g (by unfold Gr5 at h5; omega), decide_eq_false (show ¬ g + 1 < g by omega), Bool.and_false, Bool.false_and] at h
    cases h

def sp_is_table (K : PySem.W.Frag) : Sp := fun vs H Q _ => ∃ (g : Int) (v : V) (m w : Int) (kb nb : Nat), vs = [.int g, v, .int m, .int w] ∧ TB kb (nb + 3) H v ∧ ∀ H', Same H H' → Q (.bl (tabOf H g m w v)) H'

def sp_product (K : PySem.W.Frag) : Sp := fun vs H Q _ => ∃ (g : Int) (v1 v2 : V) (t1 t2 : List (List (Int × Int))) (n l k : Nat), vs = [.int g, v1, v2] ∧ (g = 0 ∨ (3 ≤ g ∧ g ≤ 13)) ∧ TabV H v1 t1 ∧ TabV H v2 t2 ∧ (∀ r ∈ t1, r.length = n ∧ ∀ x ∈ r, OkN g k x) ∧ t2.length = n ∧ (∀ r ∈ t2, r.length = l ∧ ∀ x ∈ r, OkN g k x) ∧ 0 < n ∧ n ≤ 10 ∧ l ≤ 10 ∧ t1.length ≤ 10 ∧ 0 < k ∧ k * n ≤ 4000 ∧ k ≤ 800 ∧ ∀ (v' : V) (H' : Hp), Same H H' → TabV H' v' (t1.map fun r => (turnF l t2).map (cellF g r)) → Q v' H'
theorem turn_ok {g : Int} {k n l : Nat} {t : List (List (Int × Int))} (ht : t.length = n) (h : ∀ r ∈ t, r.length = l ∧ ∀ x ∈ r, OkN g k x) : ∀ s ∈ turnF l t, s.length = n ∧ ∀ x ∈ s, OkN g k x := by
  intro s hs
  obtain ⟨j, hj, rfl⟩ := List.mem_map.mp hs
  have hj' := List.mem_range.mp hj
  refine ⟨by rw [List.length_map, ht], fun x hx => ?_⟩
  obtain ⟨r, hr, rfl⟩ := List.mem_map.mp hx
  have hl := (h r hr).1
  refine (h r hr).2 _ ?_
  show r.getD j (0, 1) ∈ r
  rw [List.getD_eq_getElem?_getD, List.getElem?_eq_getElem (by omega)]
  exact List.getElem_mem (by omega)

def sp_row_plus (K : PySem.W.Frag) : Sp := fun vs H Q _ => ∃ (g : Int) (x y : V) (r s : List (Int × Int)) (k : Nat), vs = [.int g, x, y] ∧ (g = 0 ∨ Gr5 g) ∧ RowV H x r ∧ RowV H y s ∧ r.length = s.length ∧ r.length ≤ 100 ∧ (∀ a ∈ r, TN g k a) ∧ (∀ a ∈ s, TN g k a) ∧ 4 ≤ k ∧ k ≤ 3000 ∧ ∀ (v : V) (H' : Hp), Same H H' → RowV H' v (List.zipWith (plusF g) r s) → Q v H'

def sp_row_less (K : PySem.W.Frag) : Sp := fun vs H Q _ => ∃ (g : Int) (x y : V) (r s : List (Int × Int)) (k : Nat), vs = [.int g, x, y] ∧ (g = 0 ∨ Gr5 g) ∧ RowV H x r ∧ RowV H y s ∧ r.length = s.length ∧ r.length ≤ 100 ∧ (∀ a ∈ r, TN g k a) ∧ (∀ a ∈ s, TN g k a) ∧ 4 ≤ k ∧ k ≤ 3000 ∧ ∀ (v : V) (H' : Hp), Same H H' → RowV H' v (List.zipWith (lessF g) r s) → Q v H'

def sp_row_times (K : PySem.W.Frag) : Sp := fun vs H Q _ => ∃ (g : Int) (x y : V) (r : List (Int × Int)) (c : Int × Int) (k l : Nat), vs = [.int g, x, y] ∧ (g = 0 ∨ Gr5 g) ∧ RowV H x r ∧ NumV H y c ∧ (∀ a ∈ r, TN g k a) ∧ TN g l c ∧ 4 ≤ k ∧ 4 ≤ l ∧ k ≤ 3000 ∧ l ≤ 3000 ∧ r.length ≤ 100 ∧ ∀ (v : V) (H' : Hp), Same H H' → RowV H' v (r.map fun a => timesF g a c) → Q v H'

def sp_want_rows (K : PySem.W.Frag) : Sp := fun vs H Q E => ∃ (f tv : V) (g : Int) (L : Addr) (xs : List V) (t : List (List (Int × Int))) (m kb : Nat), vs = [f, .ref L] ∧ FormV K H f g tv ∧ TabV H tv t ∧ t.length = m ∧ H L = some (.lst xs) ∧ (∀ x ∈ xs, TB kb 2 H x) ∧
  ((∀ x ∈ xs, rowOf H g (m : Int) x = true) → ∀ H', Same H H' → Q .non H') ∧ ((∃ x ∈ xs, rowOf H g (m : Int) x = false) → ∀ H', Same H H' → E (.ref (He.ga K "NoRow")) none H')

def sp__law_sum (K : PySem.W.Frag) : Sp := fun vs H Q _ => ∃ (g : Int) (L : Addr) (xs : List V) (as : List (Int × Int)) (D : Int) (M k : Nat) (F : Type) (R : Lean.Grind.CommRing F) (W : GV g F), vs = [.int g, .ref L] ∧ (g = 0 ∨ Gr5 g) ∧ H L = some (.lst xs) ∧ Acc NumV H xs as as.length ∧ (∀ a ∈ as, TZ g D M a) ∧ D ≠ 0 ∧ D.natAbs < 2 ^ k ∧ (as.length + 1) * M < 2 ^ k ∧ 4 ≤ k ∧ k ≤ 3900 ∧
  ∀ (v : V) (H' : Hp) (d : Int × Int), Same H H' → NumV H' v d → TZ g D (as.length * M) d → W.e d = SF (fun i => W.e (as.getD i (0, 1))) as.length → Q v H'

def sp__law_scaled (K : PySem.W.Frag) : Sp := fun vs H Q _ => ∃ (g : Int) (x y : V) (r : List (Int × Int)) (c : Int × Int), vs = [.int g, x, y] ∧ 0 ≤ g ∧ g ≤ 13 ∧ RowV H x r ∧ NumV H y c ∧ r.length ≤ 100 ∧ (∀ a ∈ r, PBe a) ∧ PBe c ∧ ∀ (v : V) (H' : Hp), Same H H' → RowV H' v (r.map fun a => timesF g a c) → Q v H'

def sp__law_added (K : PySem.W.Frag) : Sp := fun vs H Q _ => ∃ (g : Int) (x y : V) (r s : List (Int × Int)), vs = [.int g, x, y] ∧ 0 ≤ g ∧ g ≤ 13 ∧ RowV H x r ∧ RowV H y s ∧ r.length = s.length ∧ r.length ≤ 100 ∧ (∀ a ∈ r, PBe a) ∧ (∀ a ∈ s, PBe a) ∧ ∀ (v : V) (H' : Hp), Same H H' → RowV H' v (List.zipWith (plusF g) r s) → Q v H'

def sp__law_other_than_nought (K : PySem.W.Frag) : Sp := fun vs H Q _ => ∃ (b : Addr) (g : Int), vs = [.ref b, .int g] ∧ Gr g ∧ Bag H b ∧ ∀ (H' : Hp) (v : V) (a : Int × Int), NumV H' v a → NG g 0 a → TN g 7 a → a.1 ≠ 0 → Mv b H H' → Bag H' b → Q v H'
theorem pick_two {b : Bool} {x y : V} : atI [x, y] (if b = true then 1 else 0) = some (if b = true then y else x) := by
  cases b <;> rfl

def sp__law_row (K : PySem.W.Frag) : Sp := fun vs H Q _ => ∃ (b : Addr) (g m : Int), vs = [.ref b, .int g, .int m] ∧ Gr g ∧ 0 ≤ m ∧ m ≤ 10 ∧ Bag H b ∧ ∀ (H' : Hp) (v : V) (r : List (Int × Int)), RowV H' v r → r.length = m.toNat → (∀ a ∈ r, NG g 0 a ∧ TN g 7 a) → Mv b H H' → Bag H' b → Q v H'

def sp_is_form_table (K : PySem.W.Frag) : Sp := fun vs H Q _ => ∃ (g : Int) (v : V) (t : List (List (Int × Int))) (m : Nat) (D : Int) (M a : Nat) (F : Type) (R : Lean.Grind.CommRing F) (W : GV g F), vs = [.int g, v] ∧ (g = 0 ∨ Gr5 g) ∧ TabV H v t ∧ FrmT W D M m t ∧ 1 ≤ m ∧ m ≤ 5 ∧ (g ≠ 0 → m ≤ 4) ∧ D ≠ 0 ∧ D.natAbs ≤ 2 ^ a ∧ M ≤ 2 ^ a ∧ 4 ≤ a ∧ a ≤ 800 ∧ ∀ H', Same H H' → Q (.bl true) H'
theorem ift_sz {m a : Nat} (hm : m ≤ 5) (ha : a ≤ 800) : (m * 2 ^ a) ^ m < 2 ^ 4200 := by
  have h1 : m * 2 ^ a ≤ 2 ^ (3 + a) := pw_mul (pw_five hm).1 (Nat.le_refl _)
  have h2 : (m * 2 ^ a) ^ m ≤ (2 ^ (3 + a)) ^ m := Nat.pow_le_pow_left h1 m
  rw [← Nat.pow_mul] at h2
  refine Nat.lt_of_le_of_lt h2 (Nat.pow_lt_pow_right (by decide) ?_)
  have : (3 + a) * m ≤ 803 * 5 := Nat.mul_le_mul (by omega) hm
  omega

def sp_products (K : PySem.W.Frag) : Sp := fun vs H Q _ => ∃ (g : Int) (f tv x y : V) (t rs ss : List (List (Int × Int))) (m : Nat) (Dt Dr Ds : Int) (Mt Mr Ms k : Nat) (F : Type) (R : Lean.Grind.CommRing F) (W : GV g F), vs = [f, x, y] ∧ (g = 0 ∨ Gr5 g) ∧ FormV K H f g tv ∧ TabV H tv t ∧ TabV H x rs ∧ TabV H y ss ∧ t.length = m ∧ 1 ≤ m ∧ m ≤ 5 ∧ rs.length ≤ 10 ∧ 1 ≤ ss.length ∧ ss.length ≤ 10 ∧
  (∀ r ∈ t, RZ g Dt Mt m r) ∧ (∀ r ∈ rs, RZ g Dr Mr m r) ∧ (∀ r ∈ ss, RZ g Ds Ms m r) ∧ Dt ≠ 0 ∧ Dr ≠ 0 ∧ Ds ≠ 0 ∧ Dt.natAbs < 2 ^ k ∧ Dr.natAbs < 2 ^ k ∧ Ds.natAbs < 2 ^ k ∧ (Dr * Dt).natAbs < 2 ^ k ∧ Mt < 2 ^ k ∧ Mr < 2 ^ k ∧ Ms < 2 ^ k ∧ m * (Mr * Mt) < 2 ^ k ∧ 4 ≤ k ∧ k ≤ 800 ∧
  ∀ (v : V) (H' : Hp) (T : List (List (Int × Int))), Same H H' → TabV H' v T → T.length = rs.length → (∀ r ∈ T, RZ g (Dr * Dt * Ds) (m * (m * (Mr * Mt) * Ms)) ss.length r) → (∀ (i j : Nat) (r s q : List (Int × Int)), rs[i]? = some r → ss[j]? = some s → T[i]? = some q → er W q j = bil (t.map (er W)) m (er W r) (er W s)) → Q v H'

def sp__law_through (K : PySem.W.Frag) : Sp := fun vs H Q _ => ∃ (g : Int) (x y : V) (r : List (Int × Int)) (t : List (List (Int × Int))) (n m : Nat) (Dr Dt : Int) (Mr Mt k : Nat) (F : Type) (R : Lean.Grind.CommRing F) (W : GV g F), vs = [.int g, x, y] ∧ (g = 0 ∨ Gr5 g) ∧ RowV H x r ∧ TabV H y t ∧ RZ g Dr Mr m r ∧ t.length = m ∧ 1 ≤ m ∧ m ≤ 20 ∧ n ≤ 20 ∧ (∀ s ∈ t, RZ g Dt Mt n s) ∧ Dr ≠ 0 ∧ Dt ≠ 0 ∧ (Dt * Dr).natAbs < 2 ^ k ∧ Mr < 2 ^ k ∧ Mt < 2 ^ k ∧ (m + 1) * (Mt * Mr) < 2 ^ k ∧ 4 ≤ k ∧ k ≤ 3900 ∧
  ∀ (v : V) (H' : Hp) (w : List (Int × Int)), Same H H' → RowV H' v w → RZ g (Dt * Dr) (m * (Mt * Mr)) n w → er W w = thr (t.map (er W)) (er W r) → Q v H'

def sp_Form___init__ (K : PySem.W.Frag) : Sp := fun vs H Q _ => ∃ (x dx : Addr) (tv : V) (g : Int) (t : List (List (Int × Int))) (m : Nat) (D : Int) (M a : Nat) (F : Type) (R : Lean.Grind.CommRing F) (W : GV g F), vs = [.ref x, tv, .int g] ∧ H x = some (.ins (He.ga K "Form") dx []) ∧ (g = 0 ∨ Gr5 g) ∧ TabV H tv t ∧ FrmT W D M m t ∧ 1 ≤ m ∧ m ≤ 5 ∧ (g ≠ 0 → m ≤ 4) ∧ D ≠ 0 ∧ D.natAbs ≤ 2 ^ a ∧ M ≤ 2 ^ a ∧ 4 ≤ a ∧ a ≤ 800 ∧
  ∀ H', (∀ b o, b ≠ x → H b = some o → H' b = some o) → H' x = some (.ins (He.ga K "Form") dx [("table", tv), ("ground", .int g)]) → Q .non H'
theorem form_mk {K : PySem.W.Frag} {H : Hp} {Q : Addr → Hp → Prop} {E : XK} {tv : V} {g : Int} {t : List (List (Int × Int))} {m : Nat} {D : Int} {M a : Nat} {F : Type} {R : Lean.Grind.CommRing F} {W : GV g F} (hg : g = 0 ∨ Gr5 g) (ht : TabV H tv t) (hf : FrmT W D M m t) (hm1 : 1 ≤ m) (hm : m ≤ 5) (hmw : g ≠ 0 → m ≤ 4) (hD0 : D ≠ 0) (hD : D.natAbs ≤ 2 ^ a) (hM : M ≤ 2 ^ a) (ha4 : 4 ≤ a) (ha : a ≤ 800)
    (q : ∀ (f : Addr) (H' : Hp), Same H H' → FormV K H' (.ref f) g tv → Q f H') :
    ∀ x dx, H x = none → H dx = none → dx ≠ x → sp_Form___init__ K [.ref x, tv, .int g] (upd (upd H dx (.own x)) x (.ins (He.ga K "Form") dx [])) (fun v H2 => v = .non ∧ Q x H2) E := fun x dx hx hdx hne =>
  ⟨x, dx, tv, g, t, m, D, M, a, F, R, W, rfl, upd_same, hg, TabV.kt ht (Kt.of (made_same0 hx hdx)), hf, hm1, hm, hmw, hD0, hD, hM, ha4, ha, fun H' k1 k2 => ⟨rfl, q _ _ (made_same hx hdx k1) ⟨x, dx, rfl, k2⟩⟩⟩

def sp_worth_of (K : PySem.W.Frag) : Sp := fun vs H Q _ => ∃ (g : Int) (f tv y : V) (t : List (List (Int × Int))) (r : List (Int × Int)) (m : Nat) (Dt Dr : Int) (Mt Mr k : Nat) (F : Type) (R : Lean.Grind.CommRing F) (W : GV g F), vs = [f, y] ∧ (g = 0 ∨ Gr5 g) ∧ FormV K H f g tv ∧ TabV H tv t ∧ RowV H y r ∧ t.length = m ∧ 1 ≤ m ∧ m ≤ 5 ∧
  (∀ r ∈ t, RZ g Dt Mt m r) ∧ RZ g Dr Mr m r ∧ Dt ≠ 0 ∧ Dr ≠ 0 ∧ Dt.natAbs < 2 ^ k ∧ Dr.natAbs < 2 ^ k ∧ (Dr * Dt).natAbs < 2 ^ k ∧ Mt < 2 ^ k ∧ Mr < 2 ^ k ∧ m * (Mr * Mt) < 2 ^ k ∧ 4 ≤ k ∧ k ≤ 800 ∧
  ∀ (v : V) (H' : Hp) (d : Int × Int), Same H H' → NumV H' v d → TZ g (Dr * Dt * Dr) (m * (m * (Mr * Mt) * Mr)) d → W.e d = bil (t.map (er W)) m (er W r) (er W r) → Q v H'

def sp__law_product (K : PySem.W.Frag) : Sp := fun vs H Q _ => ∃ (g : Int) (x y : V) (s t : List (List (Int × Int))) (n m : Nat) (Dr Dt : Int) (Mr Mt k : Nat) (F : Type) (R : Lean.Grind.CommRing F) (W : GV g F), vs = [.int g, x, y] ∧ (g = 0 ∨ Gr5 g) ∧ TabV H x s ∧ TabV H y t ∧ (∀ r ∈ s, RZ g Dr Mr m r) ∧ s.length ≤ 20 ∧ t.length = m ∧ 1 ≤ m ∧ m ≤ 20 ∧ n ≤ 20 ∧ (∀ s ∈ t, RZ g Dt Mt n s) ∧ Dr ≠ 0 ∧ Dt ≠ 0 ∧ (Dt * Dr).natAbs < 2 ^ k ∧ Mr < 2 ^ k ∧ Mt < 2 ^ k ∧ (m + 1) * (Mt * Mr) < 2 ^ k ∧ 4 ≤ k ∧ k ≤ 3900 ∧
  ∀ (v : V) (H' : Hp) (T : List (List (Int × Int))), Same H H' → TabV H' v T → T.length = s.length → (∀ r ∈ T, RZ g (Dt * Dr) (m * (Mt * Mr)) n r) → T.map (er W) = (s.map (er W)).map (thr (t.map (er W))) → Q v H'

def sp__law_pair (K : PySem.W.Frag) : Sp := fun vs H Q _ => ∃ (g : Int) (x y z : V) (t : List (List (Int × Int))) (r s : List (Int × Int)) (m : Nat) (Dt Dr Ds : Int) (Mt Mr Ms k : Nat) (F : Type) (R : Lean.Grind.CommRing F) (W : GV g F), vs = [.int g, x, y, z] ∧ (g = 0 ∨ Gr5 g) ∧ TabV H x t ∧ RowV H y r ∧ RowV H z s ∧ t.length = m ∧ 1 ≤ m ∧ m ≤ 20 ∧ (∀ q ∈ t, RZ g Dt Mt m q) ∧ RZ g Dr Mr m r ∧ RZ g Ds Ms m s ∧ Dt ≠ 0 ∧ Dr ≠ 0 ∧ Ds ≠ 0 ∧ (Dt * Dr * Ds).natAbs < 2 ^ k ∧ Mt < 2 ^ k ∧ Mr < 2 ^ k ∧ Ms < 2 ^ k ∧ (m + 1) * (Mt * Mr) < 2 ^ k ∧ (m + 1) * (m * (Mt * Mr) * Ms) < 2 ^ k ∧ 4 ≤ k ∧ k ≤ 3900 ∧
  ∀ (v : V) (H' : Hp) (d : Int × Int), Same H H' → NumV H' v d → TZ g (Dt * Dr * Ds) (m * (m * (Mt * Mr) * Ms)) d → W.e d = bil (t.map (er W)) m (er W r) (er W s) → Q v H'

theorem bMr : 322560 ≤ 2 ^ 19 := by decide
def FT (g : Int) (t : List (List (Int × Int))) (m : Nat) : Prop := t.length = m ∧ 1 ≤ m ∧ m ≤ 5 ∧ ∀ r ∈ t, RZ g 2520 16128000000000 m r
theorem bMt : 16128000000000 ≤ 2 ^ 44 := by decide
theorem b2520 : (2520 : Int).natAbs ≤ 2 ^ 12 := by decide
theorem BR.tn {g : Int} {m : Nat} {r : List (Int × Int)} (hg : g = 0 ∨ Gr5 g) (h : BR g m r) : r.length = m ∧ ∀ a ∈ r, TN g 20 a := ⟨h.1, RZ.tn hg h (by decide) (by decide) (by decide) (by decide)⟩
def sp_want_worths (K : PySem.W.Frag) : Sp := fun vs H Q E => ∃ (g : Int) (f tv : V) (L : Addr) (xs : List V) (t rs : List (List (Int × Int))) (m : Nat) (F : Type) (R : Lean.Grind.CommRing F) (W : GV g F), vs = [f, .ref L] ∧ (g = 0 ∨ Gr5 g) ∧ FormV K H f g tv ∧ TabV H tv t ∧ H L = some (.lst xs) ∧ Acc RowV H xs rs rs.length ∧ FT g t m ∧ (∀ r ∈ rs, BR g m r) ∧
  ((∀ r ∈ rs, bil (t.map (er W)) m (er W r) (er W r) ≠ 0) → ∀ H', Same H H' → Q .non H') ∧ ((∃ r ∈ rs, bil (t.map (er W)) m (er W r) (er W r) = 0) → ∀ H', Same H H' → E (.ref (He.ga K "NoWorth")) none H')

/-- the rows that lead r to s -/
def LedL {g : Int} {F : Type} [Lean.Grind.CommRing F] (W : GV g F) (t : List (List (Int × Int))) (m : Nat) (r s : List (Int × Int)) (us : List (List (Int × Int))) : Prop :=
  (r = s → us = []) ∧ (r ≠ s → bil (t.map (er W)) m (er W (List.zipWith (lessF g) r s)) (er W (List.zipWith (lessF g) r s)) ≠ 0 → us = [List.zipWith (lessF g) r s]) ∧ (r ≠ s → bil (t.map (er W)) m (er W (List.zipWith (lessF g) r s)) (er W (List.zipWith (lessF g) r s)) = 0 → us = [List.zipWith (plusF g) r s, s])
def sp_leading_mirrors (K : PySem.W.Frag) : Sp := fun vs H Q _ => ∃ (g : Int) (f tv x y : V) (t : List (List (Int × Int))) (r s : List (Int × Int)) (m : Nat) (Dt D : Int) (Mt M k : Nat) (F : Type) (R : Lean.Grind.CommRing F) (W : GV g F), vs = [f, x, y] ∧ (g = 0 ∨ Gr5 g) ∧ FormV K H f g tv ∧ TabV H tv t ∧ RowV H x r ∧ RowV H y s ∧ t.length = m ∧ 1 ≤ m ∧ m ≤ 5 ∧
  (∀ r ∈ t, RZ g Dt Mt m r) ∧ RZ g D M m r ∧ RZ g D M m s ∧ Dt ≠ 0 ∧ D ≠ 0 ∧ Dt.natAbs < 2 ^ k ∧ D.natAbs < 2 ^ k ∧ (D * Dt).natAbs < 2 ^ k ∧ Mt < 2 ^ k ∧ M + M < 2 ^ k ∧ m * ((M + M) * Mt) < 2 ^ k ∧ 4 ≤ k ∧ k ≤ 800 ∧
  ∀ (H' : Hp) (L : Addr) (xs : List V) (us : List (List (Int × Int))), Same H H' → H L = none → H' L = some (.lst xs) → Acc RowV H' xs us us.length → LedL W t m r s us → Q (.ref L) H'

def sp__law_worth (K : PySem.W.Frag) : Sp := fun vs H Q _ => ∃ (g : Int) (x y : V) (t : List (List (Int × Int))) (r : List (Int × Int)) (m : Nat) (Dt Dr : Int) (Mt Mr k : Nat) (F : Type) (R : Lean.Grind.CommRing F) (W : GV g F), vs = [.int g, x, y] ∧ (g = 0 ∨ Gr5 g) ∧ TabV H x t ∧ RowV H y r ∧ t.length = m ∧ 1 ≤ m ∧ m ≤ 20 ∧ (∀ q ∈ t, RZ g Dt Mt m q) ∧ RZ g Dr Mr m r ∧ Dt ≠ 0 ∧ Dr ≠ 0 ∧ (Dt * Dr * Dr).natAbs < 2 ^ k ∧ Mt < 2 ^ k ∧ Mr < 2 ^ k ∧ (m + 1) * (Mt * Mr) < 2 ^ k ∧ (m + 1) * (m * (Mt * Mr) * Mr) < 2 ^ k ∧ 4 ≤ k ∧ k ≤ 3900 ∧
  ∀ (v : V) (H' : Hp) (d : Int × Int), Same H H' → NumV H' v d → TZ g (Dt * Dr * Dr) (m * (m * (Mt * Mr) * Mr)) d → W.e d = bil (t.map (er W)) m (er W r) (er W r) → Q v H'

def sp__law_changed (K : PySem.W.Frag) : Sp := fun vs H Q _ => ∃ (b : Addr) (g : Int) (x : V) (t : List (List (Int × Int))) (m : Nat) (F : Type) (R : Lean.Grind.CommRing F) (W : GV g F), vs = [.ref b, .int g, x] ∧ Gr g ∧ Bag H b ∧ TabV H x t ∧ FrmT W 2520 161280 m t ∧ 1 ≤ m ∧ m ≤ 5 ∧
  ∀ (H' : Hp) (v : V) (T : List (List (Int × Int))), TabV H' v T → FrmT W 2520 16128000000000 m T → Mv b H H' → Bag H' b → Q v H'
/-- a list of numbers that may be changed -/
def LRow (H : Hp) (v : V) (r : List (Int × Int)) : Prop := ∃ p xs, v = .ref p ∧ H p = some (.lst xs) ∧ Acc NumV H xs r r.length
theorem LRow.sm {H H' : Hp} {v : V} {r : List (Int × Int)} (h : LRow H v r) (s : Same H H') : LRow H' v r := by
  obtain ⟨p, xs, e, hp, ha⟩ := h
  exact ⟨p, xs, e, s _ _ hp, ha.mono fun x a h => NumV.kt h (Kt.of s)⟩
theorem LRow.upd {H : Hp} {v : V} {r : List (Int × Int)} {D : Addr} {xs ys : List V} (h : LRow H v r) (hD : H D = some (.lst xs)) (hn : v ≠ .ref D) : LRow (upd H D (.lst ys)) v r := by
  obtain ⟨p, zs, e, hp, ha⟩ := h
  refine ⟨p, zs, e, ?_, ha.mono fun x a h => NumV.kt h (Kt.updL hD)⟩
  rw [upd_ne (fun z => hn (by rw [e, z]))]
  exact hp
theorem pick3 {i : Int} {x y z : V} (h0 : 0 ≤ i) (h3 : i < 3) : ∃ v, atI [x, y, z] i = some v ∧ (v = x ∨ v = y ∨ v = z) := by
  rcases (by omega : i = 0 ∨ i = 1 ∨ i = 2) with rfl | rfl | rfl
  · exact ⟨_, rfl, .inl rfl⟩
  · exact ⟨_, rfl, .inr (.inl rfl)⟩
  · exact ⟨_, rfl, .inr (.inr rfl)⟩
theorem ixN_nat {n j : Nat} (h : j < n) : ixN n (j : Int) = some j := by
  unfold ixN
  simp
  omega
theorem frm_mono {g : Int} {F : Type} [Lean.Grind.CommRing F] {W : GV g F} {D : Int} {M N m : Nat} {t : List (List (Int × Int))} (h : FrmT W D M m t) (hM : M ≤ N) : FrmT W D N m t := ⟨h.len, fun r hr => ⟨(h.row r hr).1, fun a ha => ((h.row r hr).2 a ha).mono hM⟩, h.sym, h.det⟩
theorem pow100 {i : Nat} (h : i ≤ 4) : 161280 * 100 ^ i ≤ 16128000000000 := by
  have : 100 ^ i ≤ 100 ^ 4 := Nat.pow_le_pow_right (by decide) h
  omega

def sp_leading (K : PySem.W.Frag) : Sp := fun vs H Q E => ∃ (g : Int) (f tv x y : V) (t : List (List (Int × Int))) (m : Nat) (F : Type) (R : Lean.Grind.CommRing F) (W : GV g F), vs = [f, x, y] ∧ (g = 0 ∨ Gr5 g) ∧ FormV K H f g tv ∧ TabV H tv t ∧ FT g t m ∧ SRow H g m x ∧ SRow H g m y ∧
  ((rowOf H g (m : Int) x = false ∨ rowOf H g (m : Int) y = false) → ∀ H', Same H H' → E (.ref (He.ga K "NoRow")) none H') ∧
  (∀ r s, RowV H x r → RowV H y s → BR g m r → BR g m s → (bil (t.map (er W)) m (er W r) (er W r) = 0 ∨ bil (t.map (er W)) m (er W s) (er W s) = 0) → ∀ H', Same H H' → E (.ref (He.ga K "NoWorth")) none H') ∧
  (∀ r s, RowV H x r → RowV H y s → BR g m r → BR g m s → bil (t.map (er W)) m (er W r) (er W r) ≠ 0 → bil (t.map (er W)) m (er W s) (er W s) ≠ 0 → bil (t.map (er W)) m (er W r) (er W r) ≠ bil (t.map (er W)) m (er W s) (er W s) → ∀ H', Same H H' → E (.ref (He.ga K "NoPlace")) none H') ∧
  (∀ r s, RowV H x r → RowV H y s → BR g m r → BR g m s → bil (t.map (er W)) m (er W r) (er W r) ≠ 0 → bil (t.map (er W)) m (er W r) (er W r) = bil (t.map (er W)) m (er W s) (er W s) → ∀ v H', Same H H' → Q v H')

/-- the one worth over the other is c times itself -/
def CQ {g : Int} {F : Type} [Lean.Grind.CommRing F] (W : GV g F) (t : List (List (Int × Int))) (m : Nat) (r s : List (Int × Int)) (c : Int × Int) : Prop := TN g 180 c ∧ W.e c * W.e c * bil (t.map (er W)) m (er W s) (er W s) = bil (t.map (er W)) m (er W r) (er W r)
/-- a number whose square is a quotient of small ones is small -/
theorem cq_small {g : Int} {F : Type} [Lean.Grind.CommRing F] {W : GV g F} {t : List (List (Int × Int))} {m : Nat} {r s : List (Int × Int)} (hg : g = 0 ∨ Gr5 g) (hf : FT g t m) (hr : BR g m r) (hs : BR g m s) (hw0 : bil (t.map (er W)) m (er W r) (er W r) ≠ 0) (hw1 : bil (t.map (er W)) m (er W s) (er W s) ≠ 0) {c : Int × Int} (hc : CQ W t m r s c) : c.1.natAbs ≤ 2 ^ 87 ∧ c.2.natAbs ≤ 2 ^ 87 := by
  have hm := hf.2.2.1
  by_cases hg0 : g = 0
  · have htz : ∀ i, i < m → ∀ j, ZV W 2520 16128000000000 (((t.map (er W)).getD i zr) j) := fun i hi j => by
      have := hf.1
      rw [getD_map (List.getElem?_eq_getElem (by omega))]
      exact (hf.2.2.2 _ (List.getElem_mem (by omega))).zv hg0 j
    have hB : (t.map (er W)).length = m := by rw [List.length_map]; exact hf.1
    obtain ⟨zr', e1, b1⟩ := zv_bil hB htz (fun j => RZ.zv hg0 hr j) (fun j => RZ.zv hg0 hr j)
    obtain ⟨zs, e2, b2⟩ := zv_bil hB htz (fun j => RZ.zv hg0 hs j) (fun j => RZ.zv hg0 hs j)
    have hb : m * (m * (322560 * 16128000000000) * 322560) ≤ 2 ^ 87 := by
      rcases (by omega : m = 0 ∨ m = 1 ∨ m = 2 ∨ m = 3 ∨ m = 4 ∨ m = 5) with rfl | rfl | rfl | rfl | rfl | rfl <;> decide
    have hzs := ZV.ne (M := 0) (show (2520 * 2520 * 2520 : Int) ≠ 0 by decide) hg0 hw1 e2
    subst hg0
    have hred := hc.1.red
    have hsq : TN 0 360 (c.1 * c.1, c.2 * c.2) := by
      refine ⟨.inl ⟨rfl, ⟨Int.mul_pos hred.1 hred.1, ?_⟩⟩, ?_, ?_⟩
      · show Int.gcd (c.1 * c.1) (c.2 * c.2) = 1
        have h1 : Nat.Coprime c.1.natAbs c.2.natAbs := hred.2
        show Nat.gcd (c.1 * c.1).natAbs (c.2 * c.2).natAbs = 1
        rw [Int.natAbs_mul, Int.natAbs_mul]
        exact Nat.Coprime.mul_right (Nat.Coprime.mul_left h1 h1) (Nat.Coprime.mul_left h1 h1)
      · exact wide_lt hc.1.2.1 hc.1.2.1
      · exact wide_lt hc.1.2.2 hc.1.2.2
    have e3 : W.e (c.1 * c.1, c.2 * c.2) = W.e c * W.e c := by
      obtain ⟨k1, k2⟩ := W.tn hg hsq
      obtain ⟨k3, k4⟩ := W.tn hg hc.1
      refine W.cancel (z := W.i (c.2 * c.2)) ?_ k2
      have k1' : W.e (c.1 * c.1, c.2 * c.2) * W.i (c.2 * c.2) = W.i (c.1 * c.1) := k1
      rw [k1', W.imul, W.imul, ← k3]
      grind
    obtain ⟨k1, k2⟩ := tn_by (V := W) hg rfl hsq hzs (n := zr') (by
      rw [e3, ← e1, ← e2, ← hc.2]
      grind)
    have k1' : (c.1 * c.1).natAbs ≤ zr'.natAbs := k1
    have k2' : (c.2 * c.2).natAbs ≤ zs.natAbs := k2
    rw [Int.natAbs_mul] at k1' k2'
    refine ⟨?_, ?_⟩
    · by_cases z : c.1.natAbs = 0
      · rw [z]
        exact Nat.zero_le _
      · have : c.1.natAbs ≤ c.1.natAbs * c.1.natAbs := Nat.le_mul_of_pos_left _ (by omega)
        exact Nat.le_trans this (Nat.le_trans k1' (Nat.le_trans b1 hb))
    · have : c.2.natAbs ≤ c.2.natAbs * c.2.natAbs := Nat.le_mul_of_pos_left _ (by have := hred.1; omega)
      exact Nat.le_trans this (Nat.le_trans k2' (Nat.le_trans b2 hb))
  · have h5 := hg.resolve_left hg0
    rcases hc.1.1 with ⟨z, _⟩ | ⟨_, a0, a1, a2⟩
    · exact absurd z hg0
    · have : g ≤ 13 := by unfold Gr5 at h5; omega
      have p : 2 ^ 4 ≤ 2 ^ 87 := by decide
      exact ⟨by omega, by rw [a2]; exact Nat.le_trans (by decide) p⟩
def sp_led (K : PySem.W.Frag) : Sp := fun vs H Q E => ∃ (g : Int) (f tv x y : V) (t : List (List (Int × Int))) (m : Nat) (F : Type) (R : Lean.Grind.CommRing F) (W : GV g F), vs = [f, x, y] ∧ (g = 0 ∨ Gr5 g) ∧ FormV K H f g tv ∧ TabV H tv t ∧ FT g t m ∧ SRow H g m x ∧ SRow H g m y ∧
  ((rowOf H g (m : Int) x = false ∨ rowOf H g (m : Int) y = false) → ∀ H', Same H H' → E (.ref (He.ga K "NoRow")) none H') ∧
  (∀ r s, RowV H x r → RowV H y s → BR g m r → BR g m s → (bil (t.map (er W)) m (er W r) (er W r) = 0 ∨ bil (t.map (er W)) m (er W s) (er W s) = 0) → ∀ H', Same H H' → E (.ref (He.ga K "NoWorth")) none H') ∧
  (∀ r s, RowV H x r → RowV H y s → BR g m r → BR g m s → bil (t.map (er W)) m (er W r) (er W r) ≠ 0 → bil (t.map (er W)) m (er W s) (er W s) ≠ 0 → ∀ v H', Same H H' → Q v H')

def sp__law_form (K : PySem.W.Frag) : Sp := fun vs H Q _ => ∃ (b : Addr) (g : Int) (m : Nat) (F : Type) (R : Lean.Grind.CommRing F) (W : GV g F), vs = [.ref b, .int g, .int (m : Int)] ∧ Gr g ∧ Bag H b ∧ 1 ≤ m ∧ m ≤ 5 ∧
  ∀ (H' : Hp) (v : V) (T : List (List (Int × Int))), TabV H' v T → FrmT W 2520 16128000000000 m T → Mv b H H' → Bag H' b → Q v H'
theorem tz_oneW {g : Int} (hg : g = 0 ∨ Gr5 g) : TZ g 2520 161280 (1, 1) := by
  have := (TZ.one hg).wide 2520
  rw [show (1 : Int) * 2520 = 2520 from rfl] at this
  exact this.mono (by decide)
theorem tz_lackW {g : Int} (hg : g = 0 ∨ Gr5 g) : TZ g 2520 161280 (minusF g (1, 1)) := (tz_oneW hg).minus hg
theorem lack_ne {g : Int} (hg : g = 0 ∨ Gr5 g) : (minusF g (1, 1)).1 ≠ 0 := fun z => by
  obtain ⟨F', R, ⟨W⟩⟩ := gv_any hg
  have h1 := W.minus hg (tn_one hg)
  rw [W.one] at h1
  have h2 := (e_zero (V := W) hg (tn_minus hg (tn_one hg) (Nat.le_refl 4))).mpr z
  rw [h2] at h1
  exact W.ne (by grind)

def sp__law_with_worth (K : PySem.W.Frag) : Sp := fun vs H Q _ => ∃ (b : Addr) (g : Int) (x : V) (t : List (List (Int × Int))) (m : Nat) (F : Type) (R : Lean.Grind.CommRing F) (W : GV g F), vs = [.ref b, .int g, x] ∧ Gr g ∧ Bag H b ∧ TabV H x t ∧ FrmT W 2520 16128000000000 m t ∧ 1 ≤ m ∧ m ≤ 5 ∧
  ∀ (H' : Hp) (v : V) (r : List (Int × Int)), RowV H' v r → RZ g 2520 161280 m r → bil (t.map (er W)) m (er W r) (er W r) ≠ 0 → Mv b H H' → Bag H' b → Q v H'

theorem units65 {k : Nat} {A : Around} (r : Room k A) : A.units + 65 < cLine := by
  have := r.un
  omega
theorem w_inNum {K : PySem.W.Frag} {H : Hp} {Q : VK} {v x y : V} {L : Addr} {a b c : Int × Int} (hv : NumV H v c) (hL : H L = some (.lst [x, y])) (hx : NumV H x a) (hy : NumV H y b) (q : Q (.bl (decide (a = c) || decide (b = c))) H) : rInD K v (.ref L) H Q := by
  have l := lay_num [a, b]
  have e : (Bool.or (PyData.eqv (numD a) (numD c)) (Bool.or (PyData.eqv (numD b) (numD c)) false)) = (decide (a = c) || decide (b = c)) := by rw [num_eqv, num_eqv, Bool.or_false]
  refine ⟨numD c, [numD a, numD b], NumV.dp hv, .lst (SqL.of hL) (.cons (NumV.dp hx) (.cons (NumV.dp hy) .nil)), num_shaped c, shaped_of (by rw [PyData.canLay0]; exact l.1) (by rw [PyData.depth]; have := l.2; simp only [List.map] at this; omega), ?_⟩
  show Q (.bl (Bool.or (PyData.eqv (numD a) (numD c)) (Bool.or (PyData.eqv (numD b) (numD c)) false))) H
  rw [e]
  exact q
def sp__law_due (K : PySem.W.Frag) : Sp := fun vs H Q _ => ∃ (g : Int) (tv x y : V) (t : List (List (Int × Int))) (m : Nat) (F : Type) (R : Lean.Grind.CommRing F) (W : GV g F), vs = [.int g, tv, x, y] ∧ (g = 0 ∨ Gr5 g) ∧ TabV H tv t ∧ FT g t m ∧ SRow H g m x ∧ SRow H g m y ∧
  ((rowOf H g (m : Int) x = false ∨ rowOf H g (m : Int) y = false) → ∀ H', Same H H' → Q (.str (Str.ofString "NoRow")) H') ∧
  (∀ r s, RowV H x r → RowV H y s → BR g m r → BR g m s → (bil (t.map (er W)) m (er W r) (er W r) = 0 ∨ bil (t.map (er W)) m (er W s) (er W s) = 0) → ∀ H', Same H H' → Q (.str (Str.ofString "NoWorth")) H') ∧
  (∀ r s, RowV H x r → RowV H y s → BR g m r → BR g m s → bil (t.map (er W)) m (er W r) (er W r) ≠ 0 → bil (t.map (er W)) m (er W s) (er W s) ≠ 0 → bil (t.map (er W)) m (er W r) (er W r) ≠ bil (t.map (er W)) m (er W s) (er W s) → ∀ H', Same H H' → Q (.str (Str.ofString "NoPlace")) H') ∧
  (∀ r s, RowV H x r → RowV H y s → BR g m r → BR g m s → bil (t.map (er W)) m (er W r) (er W r) ≠ 0 → bil (t.map (er W)) m (er W s) (er W s) ≠ 0 → bil (t.map (er W)) m (er W r) (er W r) = bil (t.map (er W)) m (er W s) (er W s) → ∀ H', Same H H' → Q .non H')

theorem row_uniq {H : Hp} {v : V} {r s : List (Int × Int)} (h1 : RowV H v r) (h2 : RowV H v s) : r = s := by
  obtain ⟨p, xs, rfl, hp, hl, hx⟩ := h1
  obtain ⟨p', xs', e, hp', hl', hx'⟩ := h2
  cases e
  rw [hp] at hp'
  cases hp'
  refine List.ext_getElem (by omega) fun i k1 k2 => ?_
  have e0 : xs[i]? = some (xs[i]'(by omega)) := List.getElem?_eq_getElem _
  obtain ⟨q, e1, a1⟩ := hx i _ _ e0 (List.getElem?_eq_getElem k1)
  obtain ⟨q', e2, a2⟩ := hx' i _ _ e0 (List.getElem?_eq_getElem k2)
  rw [e1] at e2
  cases e2
  rw [a1] at a2
  injection a2 with a2
  injection a2 with a2
  injection a2 with b1 b2
  injection b1 with b1
  injection b2 with b2
  injection b2 with b2
  exact Prod.ext b1 b2
theorem SRow.sx {T : List (Addr × Str)} {H H' : Hp} {g : Int} {m : Nat} {v : V} (h : SRow H g m v) (s : Sx T H H') : SRow H' g m v := by
  have kd : Kd H H' := ⟨s.kt, fun p xs h => ⟨xs, s.lst h⟩⟩
  refine ⟨h.1.kd kd, fun e => ?_⟩
  rw [rowOf_tb h.1 kd] at e
  obtain ⟨r, h1, h2⟩ := h.2 e
  exact ⟨r, RowV.kt h1 s.kt, h2⟩
theorem SRow.eq {T : List (Addr × Str)} {H H' : Hp} {g : Int} {m : Nat} {v : V} (h : SRow H g m v) (s : Sx T H H') : rowOf H' g (m : Int) v = rowOf H g (m : Int) v := rowOf_tb h.1 ⟨s.kt, fun p xs h => ⟨xs, s.lst h⟩⟩
theorem FormV.sx {K : PySem.W.Frag} {T : List (Addr × Str)} {H H' : Hp} {f : V} {g : Int} {tv : V} (h : FormV K H f g tv) (s : Sx T H H') : FormV K H' f g tv := by
  obtain ⟨p, dx, e, hp⟩ := h
  exact ⟨p, dx, e, s.1 _ _ hp fun _ z => by cases z⟩
theorem BR.row {H : Hp} {g : Int} {m : Nat} {v : V} {r : List (Int × Int)} (hg : g = 0 ∨ Gr5 g) (h : BR g m r) (hv : RowV H v r) : rowOf H g (m : Int) v = true := row_true hv (by rw [h.1]) fun a ha => ((h.tn hg).2 a ha).num
theorem w_neSame {H : Hp} {Q : VK} {x : V} (h : scal x x = true) (q : Q (.bl false) H) : rNe x x H Q := by
  refine ⟨h, ?_⟩
  show Q (.bl (!decide (x = x))) H
  rw [decide_eq_true rfl]
  exact q
theorem w_eqSame {H : Hp} {Q : VK} {x : V} (h : scal x x = true) (q : Q (.bl true) H) : rEq x x H Q := by
  refine ⟨h, ?_⟩
  rw [decide_eq_true rfl]
  exact q
theorem w_inTwo {K : PySem.W.Frag} {H : Hp} {Q : VK} {x : V} {L : Addr} {xs : List V} {b : Bool} (hL : H L = some (.lst xs)) (h1 : flatV x = true) (h2 : xs.all flatV = true) (e : inV x xs = b) (q : Q (.bl b) H) : rIn K false x (.ref L) H Q := by
  refine ⟨L, xs, rfl, .inl (SqL.of hL), h1, h2, ?_⟩
  show Q (.bl (inV x xs)) H
  rw [e]
  exact q
def sp__law_is_refused (K : PySem.W.Frag) (T : List (Addr × Str)) : Sp := fun vs H Q _ => ∃ (g : Int) (f tv x y : V) (t : List (List (Int × Int))) (m : Nat) (F : Type) (R : Lean.Grind.CommRing F) (W : GV g F), vs = [f, .int g, tv, x, y] ∧ (g = 0 ∨ Gr5 g) ∧ FormV K H f g tv ∧ TabV H tv t ∧ FT g t m ∧ SRow H g m x ∧ SRow H g m y ∧ LamX.Tabs T H ∧ ∀ H', Sx T H H' → Q (.bl true) H'

theorem sql_ext {K : PySem.W.Frag} {T : List (Addr × Str)} {H H' : Hp} {a : Addr} {xs : List V} (h : SqL K H a xs) (s : Sx T H H') : SqL K H' a xs := by
  rcases h with (h | ⟨o, h⟩) | h
  · exact .inl (.inl (s.lst h))
  · exact .inl (.inr ⟨o, s.1 _ _ h fun _ z => by cases z⟩)
  · exact .inr h
theorem tz_lowU {g : Int} (hg : g = 0 ∨ Gr5 g) {u : Int} {k : Nat} (hk : 4 ≤ k) (hu : u.natAbs < 2 ^ k) : TZ g 1 u.natAbs (lowF g u 1) ∧ TN g k (lowF g u 1) := by
  have hf : g ≠ 0 → (1 : Int).fmod g ≠ 0 := fun z => one_fmod (hg.resolve_left z)
  have h1 : (1 : Int).natAbs < 2 ^ k := Nat.lt_of_lt_of_le (show (1 : Int).natAbs < 2 ^ 4 by decide) (Nat.pow_le_pow_right (by decide) hk)
  have tn := tn_low hg (by decide) hf hk hu h1
  refine ⟨⟨⟨k, hk, tn⟩, fun e => ?_⟩, tn⟩
  subst e
  exact ⟨u, gvQ.low (.inl rfl) (by decide) fun z => absurd rfl z, Nat.le_refl _⟩
theorem one8000 : (1 : Int).natAbs < 2 ^ 8000 := Nat.lt_of_lt_of_le (show (1 : Int).natAbs < 2 ^ 1 by decide) (Nat.pow_le_pow_right (by decide) (by decide))
theorem SRow.kd {H H' : Hp} {g : Int} {m : Nat} {v : V} (h : SRow H g m v) (kd : Kd H H') : SRow H' g m v := by
  refine ⟨h.1.kd kd, fun e => ?_⟩
  rw [rowOf_tb h.1 kd] at e
  obtain ⟨r, h1, h2⟩ := h.2 e
  exact ⟨r, RowV.kt h1 kd.1, h2⟩
theorem SRow.of {H : Hp} {g : Int} {m : Nat} {v : V} {r : List (Int × Int)} (hg : g = 0 ∨ Gr5 g) (hm : m ≤ 5) (hv : RowV H v r) (h : BR g m r) : SRow H g m v := by
  refine ⟨?_, fun _ => ⟨r, hv, h⟩⟩
  obtain ⟨p, xs, rfl, hp, hl, hx⟩ := hv
  have hrl := h.1
  have tn := (h.tn hg).2
  refine TB.tup hp (by omega) fun y hy => ?_
  obtain ⟨i, hi⟩ := List.getElem?_of_mem hy
  have hil := (List.getElem?_eq_some_iff.mp hi).1
  have gr : r[i]? = some (r[i]'(by omega)) := List.getElem?_eq_getElem _
  have t := tn _ (List.mem_of_getElem? gr)
  have p : 2 ^ 20 ≤ 2 ^ 200 := by decide
  have t1 := t.2.1
  have t2 := t.2.2
  exact numV_tb (hx i y _ hi gr) (by omega) (by omega)
theorem kd_updL {H : Hp} {D : Addr} {xs ys : List V} (hD : H D = some (.lst xs)) : Kd H (upd H D (.lst ys)) := ⟨Kt.updL hD, fun p zs h => by
  by_cases e : p = D
  · rw [e]
    exact ⟨ys, upd_same⟩
  · exact ⟨zs, by rw [upd_ne e]; exact h⟩⟩
def sp_law (K : PySem.W.Frag) (T : List (Addr × Str)) : Sp := fun vs H Q _ => ∃ (a : Addr) (ns : List Int), vs = [.ref a] ∧ SqL K H a (ns.map V.int) ∧ LamX.Tabs T H ∧ ∀ H', Q (.bl true) H'

theorem ok_is_whole {f : Addr} {fd : FuncData} (F : FnP K "is_whole" s_is_whole f fd) (m_isinstance : mg "isinstance" = none) (m_int : mg "int" = none) (m_bool : mg "bool" = none) :
    FnOk P w K mg base CX0 1 f fd ["thing"] (sp_is_whole K) := by
  refine F.ok sc_is_whole (fun vs H Q E h => ?_) (fun cdv A outer s H vs Q E hr h => ?_)
  · obtain ⟨v, rfl, hv, q⟩ := h
    rfl
  · obtain ⟨v, rfl, hv, q⟩ := h
    refine ⟨_, PSs.nox (pss_one (ps_ret (pe_and (pe_callB call_isi (by rfl) m_isinstance (by decide +kernel) (pa_cons (pv 0) (pa_cons (pe_bltn (v := .ty "int") (by rfl) m_int (by decide +kernel) rfl) pa_nil))) (pe_one (pe_not (pe_callB call_isi (by rfl) m_isinstance (by decide +kernel) (pa_cons (pv 0) (pa_cons (pe_bltn (v := .ty "bool") (by rfl) m_bool (by decide +kernel) rfl) pa_nil)))))))), ?_⟩
    have e := whole_eq v
    walk_at "go"
    refine tv_int hv ?_
    walk_at "go"
    refine w_iteB (fun hi => ?_) (fun hi => ?_)
    · walk_at "go"
      refine tv_bool hv ?_
      walk_at "go"
      rw [e, hi] at q
      exact q
    · rw [e, hi] at q
      exact q
theorem ok_common_divisor {f : Addr} {fd : FuncData} (F : FnP K "common_divisor" s_common_divisor f fd) (m_abs : mg "abs" = none) :
    FnOk P w K mg base CX0 1 f fd ["a", "b"] (sp_common_divisor K) := by
  refine F.ok sc_common_divisor (fun vs H Q E h => ?_) (fun cdv A outer s H vs Q E hr h => ?_)
  · obtain ⟨a, c, rfl, q⟩ := h
    rfl
  · obtain ⟨a, c, rfl, q⟩ := h
    refine ⟨_, PSs.nox (pss_cons (ps_while PassesOwn.never (pt_cmpR op_ne (pv 1) pe_int (nomark _)) (pss_one (ps_par (i := 0) (j := 1) (by rfl) sc_common_divisor.nd rfl rfl (by decide) rfl rfl (pa_cons (pv 1) (pa_cons (pe_op op_modN (pv 0) (pv 1)) pa_nil)) (by rfl))))
        (pss_one (ps_ret (pe_callB call_abs (by rfl) m_abs (by decide +kernel) (pa_cons (pv 0) pa_nil))))), ?_⟩
    walk_at "go"
    refine while_by (fun σ H' => ∃ x y : Int, σ = [some (.int x), some (.int y)] ∧ Int.gcd x y = Int.gcd a c ∧ H' = H) (fun σ _ => match σ with | [_, some (.int y)] => y.natAbs | _ => 0) ⟨a, c, rfl, rfl, rfl⟩ (fun σ H' hP => ?_) (fun σ H' Q1 Q2 f h => ?_)
    · obtain ⟨x, y, rfl, e, rfl⟩ := hP
      walk_at "go"
      refine w_iteN (fun hc => ?_) (fun hc => ?_)
      · walk_at "go"
        refine w_I hc ?_
        walk_at "go"
        exact ⟨⟨y, x.fmod y, rfl, by rw [gcd_fmod]; exact e, rfl⟩, fmod_small x hc⟩
      · walk_at "go"
        subst hc
        rw [Int.gcd_zero_right] at e
        rw [← e] at q
        have e2 : (if x < 0 then -x else x) = ((x.natAbs : Nat) : Int) := by split <;> omega
        rw [e2]
        exact q
    · obtain ⟨v, hv, e1, k, ek, qq⟩ := h
      exact ⟨v, hv, e1, k, ek, f _ _ qq⟩
theorem ok_whole_root {f : Addr} {fd : FuncData} (F : FnP K "whole_root" s_whole_root f fd) :
    FnOk P w K mg base CX0 1 f fd ["square"] (sp_whole_root K) := by
  refine F.ok sc_whole_root (fun vs H Q E h => ?_) (fun cdv A outer s H vs Q E hr h => ?_)
  · obtain ⟨n, rfl, hn, q⟩ := h
    rfl
  · obtain ⟨n, rfl, hn, q⟩ := h
    refine ⟨_, PSs.nox (pss_cons (ps_if (pt_cmpR op_eq (pv 0) pe_int (nomark _)) (pss_one (ps_ret pe_int)) pss_nil)
        (pss_cons (ps_set (i := 1) sc_whole_root.nd rfl (.inl rfl) (pe_op op_shl pe_int (pe_op op_add (pe_op op_fdivZ (pe_bits (pv 0)) pe_int) pe_int)))
        (pss_cons (ps_set (i := 2) sc_whole_root.nd rfl (.inl rfl) (pe_op op_fdivZ (pe_op op_add (pv 1) (pe_op op_fdivZ (pv 0) (pv 1))) pe_int))
        (pss_cons (ps_while PassesOwn.never (pt_cmpR op_lt (pv 2) (pv 1) (nomark _)) (pss_cons (ps_set (i := 1) sc_whole_root.nd rfl (.inl rfl) (pv 2))
        (pss_one (ps_set (i := 2) sc_whole_root.nd rfl (.inl rfl) (pe_op op_fdivZ (pe_op op_add (pv 1) (pe_op op_fdivZ (pv 0) (pv 1))) pe_int)))))
        (pss_one (ps_ret (pv 1))))))), ?_⟩
    walk_at "go"
    refine w_ite (fun hc => ?_) (fun hc => ?_)
    · walk_at "go"
      have : n = 0 := by omega
      subst this
      exact q
    · walk_at "go"
      have hL := bits_lt n
      have hLb : Builtin.Int.intBits (n : Int) ≤ 8000 := PyProof.Rows.intBits_le (by rw [Int.natAbs_natCast]; exact hn)
      generalize Builtin.Int.intBits (n : Int) = L at hL hLb ⊢
      refine w_I (divZ_small (by decide) (by decide)) ?_
      walk_at "go"
      have eL : ((L : Int)).fdiv 2 + 1 = ((L / 2 + 1 : Nat) : Int) := by rw [show (2 : Int) = ((2 : Nat) : Int) from rfl, fdiv_nat]; omega
      rw [eL]
      refine w_I ⟨by omega, by omega, by decide⟩ ?_
      have eG : (1 : Int) * 2 ^ ((L / 2 + 1 : Nat) : Int).toNat = ((2 ^ (L / 2 + 1) : Nat) : Int) := by rw [Int.toNat_natCast, Int.one_mul, Int.natCast_pow]; rfl
      rw [eG]
      have hgt := guess_gt hL
      have hg0 : 0 < 2 ^ (L / 2 + 1) := Nat.pow_pos (by decide)
      have hgb : 2 ^ (L / 2 + 1) ≤ 2 ^ 4001 := Nat.pow_le_pow_right (by decide) (by omega)
      generalize 2 ^ (L / 2 + 1) = g0 at hgt hg0 hgb ⊢
      walk_at "go"
      have hdv : ∀ i : Int, ∀ g : Nat, 0 < g → g ≤ 2 ^ 4001 → CDivZ i (g : Int) := fun i g h1 h2 => divZ_of (b := 4002) (by omega) (by rw [Int.natAbs_natCast]; exact Nat.lt_of_le_of_lt h2 (Nat.pow_lt_pow_right (by decide) (by decide))) (by decide) (by decide)
      have enx : ∀ g : Nat, ((g : Int) + ((n : Int)).fdiv (g : Int)).fdiv 2 = (((g + n / g) / 2 : Nat) : Int) := fun g => by
        rw [fdiv_nat, show (2 : Int) = ((2 : Nat) : Int) from rfl, ← Int.natCast_add, fdiv_nat]
      refine w_I (hdv _ _ hg0 hgb) ?_
      walk_at "go"
      refine w_I (divZ_small (by decide) (by decide)) ?_
      rw [enx]
      walk_at "go"
      refine while_by (fun σ H' => ∃ g : Nat, σ = [some (.int n), some (.int (g : Nat)), some (.int ((g + n / g) / 2 : Nat))] ∧ 0 < g ∧ g ≤ 2 ^ 4001 ∧ n < (g + 1) * (g + 1) ∧ H' = H) (fun σ _ => match σ with | [_, some (.int g), _] => g.toNat | _ => 0) ⟨g0, rfl, hg0, hgb, hgt, rfl⟩ (fun σ H' hP => ?_) (fun σ H' Q1 Q2 f h => ?_)
      · obtain ⟨g, rfl, h1, h2, h3, rfl⟩ := hP
        walk_at "go"
        refine w_ite (fun hb => ?_) (fun hb => ?_)
        · have hb' : (g + n / g) / 2 < g := by omega
          have hnp : 0 < (g + n / g) / 2 := by
            have h4 := newton_ge (n := n) h1
            by_cases h0 : 0 < (g + n / g) / 2
            · exact h0
            · rw [Nat.eq_zero_of_not_pos h0] at h4
              have : n < 1 := h4
              omega
          walk_at "go"
          refine w_I (hdv _ _ hnp (by omega)) ?_
          walk_at "go"
          refine w_I (divZ_small (by decide) (by decide)) ?_
          rw [enx]
          walk_at "go"
          refine ⟨⟨(g + n / g) / 2, rfl, hnp, by omega, newton_ge h1, rfl⟩, ?_⟩
          show (((g + n / g) / 2 : Nat) : Int).toNat < ((g : Nat) : Int).toNat
          omega
        · walk_at "go"
          have e : g = isqrt n := root_is ⟨newton_end h1 (by omega), h3⟩
          rw [e]
          exact q
      · obtain ⟨v1, h1, v2, h2, i, j, e1, e2, b, eb, qq⟩ := h
        exact ⟨v1, h1, v2, h2, i, j, e1, e2, b, eb, f _ _ qq⟩
theorem ok_wheel_back {f : Addr} {fd : FuncData} (F : FnP K "wheel_back" s_wheel_back f fd) :
    FnOk P w K mg base CX0 1 f fd ["wheel", "whole"] (sp_wheel_back K) := by
  refine F.ok sc_wheel_back (fun vs H Q E h => ?_) (fun cdv A outer s H vs Q E hr h => ?_)
  · obtain ⟨g, w, k, rfl, hg, hk1, hk, hw, q⟩ := h
    rfl
  · obtain ⟨g, w, k, rfl, hg, hk1, hk, hw, q⟩ := h
    refine ⟨_, PSs.nox (pss_cons (ps_set (i := 2) sc_wheel_back.nd rfl (.inl rfl) pe_int)
        (pss_cons (ps_while PassesOwn.never (pt_cmpR op_ne (pe_op op_modN (pe_op op_mul (pv 2) (pv 1)) (pv 0)) pe_int (nomark _)) (pss_one (ps_aug (i := 2) sc_wheel_back.nd rfl (.inl rfl) pe_int ip_add)))
        (pss_one (ps_ret (pv 2))))), ?_⟩
    walk_at "go"
    refine while_by (fun σ H' => ∃ f : Int, σ = [some (.int g), some (.int w), some (.int f)] ∧ 1 ≤ f ∧ f ≤ k ∧ H' = H) (fun σ _ => match σ with | [_, _, some (.int f)] => (k - f).toNat | _ => 0) ⟨1, rfl, by decide, hk1, rfl⟩ (fun σ H' hP => ?_) (fun σ H' Q1 Q2 f h => ?_)
    · obtain ⟨f, rfl, hf1, hf, rfl⟩ := hP
      walk_at "go"
      refine w_I (.inl ⟨by omega, by omega⟩) ?_
      walk_at "go"
      refine w_I (by omega) ?_
      walk_at "go"
      refine w_iteN (fun hc => ?_) (fun hc => ?_)
      · have hne : f ≠ k := fun e => hc (by rw [e]; exact hw)
        refine w_aug rfl ?_
        walk_at "go"
        refine ⟨f, 1, rfl, rfl, ⟨f + 1, rfl, by omega, by omega, rfl⟩, ?_⟩
        show (k - (f + 1)).toNat < (k - f).toNat
        omega
      · walk_at "go"
        exact q f hf1 (by omega) hc
    · obtain ⟨v1, h1, v2, h2, i, j, e1, e2, c1, v3, h3, i2, j2, e3, e4, c2, sc, b, eb, qq⟩ := h
      exact ⟨v1, h1, v2, h2, i, j, e1, e2, c1, v3, h3, i2, j2, e3, e4, c2, sc, b, eb, f _ _ qq⟩
theorem ok_wheel_root {f : Addr} {fd : FuncData} (F : FnP K "wheel_root" s_wheel_root f fd) (m_range : mg "range" = none) :
    FnOk P w K mg base CX0 1 f fd ["wheel", "x"] (sp_wheel_root K) := by
  refine F.ok sc_wheel_root (fun vs H Q E h => ?_) (fun cdv A outer s H vs Q E hr h => ?_)
  · obtain ⟨g, v, a, rfl, hg0, hg, hv, q⟩ := h
    rfl
  · obtain ⟨g, v, a, rfl, hg0, hg, hv, q⟩ := h
    refine ⟨_, PSs.nox (pss_cons (ps_for PassesOwn.never rfl (pi_range1 (by rfl) m_range (pa_cons (pv 0) pa_nil)) (pg_name (i := 2) sc_wheel_root.nd rfl (.inl rfl)) (pss_one (ps_if (pt_cmpR op_eq (pe_op op_modN (pe_op op_mul (pv 2) (pv 2)) (pv 0)) (pe_ix ix_tup (pv 1) pe_int (fun _ _ => rfl)) (nomark _)) (pss_one (ps_ret (pe_tup (pa_cons (pv 2) (pa_cons pe_int pa_nil))))) pss_nil)))
        (pss_one (ps_ret pe_non))), ?_⟩
    obtain ⟨p, rfl, hp⟩ := hv
    walk_at "go"
    refine ⟨by omega, by omega, ?_⟩
    refine for_range (fun i σ H' => H' = H ∧ (∃ y, σ = [some (.int g), some (.ref p), y]) ∧ ∀ j : Nat, j < i → ((j : Int) * (j : Int)).fmod g ≠ a.1) ⟨rfl, ⟨_, rfl⟩, fun j hj => absurd hj (by omega)⟩ (fun i σ H' hi hP => ?_) (fun σ H' hP => ?_)
    · obtain ⟨rfl, ⟨y, rfl⟩, hj⟩ := hP
      have hi' : i < g.toNat := hi
      walk_at "go"
      rw [Int.zero_add]
      refine w_I (.inl ⟨by omega, by omega⟩) ?_
      walk_at "go"
      refine w_I (by omega) ?_
      walk_at "go"
      refine w_ite (fun hc => ?_) (fun hc => ?_)
      · walk_at "go"
        refine w_new (by simp) fun p1 H1 hp1 s1 h1 => ?_
        refine q H1 _ s1 ?_
        rw [wroot_some hj hc hi']
        exact ⟨p1, rfl, h1⟩
      · walk_at "go"
        refine ⟨rfl, ⟨_, rfl⟩, fun j hj2 => ?_⟩
        rcases Nat.lt_succ_iff_lt_or_eq.mp hj2 with h | h
        · exact hj j h
        · rw [h]
          exact hc
    · obtain ⟨rfl, ⟨y, rfl⟩, hj⟩ := hP
      walk_at "go"
      refine q _ _ (Same.refl _) ?_
      rw [wroot_none hj]
      exact rfl
theorem ok_dot {f : Addr} {fd : FuncData} (F : FnP K "dot" s_dot f fd) (m_sum : mg "sum" = none) (m_zip : mg "zip" = none) :
    FnOk P w K mg base CX0 1 f fd ["wholes", "others"] (sp_dot K) := by
  refine F.ok sc_dot (fun vs H Q E h => ?_) (fun cdv A outer s H vs Q E hr h => ?_)
  · obtain ⟨a, b, ts, ss, rfl, ha, hb, hl, hl2, ht, hs, q⟩ := h
    rfl
  · obtain ⟨a, b, ts, ss, rfl, ha, hb, hl, hl2, ht, hs, q⟩ := h
    refine ⟨_, PSs.nox (pss_one (ps_ret (pe_callB (cr_sum rfl) (by rfl) m_sum (by decide +kernel) (pa_cons (pe_lc (own := [("whole", 2), ("other", 3)]) (g := gTup K 2 (gCons (gName 2) (gCons (gName 3) (gNil)))) (tt := tYes) (by rfl) sc_dot.nd (RZ.pi_zipA (by rfl) m_zip (pa_cons (pv 0) (pa_cons (pv 1) pa_nil))) (blkOk_by (own := [("whole", 2), ("other", 3)]) (N := ["wholes", "others", "whole", "other"]) (sc := defScope s_dot) (by decide +kernel)) (fun _ _ _ _ _ => (pg_tup rfl (pgs_cons (pg_name (i := 2) sc_dot.nd rfl (.inl rfl)) (pgs_cons (pg_name (i := 3) sc_dot.nd rfl (.inl rfl)) pgs_nil)))) (fun _ _ _ _ _ => pts_nil) (fun _ _ _ _ _ => (pe_op op_mulW (pv 2) (pv 3)))) pa_nil)))), ?_⟩
    walk_at "go"
    refine ⟨a, b, _, _, rfl, .inl ⟨SqL.of ha, SqL.of hb, fun D hD => ?_⟩⟩
    refine lc_it (walk_zip (xs := ts.map V.int) (ys := ss.map V.int) (n := ts.length) (by rw [List.length_map, List.length_map]; omega)) (fun i H' => Same H H' ∧ H' D = some (.lst (((List.zipWith (fun a b => a * b) ts ss).take i).map V.int))) ⟨Same.updD (Same.refl H) hD, upd_same⟩ (fun i H' _ hP => ⟨SqL.of (hP.1 _ _ ha), SqL.of (hP.1 _ _ hb)⟩) (fun i v H1 H2 hi hP hY => ?_) (fun H' hP => ?_)
    · obtain ⟨sm, hD'⟩ := hP
      obtain ⟨T, u, v', rfl, hT, rfl, hu, hv⟩ := hY
      have g1 : (ts.map V.int)[i]? = some (.int ts[i]) := by rw [List.getElem?_map, List.getElem?_eq_getElem hi]; rfl
      have g2 : (ss.map V.int)[i]? = some (.int (ss[i]'(by omega))) := by rw [List.getElem?_map, List.getElem?_eq_getElem (by omega)]; rfl
      cases Option.some.inj (hu.symm.trans g1)
      cases Option.some.inj (hv.symm.trans g2)
      have s2 := same_upd (o := .tup [V.int ts[i], V.int (ss[i]'(by omega))]) hT
      have hTT : (upd H1 T (.tup [V.int ts[i], V.int (ss[i]'(by omega))])) T = some (.tup [V.int ts[i], V.int (ss[i]'(by omega))]) := upd_same
      generalize upd H1 T (.tup [V.int ts[i], V.int (ss[i]'(by omega))]) = H2 at s2 hTT ⊢
      walk_at "go"
      refine ⟨rfl, ?_⟩
      walk_at "go"
      refine w_I (mulW_le (ht _ (List.getElem_mem hi)) (hs _ (List.getElem_mem (by omega))) (by decide)) ?_
      refine ⟨_, s2 _ _ hD', ?_, Same.updD (sm.trans s2) hD, ?_⟩
      · rw [List.length_map, List.length_take]
        exact small1000 (by omega)
      · have gz : (List.zipWith (fun a b => a * b) ts ss)[i]? = some (ts[i] * ss[i]'(by omega)) := by
          rw [List.getElem?_zipWith, List.getElem?_eq_getElem hi, List.getElem?_eq_getElem (by omega)]
        rw [upd_same, List.take_add_one, gz, List.map_append]
        rfl
    · obtain ⟨sm, hD'⟩ := hP
      have e : (List.zipWith (fun a b => a * b) ts ss).take ts.length = List.zipWith (fun a b => a * b) ts ss := List.take_of_length_le (by rw [List.length_zipWith]; omega)
      rw [e] at hD'
      walk_at "go"
      exact ⟨D, _, rfl, SqL.of hD', q _ sm⟩
theorem ok_turned {f : Addr} {fd : FuncData} (F : FnP K "turned" s_turned f fd) (m_tuple : mg "tuple" = none) (m_range : mg "range" = none) (m_len : mg "len" = none) :
    FnOk P w K mg base CX0 1 f fd ["table"] (sp_turned K) := by
  refine F.ok sc_turned (fun vs H Q E h => ?_) (fun cdv A outer s H vs Q E hr h => ?_)
  · obtain ⟨v, t, l, rfl, hv, ht0, ht, hl, hl10, q⟩ := h
    rfl
  · obtain ⟨v, t, l, rfl, hv, ht0, ht, hl, hl10, q⟩ := h
    refine ⟨_, PSs.nox (pss_one (ps_ret (pe_callTy call_tuple_of (by rfl) m_tuple (by decide +kernel) (pa_cons (pe_lc (own := [("at", 1)]) (g := gName 1) (tt := tYes) (by rfl) sc_turned.nd (pi_range1 (by rfl) m_range (pa_cons (pe_callB call_len_seq (by rfl) m_len (by decide +kernel) (pa_cons (pe_ix ix_tup (pv 0) pe_int (fun _ _ => rfl)) pa_nil)) pa_nil)) (blkOk_by (own := [("at", 1)]) (N := ["table", "at", "row"]) (sc := defScope s_turned) (by decide +kernel)) (fun _ _ _ _ _ => (pg_name (i := 1) sc_turned.nd rfl (.inr rfl))) (fun _ _ _ _ _ => pts_nil) (fun _ _ _ _ _ => (pe_callTy (r := rTupOf K) call_tupOf (by rfl) m_tuple (by decide +kernel) (pa_cons (pe_lc (own := [("row", 2)]) (g := gName 2) (tt := tYes) (wi := iTup K (tVar 0)) (by rfl) sc_turned.nd (pi_tup (pv 0)) (blkOk_by (own := [("row", 2)]) (N := ["table", "at", "row"]) (sc := ({ kind := PySem.ScopeKind.function, names := [ (PySem.Str.ofString ".0", PySem.NameKind.local), (PySem.Str.ofString "at", PySem.NameKind.cell), (PySem.Str.ofString "tuple", PySem.NameKind.globalImplicit), (PySem.Str.ofString "table", PySem.NameKind.cell)], isGenerator := false, isCoroutine := false, more := [] } : Scope)) (by decide +kernel)) (fun _ _ _ _ _ => (pg_name (i := 2) sc_turned.nd rfl (.inl rfl))) (fun _ _ _ _ _ => pts_nil) (fun _ _ _ _ _ => (pe_ix (r := rIxT K) ix_tup (pv 2) (pv 1) (fun _ _ => rfl)))) pa_nil)))) pa_nil)))), ?_⟩
    obtain ⟨p, xs, rfl, hp, hlx, hx⟩ := hv
    obtain ⟨x0, hx0⟩ : ∃ x0, xs[0]? = some x0 := ⟨_, List.getElem?_eq_getElem (by omega)⟩
    have ht00 : t[0]? = some t[0] := List.getElem?_eq_getElem ht0
    obtain ⟨p0, ns0, rfl, hp0, hl0, hn0⟩ := hx 0 x0 _ hx0 ht00
    have hl0' : ns0.length = l := by rw [hl0]; exact hl _ (List.getElem_mem ht0)
    walk_at "go"
    refine w_ixT hp (atI_nat (j := 0) hx0) ?_
    walk_at "go"
    refine ⟨p0, ns0, rfl, .inr (SqT.of hp0), ?_⟩
    walk_at "go"
    refine ⟨by omega, by omega, fun D hD => ?_⟩
    rw [hl0']
    refine lc_range (fun j H' => Same H H' ∧ ∃ ys, H' D = some (.lst ys) ∧ Acc RowV H' ys (turnF l t) j) ⟨Same.updD (Same.refl H) hD, [], upd_same, Acc.nil⟩ (fun j H' hj hP => ?_) (fun H' hP => ?_)
    · obtain ⟨sm, ys, hD', hacc⟩ := hP
      have hj' : j < l := hj
      have hp' := sm _ _ hp
      walk_at "go"
      refine ⟨rfl, ?_⟩
      walk_at "go"
      refine ⟨p, rfl, ⟨xs, SqT.of hp'⟩, fun D2 hD2 => ?_⟩
      have nD : D ≠ D2 := fresh_of hD' hD2
      refine lc_tup (xs := xs) (fun i H'' => Same H' H'' ∧ ∃ zs, H'' D2 = some (.lst zs) ∧ Acc NumV H'' zs (t.map fun row => row.getD j (0, 1)) i) ⟨Same.updD (Same.refl H') hD2, [], upd_same, Acc.nil⟩ (fun i H'' _ hP => SqT.of (hP.1 _ _ hp')) (fun i x H'' hxi hP => ?_) (fun H'' hP => ?_)
      · obtain ⟨sm2, zs, hD2', hacc2⟩ := hP
        have hi : i < t.length := by
          have := (List.getElem?_eq_some_iff.mp hxi).1
          omega
        have hti : t[i]? = some t[i] := List.getElem?_eq_getElem hi
        obtain ⟨pr, ns, rfl, hpr, hln, hns⟩ := hx i x _ hxi hti
        have hlr := hl _ (List.getElem_mem hi)
        obtain ⟨y, hy⟩ : ∃ y, ns[j]? = some y := ⟨_, List.getElem?_eq_getElem (by omega)⟩
        have htj : t[i][j]? = some (t[i].getD j (0, 1)) := by
          rw [List.getD_eq_getElem?_getD, List.getElem?_eq_getElem (by omega)]
          rfl
        have hn := hns j y _ hy htj
        have hpr' := sm2 _ _ (sm _ _ hpr)
        walk_at "go"
        refine ⟨rfl, ?_⟩
        walk_at "go"
        rw [Int.zero_add]
        refine w_ixT hpr' (atI_nat hy) ?_
        have kt : Kt H'' (upd H'' D2 (.lst (zs ++ [y]))) := Kt.updL hD2'
        refine ⟨zs, hD2', small1000 (by rw [hacc2.1]; omega), Same.updD sm2 hD2, _, upd_same, ?_⟩
        exact (hacc2.mono fun x a h => NumV.kt h kt).snoc (a := t[i].getD j (0, 1)) (by rw [List.getElem?_map, hti]; rfl) ((hn.kt (Kt.of (sm.trans sm2))).kt kt)
      · obtain ⟨sm2, zs, hD2', hacc2⟩ := hP
        walk_at "go"
        refine w_tupOf2 hD2' ?_
        refine w_newO fun q3 H3 hq3 s3 h3 => ?_
        have hD3 := s3 _ _ (sm2 _ _ hD')
        have kt : Kt H' (upd H3 D (.lst (ys ++ [V.ref q3]))) := (Kt.of (sm2.trans s3)).trans (Kt.updL hD3)
        refine ⟨ys, hD3, small1000 (by rw [hacc.1]; omega), Same.updD ((sm.trans sm2).trans s3) hD, _, upd_same, ?_⟩
        have hrow : RowV H3 (.ref q3) (t.map fun row => row.getD j (0, 1)) := (hacc2.mono fun x a h => NumV.kt h (Kt.of s3)).sq (by rw [List.length_map]; exact hlx) h3
        exact (hacc.mono fun x a h => RowV.kt h kt).snoc (turn_at hj') (RowV.kt hrow (Kt.updL hD3))
    · obtain ⟨sm, ys, hD', hacc⟩ := hP
      walk_at "go"
      refine ⟨_, _, rfl, .inl ⟨SqL.of hD', fun m hm => ?_⟩⟩
      exact q _ _ (sm.trans (same_upd hm)) ((hacc.mono fun x a h => RowV.kt h (Kt.of (same_upd hm))).sq (by unfold turnF; rw [List.length_map, List.length_range]; rfl) upd_same)
theorem ok_smaller_row {f : Addr} {fd : FuncData} (F : FnP K "smaller_row" s_smaller_row f fd) (m_range : mg "range" = none) (m_len : mg "len" = none) :
    FnOk P w K mg base CX0 1 f fd ["row", "head", "last"] (sp_smaller_row K) := by
  refine F.ok sc_smaller_row (fun vs H Q E h => ?_) (fun cdv A outer s H vs Q E hr h => ?_)
  · obtain ⟨vr, vh, r, h, last, b, rfl, hvr, hvh, hlh, hl0, hl, hbr, hbh, hln, hlb, hb0, hb, q⟩ := h
    rfl
  · obtain ⟨vr, vh, r, h, last, b, rfl, hvr, hvh, hlh, hl0, hl, hbr, hbh, hln, hlb, hb0, hb, q⟩ := h
    refine ⟨_, PSs.nox (pss_one (ps_ret (pe_lc (own := [("at", 3)]) (g := gName 3) (tt := tYes) (by rfl) sc_smaller_row.nd (pi_range2 (by rfl) m_range (pa_cons pe_int (pa_cons (pe_callB call_len_seq (by rfl) m_len (by decide +kernel) (pa_cons (pv 0) pa_nil)) pa_nil))) (blkOk_by (own := [("at", 3)]) (N := ["row", "head", "last", "at"]) (sc := defScope s_smaller_row) (by decide +kernel)) (fun _ _ _ _ _ => (pg_name (i := 3) sc_smaller_row.nd rfl (.inl rfl))) (fun _ _ _ _ _ => pts_nil) (fun _ _ _ _ _ => (pe_op op_fdivZ (pe_op op_sub (pe_op op_mulW (pe_ix (r := rIxL K) ix_list (pv 0) (pv 3) (fun _ _ => rfl)) (pe_ix (r := rIxL K) ix_list (pv 1) pe_int (fun _ _ => rfl))) (pe_op op_mulW (pe_ix (r := rIxL K) ix_list (pv 0) pe_int (fun _ _ => rfl)) (pe_ix (r := rIxL K) ix_list (pv 1) (pv 3) (fun _ _ => rfl)))) (pv 2)))))), ?_⟩
    obtain ⟨pr, rfl, hpr⟩ := hvr
    obtain ⟨ph, rfl, hph⟩ := hvh
    walk_at "go"
    refine ⟨pr, _, rfl, .inl (SqL.of hpr), ?_⟩
    rw [List.length_map]
    walk_at "go"
    refine ⟨⟨by omega, by omega, by omega, by omega⟩, fun D hD => ?_⟩
    refine lc_range (fun i H' => Same H H' ∧ H' D = some (.lst (((smF last h r).take i).map V.int))) ⟨Same.updD (Same.refl H) hD, upd_same⟩ (fun i H' hi hP => ?_) (fun H' hP => ?_)
    · obtain ⟨sm, hD'⟩ := hP
      have hi' : i + 1 < r.length := by omega
      have gi : atI (r.map V.int) (1 + (i : Int)) = some (.int (gt r (i + 1))) := by
        have := gt_int (r := r) (j := i + 1) hi'
        rw [show ((i + 1 : Nat) : Int) = 1 + (i : Int) by omega] at this
        exact this
      have gh : atI (h.map V.int) (1 + (i : Int)) = some (.int (gt h (i + 1))) := by
        have := gt_int (r := h) (j := i + 1) (by omega)
        rw [show ((i + 1 : Nat) : Int) = 1 + (i : Int) by omega] at this
        exact this
      have g0 := gt_int (r := r) (j := 0) (by omega)
      have h0 := gt_int (r := h) (j := 0) (by omega)
      have hpr' := sm _ _ hpr
      have hph' := sm _ _ hph
      walk_at "go"
      refine ⟨rfl, ?_⟩
      walk_at "go"
      refine w_ixL hpr' gi ?_
      walk_at "go"
      refine w_ixL hph' h0 ?_
      refine w_I (wide_mul (hbr _) (hbh _) hb0 hb0 (by omega)) ?_
      walk_at "go"
      refine w_ixL hpr' g0 ?_
      walk_at "go"
      refine w_ixL hph' gh ?_
      refine w_I (wide_mul (hbr _) (hbh _) hb0 hb0 (by omega)) ?_
      walk_at "go"
      refine w_I (divZ_of hln hlb hb0 (by omega)) ?_
      refine ⟨_, hD', ?_, Same.updD sm hD, ?_⟩
      · rw [List.length_map, List.length_take]
        exact small1000 (by omega)
      · have gz : (smF last h r)[i]? = some ((gt r (i + 1) * gt h 0 - gt r 0 * gt h (i + 1)).fdiv last) := by
          unfold smF
          rw [List.getElem?_map, List.getElem?_range (by omega)]
          rfl
        rw [upd_same, List.take_add_one, gz, List.map_append]
        rfl
    · obtain ⟨sm, hD'⟩ := hP
      rw [List.take_of_length_le (by unfold smF; rw [List.length_map, List.length_range]; omega)] at hD'
      walk_at "go"
      exact q D H' sm hD' hD
theorem ok_head_place {f : Addr} {fd : FuncData} (F : FnP K "head_place" s_head_place f fd) (m_range : mg "range" = none) (m_len : mg "len" = none) :
    FnOk P w K mg base CX0 1 f fd ["rows", "begin", "at"] (sp_head_place K) := by
  refine F.ok sc_head_place (fun vs H Q E h => ?_) (fun cdv A outer s H vs Q E hr h => ?_)
  · obtain ⟨v, rows, b, a, rfl, hv, ha, hl, hbl, q1, q2⟩ := h
    rfl
  · obtain ⟨v, rows, b, a, rfl, hv, ha, hl, hbl, q1, q2⟩ := h
    refine ⟨_, PSs.nox (pss_cons (ps_for PassesOwn.never rfl (pi_range2 (by rfl) m_range (pa_cons (pv 1) (pa_cons (pe_callB call_len_seq (by rfl) m_len (by decide +kernel) (pa_cons (pv 0) pa_nil)) pa_nil))) (pg_name (i := 3) sc_head_place.nd rfl (.inl rfl)) (pss_one (ps_if (pt_cmpR op_ne (pe_ix ix_list (pe_ix ix_list (pv 0) (pv 3) (fun _ _ => rfl)) (pv 2) (fun _ _ => rfl)) pe_int (nomark _)) (pss_one (ps_ret (pv 3))) pss_nil)))
        (pss_one (ps_ret pe_non))), ?_⟩
    obtain ⟨p, xs, rfl, hp, hacc⟩ := hv
    have hlx : xs.length = rows.length := hacc.1
    walk_at "go"
    refine ⟨p, xs, rfl, .inl (SqL.of hp), ?_⟩
    walk_at "go"
    refine ⟨⟨by omega, by omega, by omega, by omega⟩, ?_⟩
    refine for_range (fun i σ H' => H' = H ∧ (∃ y, σ = [some (.ref p), some (.int (b : Int)), some (.int (a : Int)), y]) ∧ ∀ (j : Nat) (r : List Int), b ≤ j → j < b + i → rows[j]? = some r → gt r a = 0) ⟨rfl, ⟨_, rfl⟩, fun j r h1 h2 => absurd h2 (by omega)⟩ (fun i σ H' hi hP => ?_) (fun σ H' hP => ?_)
    · obtain ⟨rfl, ⟨y, rfl⟩, hz⟩ := hP
      have hbi : b + i < rows.length := by omega
      have hri : rows[b + i]? = some rows[b + i] := List.getElem?_eq_getElem hbi
      have hxi : xs[b + i]? = some (xs[b + i]'(by omega)) := List.getElem?_eq_getElem _
      obtain ⟨pr, e1, hpr⟩ := hacc.2 _ _ _ hxi hri
      walk_at "go"
      have e2 : atI xs ((b : Int) + (i : Int)) = some (.ref pr) := by
        have := atI_nat hxi
        rw [e1, show ((b + i : Nat) : Int) = (b : Int) + (i : Int) by omega] at this
        exact this
      refine w_ixL hp e2 ?_
      walk_at "go"
      refine w_ixL hpr (gt_int (ha _ (List.getElem_mem hbi))) ?_
      walk_at "go"
      refine w_iteN (fun hc => ?_) (fun hc => ?_)
      · walk_at "go"
        have := q2 (b + i) _ (by omega) hri hc
        rw [show ((b + i : Nat) : Int) = (b : Int) + (i : Int) by omega] at this
        exact this
      · walk_at "go"
        refine ⟨rfl, ⟨_, rfl⟩, fun j r h1 h2 h3 => ?_⟩
        by_cases e : j = b + i
        · subst e
          rw [hri] at h3
          cases h3
          exact hc
        · exact hz j r h1 (by omega) h3
    · obtain ⟨rfl, ⟨y, rfl⟩, hz⟩ := hP
      walk_at "go"
      refine q1 fun i r h1 h2 => hz i r h1 ?_ h2
      have := (List.getElem?_eq_some_iff.mp h2).1
      omega
theorem ok__law_bag {f : Addr} {fd : FuncData} (F : FnP K "_law_bag" s__law_bag f fd) (m_len : mg "len" = none) (m_abs : mg "abs" = none) :
    FnOk P w K mg base CX0 1 f fd ["_law_script", "_law_at"] (sp__law_bag K) := by
  refine F.ok sc__law_bag (fun vs H Q E h => ?_) (fun cdv A outer s H vs Q E hr h => ?_)
  · obtain ⟨a, ns, k, rfl, hS, hk0, hk, q⟩ := h
    rfl
  · obtain ⟨a, ns, k, rfl, hS, hk0, hk, q⟩ := h
    refine ⟨_, PSs.nox (pss_cons (ps_set (i := 2) sc__law_bag.nd rfl (.inl rfl) pe_int)
        (pss_cons (ps_if (pt_cmpR op_lt (pv 1) (pe_callB call_len_seq (by rfl) m_len (by decide +kernel) (pa_cons (pv 0) pa_nil)) (nomark _)) (pss_one (ps_set (i := 2) sc__law_bag.nd rfl (.inl rfl) (pe_ix ix_list (pv 0) (pv 1) (fun _ _ => rfl)))) pss_nil)
        (pss_cons (ps_set (i := 3) sc__law_bag.nd rfl (.inl rfl) pe_int)
        (pss_cons (ps_if (pt_cmpR op_ge (pe_callB call_abs (by rfl) m_abs (by decide +kernel) (pa_cons (pv 2) pa_nil)) (pe_op op_pow pe_int pe_int) (nomark _)) (pss_one (ps_set (i := 3) sc__law_bag.nd rfl (.inl rfl) (pe_callB call_abs (by rfl) m_abs (by decide +kernel) (pa_cons (pv 2) pa_nil)))) pss_nil)
        (pss_cons (ps_set (i := 4) sc__law_bag.nd rfl (.inl rfl) (pe_lst (pa_cons pe_int (pa_cons pe_int (pa_cons pe_int (pa_cons pe_int (pa_cons pe_int (pa_cons pe_int (pa_cons pe_int (pa_cons pe_int pa_nil))))))))))
        (pss_cons (ps_set (i := 5) sc__law_bag.nd rfl (.inl rfl) (pe_op op_add (pe_op op_add (pe_op op_add (pe_op op_mul (pe_op op_modN (pv 2) pe_int) pe_int) (pe_op op_mul (pe_op op_mul pe_int (pv 1)) (pv 1))) (pe_op op_mul pe_int (pv 1))) pe_int))
        (pss_one (ps_ret (pe_lst (pa_cons (pv 3) (pa_cons (pe_op op_modN (pv 5) (pe_ix ix_list (pv 4) (pe_op op_modN (pv 1) pe_int) (fun _ _ => rfl))) pa_nil))))))))))), ?_⟩
    walk_at "go"
    refine ⟨a, _, rfl, .inl hS, ?_⟩
    walk_at "go"
    refine w_ite (fun hc => ?a) (fun hc => ?b)
    case' a =>
      have hlt : k.toNat < ns.length := by
        rw [List.length_map] at hc
        omega
      obtain ⟨cl, hcl⟩ : ∃ cl, ns[k.toNat]? = some cl := ⟨_, List.getElem?_eq_getElem hlt⟩
      have hat : atI (ns.map V.int) ((k.toNat : Nat) : Int) = some (.int cl) := atI_nat (by rw [List.getElem?_map, hcl]; rfl)
      rw [show ((k.toNat : Nat) : Int) = k by omega] at hat
      walk_at "go"
      refine w_ixLs hS hat ?_
    all_goals
      walk_at "go"
      refine w_Iv ⟨by decide, by decide, by decide⟩ rfl ?_
      walk_at "go"
      refine w_ite (fun hc2 => ?_) (fun hc2 => ?_)
    all_goals
      walk_at "go"
      refine w_new (by simp) fun p1 H1 hp1 s1 h1 => ?_
      walk_at "go"
      refine w_I (by decide) ?_
      walk_at "go"
      refine w_I (.inr ⟨by decide, by decide⟩) ?_
      walk_at "go"
      refine w_I (.inl ⟨by decide, by decide⟩) ?_
      walk_at "go"
      refine w_I (.inr ⟨by omega, by omega⟩) ?_
      walk_at "go"
      refine w_I (.inl ⟨by decide, by decide⟩) ?_
      walk_at "go"
      refine w_I (by decide) ?_
      obtain ⟨m, em, hm0, hm1⟩ := bag_primes (i := k.fmod 8) (by rw [fmod_pos _ (by decide)]; exact Int.emod_nonneg _ (by decide)) (by rw [fmod_pos _ (by decide)]; exact Int.emod_lt_of_pos _ (by decide))
      refine w_ixL h1 em ?_
      refine w_I (by omega) ?_
      walk_at "go"
      refine w_new (by simp) fun p2 H2 hp2 s2 h2 => ?_
      refine q p2 H2 (s1.free hp2) (s1.trans s2) ⟨_, _, h2, ?_, ?_, ?_⟩
      · first | decide | omega
      · rw [fmod_pos _ hm0]
        exact Int.emod_nonneg _ (by omega)
      · rw [fmod_pos _ hm0]
        exact Int.lt_of_lt_of_le (Int.emod_lt_of_pos _ hm0) hm1
theorem ok__law_take {f : Addr} {fd : FuncData} (F : FnP K "_law_take" s__law_take f fd) :
    FnOk P w K mg base CX0 1 f fd ["_law_bag_here", "_law_many"] (sp__law_take K) := by
  refine F.ok sc__law_take (fun vs H Q E h => ?_) (fun cdv A outer s H vs Q E hr h => ?_)
  · obtain ⟨b, m, rfl, hm, hm2, hb, q⟩ := h
    rfl
  · obtain ⟨b, m, rfl, hm, hm2, hb, q⟩ := h
    refine ⟨_, PSs.nox (pss_cons (ps_if (pt_cmpR op_gt (pe_ix ix_list (pv 0) pe_int (fun _ _ => rfl)) pe_int (nomark _)) (pss_cons (ps_set (i := 2) sc__law_take.nd rfl (.inl rfl) (pe_op op_modN (pe_ix ix_list (pv 0) pe_int (fun _ _ => rfl)) (pv 1)))
        (pss_cons (ps_asg (pe_op op_fdivZ (pe_ix ix_list (pv 0) pe_int (fun _ _ => rfl)) (pv 1)) (pg_sub (pv 0) pe_int set_list))
        (pss_one (ps_ret (pv 2))))) pss_nil)
        (pss_cons (ps_asg (pe_op op_modN (pe_op op_add (pe_op op_mul (pe_ix ix_list (pv 0) pe_int (fun _ _ => rfl)) pe_int) pe_int) pe_int) (pg_sub (pv 0) pe_int set_list))
        (pss_one (ps_ret (pe_op op_modN (pe_op op_fdivZ (pe_op op_modN (pe_op op_pow (pe_ix ix_list (pv 0) pe_int (fun _ _ => rfl)) pe_int) pe_int) pe_int) (pv 1)))))), ?_⟩
    obtain ⟨A, B, hb, hA, hB, hB2⟩ := hb
    walk_at "go"
    refine w_ite (fun hc => ?_) (fun hc => ?_)
    · walk_at "go"
      refine w_I (by omega) ?_
      walk_at "go"
      refine w_I (divZ_small hm (by omega)) ?_
      walk_at "go"
      refine w_setL hb rfl ?_
      walk_at "go"
      refine q _ _ ?_ ?_ Mv.upd ⟨_, _, upd_same, ?_, hB, hB2⟩
      · rw [fmod_pos _ hm]
        exact Int.emod_nonneg _ (by omega)
      · rw [fmod_pos _ hm]
        exact Int.emod_lt_of_pos _ hm
      · rw [fdiv_pos _ hm]
        exact Int.ediv_nonneg hA (by omega)
    · walk_at "go"
      refine w_I (.inr ⟨by decide, by decide⟩) ?_
      walk_at "go"
      refine w_I (by decide) ?_
      walk_at "go"
      refine w_setL hb rfl ?_
      walk_at "go"
      have hb' : (upd H b (.lst ([V.int A, V.int B].set 1 (V.int ((B * 48271 + 2531011).fmod 2147483647))))) b = some (.lst [.int A, .int ((B * 48271 + 2531011).fmod 2147483647)]) := upd_same
      have hx : 0 ≤ (B * 48271 + 2531011).fmod 2147483647 ∧ (B * 48271 + 2531011).fmod 2147483647 < 2147483647 := by
        rw [fmod_pos _ (by decide)]
        exact ⟨Int.emod_nonneg _ (by decide), Int.emod_lt_of_pos _ (by decide)⟩
      generalize (B * 48271 + 2531011).fmod 2147483647 = x at hb' hx ⊢
      refine w_ixL hb' rfl ?_
      walk_at "go"
      refine w_I ⟨by decide, by decide, by omega⟩ ?_
      walk_at "go"
      refine w_I (by decide) ?_
      walk_at "go"
      refine w_I (divZ_small (by decide) (by decide)) ?_
      walk_at "go"
      refine w_I (by omega) ?_
      refine q _ _ ?_ ?_ Mv.upd ⟨_, _, hb', hA, hx.1, hx.2⟩
      · rw [fmod_pos _ hm]
        exact Int.emod_nonneg _ (by omega)
      · rw [fmod_pos _ hm]
        exact Int.emod_lt_of_pos _ hm
theorem ok__law_is_whole {f : Addr} {fd : FuncData} (F : FnP K "_law_is_whole" s__law_is_whole f fd) (m_isinstance : mg "isinstance" = none) (m_int : mg "int" = none) (m_bool : mg "bool" = none) :
    FnOk P w K mg base CX0 1 f fd ["_law_thing"] (sp__law_is_whole K) := by
  refine F.ok sc__law_is_whole (fun vs H Q E h => ?_) (fun cdv A outer s H vs Q E hr h => ?_)
  · obtain ⟨v, rfl, hv, q⟩ := h
    rfl
  · obtain ⟨v, rfl, hv, q⟩ := h
    refine ⟨_, PSs.nox (pss_one (ps_ret (pe_and (pe_callB call_isi (by rfl) m_isinstance (by decide +kernel) (pa_cons (pv 0) (pa_cons (pe_bltn (v := .ty "int") (by rfl) m_int (by decide +kernel) rfl) pa_nil))) (pe_one (pe_not (pe_callB call_isi (by rfl) m_isinstance (by decide +kernel) (pa_cons (pv 0) (pa_cons (pe_bltn (v := .ty "bool") (by rfl) m_bool (by decide +kernel) rfl) pa_nil)))))))), ?_⟩
    have e := whole_eq v
    walk_at "go"
    refine tv_int hv ?_
    walk_at "go"
    refine w_iteB (fun hi => ?_) (fun hi => ?_)
    · walk_at "go"
      refine tv_bool hv ?_
      walk_at "go"
      rw [e, hi] at q
      exact q
    · rw [e, hi] at q
      exact q
theorem ok__law_shared {f : Addr} {fd : FuncData} (F : FnP K "_law_shared" s__law_shared f fd) (m_abs : mg "abs" = none) :
    FnOk P w K mg base CX0 1 f fd ["_law_one", "_law_other"] (sp__law_shared K) := by
  refine F.ok sc__law_shared (fun vs H Q E h => ?_) (fun cdv A outer s H vs Q E hr h => ?_)
  · obtain ⟨a, c, rfl, q⟩ := h
    rfl
  · obtain ⟨a, c, rfl, q⟩ := h
    refine ⟨_, PSs.nox (pss_cons (ps_par (i := 0) (j := 1) (by rfl) sc__law_shared.nd rfl rfl (by decide) rfl rfl (pa_cons (pe_callB call_abs (by rfl) m_abs (by decide +kernel) (pa_cons (pv 0) pa_nil)) (pa_cons (pe_callB call_abs (by rfl) m_abs (by decide +kernel) (pa_cons (pv 1) pa_nil)) pa_nil)) (by rfl))
        (pss_cons (ps_while PassesOwn.never (pt_cmpR op_gt (pv 1) pe_int (nomark _)) (pss_one (ps_par (i := 0) (j := 1) (by rfl) sc__law_shared.nd rfl rfl (by decide) rfl rfl (pa_cons (pv 1) (pa_cons (pe_op op_modN (pv 0) (pv 1)) pa_nil)) (by rfl))))
        (pss_one (ps_ret (pv 0))))), ?_⟩
    walk_at "go"
    rw [abs_nat, abs_nat]
    refine while_by (fun σ H' => ∃ x y : Nat, σ = [some (.int (x : Int)), some (.int (y : Int))] ∧ Nat.gcd x y = Int.gcd a c ∧ H' = H) (fun σ _ => match σ with | [_, some (.int y)] => y.toNat | _ => 0) ⟨a.natAbs, c.natAbs, rfl, rfl, rfl⟩ (fun σ H' hP => ?_) (fun σ H' Q1 Q2 f h => ?_)
    · obtain ⟨x, y, rfl, e, rfl⟩ := hP
      walk_at "go"
      refine w_ite (fun hc => ?_) (fun hc => ?_)
      · walk_at "go"
        refine w_I (by omega) ?_
        walk_at "go"
        have e1 : (x : Int).fmod (y : Int) = ((x % y : Nat) : Int) := by
          rw [fmod_pos _ hc]
          rfl
        rw [e1]
        refine ⟨⟨y, x % y, rfl, ?_, rfl⟩, ?_⟩
        · rw [← e, Nat.gcd_comm y, ← Nat.gcd_rec, Nat.gcd_comm]
        · show ((x % y : Nat) : Int).toNat < ((y : Nat) : Int).toNat
          have := Nat.mod_lt x (by omega : y > 0)
          omega
      · walk_at "go"
        have e0 : y = 0 := by omega
        subst e0
        rw [Nat.gcd_zero_right] at e
        rw [e]
        exact q
    · obtain ⟨v, hv, i, j, e1, e2, k, ek, qq⟩ := h
      exact ⟨v, hv, i, j, e1, e2, k, ek, f _ _ qq⟩
theorem ok__law_turned {f : Addr} {fd : FuncData} (F : FnP K "_law_turned" s__law_turned f fd) (m_tuple : mg "tuple" = none) (m_range : mg "range" = none) (m_len : mg "len" = none) :
    FnOk P w K mg base CX0 1 f fd ["_law_table"] (sp__law_turned K) := by
  refine F.ok sc__law_turned (fun vs H Q E h => ?_) (fun cdv A outer s H vs Q E hr h => ?_)
  · obtain ⟨v, t, l, rfl, hv, ht0, ht, hl, hl10, q⟩ := h
    rfl
  · obtain ⟨v, t, l, rfl, hv, ht0, ht, hl, hl10, q⟩ := h
    refine ⟨_, PSs.nox (pss_one (ps_ret (pe_callTy call_tuple_of (by rfl) m_tuple (by decide +kernel) (pa_cons (pe_lc (own := [("_law_k", 1)]) (g := gName 1) (tt := tYes) (by rfl) sc__law_turned.nd (pi_range1 (by rfl) m_range (pa_cons (pe_callB call_len_seq (by rfl) m_len (by decide +kernel) (pa_cons (pe_ix ix_tup (pv 0) pe_int (fun _ _ => rfl)) pa_nil)) pa_nil)) (blkOk_by (own := [("_law_k", 1)]) (N := ["_law_table", "_law_k", "_law_row_here"]) (sc := defScope s__law_turned) (by decide +kernel)) (fun _ _ _ _ _ => (pg_name (i := 1) sc__law_turned.nd rfl (.inr rfl))) (fun _ _ _ _ _ => pts_nil) (fun _ _ _ _ _ => (pe_callTy (r := rTupOf K) call_tupOf (by rfl) m_tuple (by decide +kernel) (pa_cons (pe_lc (own := [("_law_row_here", 2)]) (g := gName 2) (tt := tYes) (wi := iTup K (tVar 0)) (by rfl) sc__law_turned.nd (pi_tup (pv 0)) (blkOk_by (own := [("_law_row_here", 2)]) (N := ["_law_table", "_law_k", "_law_row_here"]) (sc := ({ kind := PySem.ScopeKind.function, names := [ (PySem.Str.ofString ".0", PySem.NameKind.local), (PySem.Str.ofString "_law_k", PySem.NameKind.cell), (PySem.Str.ofString "tuple", PySem.NameKind.globalImplicit), (PySem.Str.ofString "_law_table", PySem.NameKind.cell)], isGenerator := false, isCoroutine := false, more := [] } : Scope)) (by decide +kernel)) (fun _ _ _ _ _ => (pg_name (i := 2) sc__law_turned.nd rfl (.inl rfl))) (fun _ _ _ _ _ => pts_nil) (fun _ _ _ _ _ => (pe_ix (r := rIxT K) ix_tup (pv 2) (pv 1) (fun _ _ => rfl)))) pa_nil)))) pa_nil)))), ?_⟩
    obtain ⟨p, xs, rfl, hp, hlx, hx⟩ := hv
    obtain ⟨x0, hx0⟩ : ∃ x0, xs[0]? = some x0 := ⟨_, List.getElem?_eq_getElem (by omega)⟩
    have ht00 : t[0]? = some t[0] := List.getElem?_eq_getElem ht0
    obtain ⟨p0, ns0, rfl, hp0, hl0, hn0⟩ := hx 0 x0 _ hx0 ht00
    have hl0' : ns0.length = l := by rw [hl0]; exact hl _ (List.getElem_mem ht0)
    walk_at "go"
    refine w_ixT hp (atI_nat (j := 0) hx0) ?_
    walk_at "go"
    refine ⟨p0, ns0, rfl, .inr (SqT.of hp0), ?_⟩
    walk_at "go"
    refine ⟨by omega, by omega, fun D hD => ?_⟩
    rw [hl0']
    refine lc_range (fun j H' => Same H H' ∧ ∃ ys, H' D = some (.lst ys) ∧ Acc RowV H' ys (turnF l t) j) ⟨Same.updD (Same.refl H) hD, [], upd_same, Acc.nil⟩ (fun j H' hj hP => ?_) (fun H' hP => ?_)
    · obtain ⟨sm, ys, hD', hacc⟩ := hP
      have hj' : j < l := hj
      have hp' := sm _ _ hp
      walk_at "go"
      refine ⟨rfl, ?_⟩
      walk_at "go"
      refine ⟨p, rfl, ⟨xs, SqT.of hp'⟩, fun D2 hD2 => ?_⟩
      have nD : D ≠ D2 := fresh_of hD' hD2
      refine lc_tup (xs := xs) (fun i H'' => Same H' H'' ∧ ∃ zs, H'' D2 = some (.lst zs) ∧ Acc NumV H'' zs (t.map fun row => row.getD j (0, 1)) i) ⟨Same.updD (Same.refl H') hD2, [], upd_same, Acc.nil⟩ (fun i H'' _ hP => SqT.of (hP.1 _ _ hp')) (fun i x H'' hxi hP => ?_) (fun H'' hP => ?_)
      · obtain ⟨sm2, zs, hD2', hacc2⟩ := hP
        have hi : i < t.length := by
          have := (List.getElem?_eq_some_iff.mp hxi).1
          omega
        have hti : t[i]? = some t[i] := List.getElem?_eq_getElem hi
        obtain ⟨pr, ns, rfl, hpr, hln, hns⟩ := hx i x _ hxi hti
        have hlr := hl _ (List.getElem_mem hi)
        obtain ⟨y, hy⟩ : ∃ y, ns[j]? = some y := ⟨_, List.getElem?_eq_getElem (by omega)⟩
        have htj : t[i][j]? = some (t[i].getD j (0, 1)) := by
          rw [List.getD_eq_getElem?_getD, List.getElem?_eq_getElem (by omega)]
          rfl
        have hn := hns j y _ hy htj
        have hpr' := sm2 _ _ (sm _ _ hpr)
        walk_at "go"
        refine ⟨rfl, ?_⟩
        walk_at "go"
        rw [Int.zero_add]
        refine w_ixT hpr' (atI_nat hy) ?_
        have kt : Kt H'' (upd H'' D2 (.lst (zs ++ [y]))) := Kt.updL hD2'
        refine ⟨zs, hD2', small1000 (by rw [hacc2.1]; omega), Same.updD sm2 hD2, _, upd_same, ?_⟩
        exact (hacc2.mono fun x a h => NumV.kt h kt).snoc (a := t[i].getD j (0, 1)) (by rw [List.getElem?_map, hti]; rfl) ((hn.kt (Kt.of (sm.trans sm2))).kt kt)
      · obtain ⟨sm2, zs, hD2', hacc2⟩ := hP
        walk_at "go"
        refine w_tupOf2 hD2' ?_
        refine w_newO fun q3 H3 hq3 s3 h3 => ?_
        have hD3 := s3 _ _ (sm2 _ _ hD')
        have kt : Kt H' (upd H3 D (.lst (ys ++ [V.ref q3]))) := (Kt.of (sm2.trans s3)).trans (Kt.updL hD3)
        refine ⟨ys, hD3, small1000 (by rw [hacc.1]; omega), Same.updD ((sm.trans sm2).trans s3) hD, _, upd_same, ?_⟩
        have hrow : RowV H3 (.ref q3) (t.map fun row => row.getD j (0, 1)) := (hacc2.mono fun x a h => NumV.kt h (Kt.of s3)).sq (by rw [List.length_map]; exact hlx) h3
        exact (hacc.mono fun x a h => RowV.kt h kt).snoc (turn_at hj') (RowV.kt hrow (Kt.updL hD3))
    · obtain ⟨sm, ys, hD', hacc⟩ := hP
      walk_at "go"
      refine ⟨_, _, rfl, .inl ⟨SqL.of hD', fun m hm => ?_⟩⟩
      exact q _ _ (sm.trans (same_upd hm)) ((hacc.mono fun x a h => RowV.kt h (Kt.of (same_upd hm))).sq (by unfold turnF; rw [List.length_map, List.length_range]; rfl) upd_same)
theorem ok__law_ones {f : Addr} {fd : FuncData} (F : FnP K "_law_ones" s__law_ones f fd) (m_tuple : mg "tuple" = none) (m_range : mg "range" = none) (m_int : mg "int" = none) :
    FnOk P w K mg base CX0 1 f fd ["_law_many"] (sp__law_ones K) := by
  refine F.ok sc__law_ones (fun vs H Q E h => ?_) (fun cdv A outer s H vs Q E hr h => ?_)
  · obtain ⟨m, rfl, hm, q⟩ := h
    rfl
  · obtain ⟨m, rfl, hm, q⟩ := h
    refine ⟨_, PSs.nox (pss_one (ps_ret (pe_callTy call_tuple_of (by rfl) m_tuple (by decide +kernel) (pa_cons (pe_lc (own := [("_law_i", 1)]) (g := gName 1) (tt := tYes) (by rfl) sc__law_ones.nd (pi_range1 (by rfl) m_range (pa_cons (pv 0) pa_nil)) (blkOk_by (own := [("_law_i", 1)]) (N := ["_law_many", "_law_i", "_law_j"]) (sc := defScope s__law_ones) (by decide +kernel)) (fun _ _ _ _ _ => (pg_name (i := 1) sc__law_ones.nd rfl (.inr rfl))) (fun _ _ _ _ _ => pts_nil) (fun _ _ _ _ _ => (pe_callTy (r := rTupOf K) call_tupOf (by rfl) m_tuple (by decide +kernel) (pa_cons (pe_lc (own := [("_law_j", 2)]) (g := gName 2) (tt := tYes) (wi := iRng1 (tCons (tVar 0) tNil)) (by rfl) sc__law_ones.nd (pi_range1 (by rfl) m_range (pa_cons (pv 0) pa_nil)) (blkOk_by (own := [("_law_j", 2)]) (N := ["_law_many", "_law_i", "_law_j"]) (sc := ({ kind := PySem.ScopeKind.function, names := [ (PySem.Str.ofString ".0", PySem.NameKind.local), (PySem.Str.ofString "_law_i", PySem.NameKind.cell), (PySem.Str.ofString "tuple", PySem.NameKind.globalImplicit), (PySem.Str.ofString "range", PySem.NameKind.globalImplicit), (PySem.Str.ofString "_law_many", PySem.NameKind.cell)], isGenerator := false, isCoroutine := false, more := [] } : Scope)) (by decide +kernel)) (fun _ _ _ _ _ => (pg_name (i := 2) sc__law_ones.nd rfl (.inl rfl))) (fun _ _ _ _ _ => pts_nil) (fun _ _ _ _ _ => (pe_tup (pa_cons (pe_callTy call_int1 (by rfl) m_int (by decide +kernel) (pa_cons (pe_cmpR op_eq (pv 1) (pv 2) (nomark _)) pa_nil)) (pa_cons pe_int pa_nil))))) pa_nil)))) pa_nil)))), ?_⟩
    walk_at "go"
    refine ⟨by omega, by omega, fun D hD => ?_⟩
    refine lc_range (fun i H' => Same H H' ∧ ∃ ys, H' D = some (.lst ys) ∧ Acc RowV H' ys (onesF m) i) ⟨Same.updD (Same.refl H) hD, [], upd_same, Acc.nil⟩ (fun i H' hi hP => ?_) (fun H' hP => ?_)
    · obtain ⟨sm, ys, hD', hacc⟩ := hP
      have hi' : i < m := by omega
      walk_at "go"
      refine ⟨rfl, ?_⟩
      walk_at "go"
      refine ⟨by omega, by omega, fun D2 hD2 => ?_⟩
      have nD : D ≠ D2 := fresh_of hD' hD2
      refine lc_range (fun j H'' => Same H' H'' ∧ ∃ zs, H'' D2 = some (.lst zs) ∧ Acc NumV H'' zs ((List.range m).map fun j => ((if i = j then 1 else 0 : Int), (1 : Int))) j) ⟨Same.updD (Same.refl H') hD2, [], upd_same, Acc.nil⟩ (fun j H'' hj hP => ?_) (fun H'' hP => ?_)
      · obtain ⟨sm2, zs, hD2', hacc2⟩ := hP
        have hj' : j < m := by omega
        walk_at "go"
        refine ⟨rfl, ?_⟩
        walk_at "go"
        refine .inr ⟨_, rfl, ?_⟩
        walk_at "go"
        refine w_new (by simp) fun p3 H3 hp3 s3 h3 => ?_
        have h3D := s3 _ _ hD2'
        have kt : Kt H'' (upd H3 D2 (.lst (zs ++ [V.ref p3]))) := (Kt.of s3).trans (Kt.updL h3D)
        refine ⟨zs, h3D, small1000 (by rw [hacc2.1]; omega), Same.updD (sm2.trans s3) hD2, _, upd_same, ?_⟩
        refine (hacc2.mono fun x a h => NumV.kt h kt).snoc (a := ((if i = j then 1 else 0 : Int), (1 : Int))) (by rw [List.getElem?_map, List.getElem?_range hj']; rfl) ⟨p3, rfl, ?_⟩
        have e : (if decide ((0 : Int) + (i : Int) = 0 + (j : Int)) = true then (1 : Int) else 0) = if i = j then 1 else 0 := by
          by_cases h : i = j
          · rw [if_pos h, decide_eq_true (by omega)]; rfl
          · rw [if_neg h, decide_eq_false (by omega)]; rfl
        rw [e] at h3
        exact Kt.updL h3D _ _ h3
      · obtain ⟨sm2, zs, hD2', hacc2⟩ := hP
        walk_at "go"
        refine ⟨_, _, rfl, .inl ⟨SqL.of hD2', fun l hl => ?_⟩⟩
        have s4 := same_upd (o := HO.tup zs) hl
        have h4D := s4 _ _ (sm2 _ _ hD')
        have kt : Kt H' (upd (upd H'' l (.tup zs)) D (.lst (ys ++ [V.ref l]))) := (Kt.of (sm2.trans s4)).trans (Kt.updL h4D)
        refine ⟨ys, h4D, small1000 (by rw [hacc.1]; omega), Same.updD (sm.trans (sm2.trans s4)) hD, _, upd_same, ?_⟩
        refine (hacc.mono fun x a h => RowV.kt h kt).snoc (a := (List.range m).map fun j => ((if i = j then 1 else 0 : Int), (1 : Int))) (by unfold onesF; rw [List.getElem?_map, List.getElem?_range hi']; rfl) ?_
        refine RowV.kt ((hacc2.mono fun x a h => NumV.kt h (Kt.of s4)).sq (p := l) ?_ upd_same) (Kt.updL h4D)
        rw [List.length_map, List.length_range]
        omega
    · obtain ⟨sm, ys, hD', hacc⟩ := hP
      walk_at "go"
      refine ⟨_, _, rfl, .inl ⟨SqL.of hD', fun l hl => ?_⟩⟩
      refine q _ _ (sm.trans (same_upd hl)) ((hacc.mono fun x a h => RowV.kt h (Kt.of (same_upd hl))).sq ?_ upd_same)
      unfold onesF
      rw [List.length_map, List.length_range]
      omega
theorem ok_is_ground {f : Addr} {fd : FuncData} (F : FnP K "is_ground" s_is_ground f fd)
    {f_is_whole : Addr} {fd_is_whole : FuncData} (F_is_whole : FnP K "is_whole" s_is_whole f_is_whole fd_is_whole) (b_is_whole : Binds K fd_is_whole ["thing"] []) (g_is_whole : mg "is_whole" = some (.ref f_is_whole)) (G_is_whole : FnOk P w K mg base CX0 1 f_is_whole fd_is_whole ["thing"] (sp_is_whole K))
    {a_GROUNDS : Addr} (mg_GROUNDS : mg "GROUNDS" = some (.ref a_GROUNDS)) (gr_GROUNDS : ∀ H : Hp, SqT K H a_GROUNDS [.int 0, .int 3, .int 5, .int 7, .int 11, .int 13]) :
    FnOk P w K mg base CX0 2 f fd ["thing"] (sp_is_ground K) := by
  refine F.ok sc_is_ground (fun vs H Q E h => ?_) (fun cdv A outer s H vs Q E hr h => ?_)
  · obtain ⟨i, rfl, q⟩ := h
    rfl
  · obtain ⟨i, rfl, q⟩ := h
    refine ⟨_, PSs.nox (pss_one (ps_ret (pe_and (pe_call G_is_whole hr (by rfl) g_is_whole F_is_whole.kp b_is_whole .nil pass0 (pa_cons (pv 0) pa_nil)) (pe_one (pe_cmpR op_in_seq (pv 0) (pe_glob (v := .ref a_GROUNDS) (by rfl) mg_GROUNDS rfl) (by rfl)))))), ?_⟩
    walk_at "go"
    refine ⟨.int i, rfl, .inl rfl, ?_⟩
    walk_at "go"
    refine w_iteB (fun _ => ?_) (fun z => by cases (show true = false from z))
    walk_at "go"
    refine ⟨_, _, rfl, .inr (gr_GROUNDS _), rfl, rfl, ?_⟩
    rw [← in_grd] at q
    exact q
theorem ok_is_number {f : Addr} {fd : FuncData} (F : FnP K "is_number" s_is_number f fd)
    {f_is_whole : Addr} {fd_is_whole : FuncData} (F_is_whole : FnP K "is_whole" s_is_whole f_is_whole fd_is_whole) (b_is_whole : Binds K fd_is_whole ["thing"] []) (g_is_whole : mg "is_whole" = some (.ref f_is_whole)) (G_is_whole : FnOk P w K mg base CX0 1 f_is_whole fd_is_whole ["thing"] (sp_is_whole K))
    {f_common_divisor : Addr} {fd_common_divisor : FuncData} (F_common_divisor : FnP K "common_divisor" s_common_divisor f_common_divisor fd_common_divisor) (b_common_divisor : Binds K fd_common_divisor ["a", "b"] []) (g_common_divisor : mg "common_divisor" = some (.ref f_common_divisor)) (G_common_divisor : FnOk P w K mg base CX0 1 f_common_divisor fd_common_divisor ["a", "b"] (sp_common_divisor K)) (m_isinstance : mg "isinstance" = none) (m_tuple : mg "tuple" = none) (m_len : mg "len" = none) :
    FnOk P w K mg base CX0 2 f fd ["ground", "thing"] (sp_is_number K) := by
  refine F.ok sc_is_number (fun vs H Q E h => ?_) (fun cdv A outer s H vs Q E hr h => ?_)
  · obtain ⟨g, v, kb, nb, rfl, hv, q⟩ := h
    rfl
  · obtain ⟨g, v, kb, nb, rfl, hv, q⟩ := h
    refine ⟨_, PSs.nox (pss_cons (ps_if (PW.pt (pw_or (pt_not (pt_val (pe_callB call_isi (by rfl) m_isinstance (by decide +kernel) (pa_cons (pv 1) (pa_cons (pe_bltn (v := .ty "tuple") (by rfl) m_tuple (by decide +kernel) rfl) pa_nil))))) (pw_or1 (pt_cmpR op_ne (pe_callB call_len_seq (by rfl) m_len (by decide +kernel) (pa_cons (pv 1) pa_nil)) pe_int (nomark _))))) (pss_one (ps_ret pe_bl)) pss_nil)
        (pss_cons (ps_asg (pv 1) (pg_tup rfl (pgs_cons (pg_name (i := 2) sc_is_number.nd rfl (.inl rfl)) (pgs_cons (pg_name (i := 3) sc_is_number.nd rfl (.inl rfl)) pgs_nil))))
        (pss_cons (ps_if (PW.pt (pw_or (pt_not (pt_val (pe_call G_is_whole hr (by rfl) g_is_whole F_is_whole.kp b_is_whole .nil pass0 (pa_cons (pv 2) pa_nil)))) (pw_or1 (pt_not (pt_val (pe_call G_is_whole hr (by rfl) g_is_whole F_is_whole.kp b_is_whole .nil pass0 (pa_cons (pv 3) pa_nil))))))) (pss_one (ps_ret pe_bl)) pss_nil)
        (pss_cons (ps_if (pt_cmpR op_eq (pv 0) pe_int (nomark _)) (pss_one (ps_ret (pe_and (pe_cmpR op_ge (pv 3) pe_int (nomark _)) (pe_one (pe_cmpR op_eq (pe_call G_common_divisor hr (by rfl) g_common_divisor F_common_divisor.kp b_common_divisor .nil pass0 (pa_cons (pv 2) (pa_cons (pv 3) pa_nil))) pe_int (nomark _)))))) pss_nil)
        (pss_one (ps_ret (pe_and (pe_chain op_le op_lt pe_int (pv 2) (pv 0)) (pe_one (pe_cmpR op_eq (pv 3) pe_int (nomark _)))))))))), ?_⟩
    walk_at "go"
    refine tb_tup hv (fun p xs e hp hz hx => ?_) (fun hn => ?_)
    · subst e
      rw [numOf_tup hp] at q
      walk_at "go"
      refine iteF ?_
      walk_at "go"
      refine ⟨p, xs, rfl, .inr (SqT.of hp), ?_⟩
      walk_at "go"
      refine w_iteN (fun hl => ?_) (fun hl => ?_)
      · walk_at "go"
        rw [numOk_len (by omega)] at q
        exact q
      · obtain ⟨t, b, rfl⟩ : ∃ t b, xs = [t, b] := by
          match xs, hl with
          | [t, b], _ => exact ⟨t, b, rfl⟩
          | [], h => simp at h
          | [_], h => simp at h
          | _ :: _ :: _ :: _, h => simp at h; omega
        walk_at "go"
        refine ⟨t, rfl, (hx t (by simp)).tv, ?_⟩
        walk_at "go"
        refine w_iteBN (fun hw => ?_) (fun hw => ?_)
        · walk_at "go"
          rw [numOk_l hw] at q
          exact q
        · walk_at "go"
          refine ⟨b, rfl, (hx b (by simp)).tv, ?_⟩
          walk_at "go"
          refine w_iteBN (fun hw2 => ?_) (fun hw2 => ?_)
          · walk_at "go"
            rw [numOk_r hw2] at q
            exact q
          · obtain ⟨t, rfl⟩ := whole_int hw
            obtain ⟨b, rfl⟩ := whole_int hw2
            walk_at "go"
            refine w_ite (fun hg => ?_) (fun hg => ?_)
            · subst hg
              rw [numOk_0] at q
              walk_at "go"
              refine w_ite (fun hb => ?_) (fun hb => ?_)
              · walk_at "go"
                refine ⟨t, b, rfl, ?_⟩
                walk_at "go"
                rw [decide_eq_true hb] at q
                exact q
              · rw [decide_eq_false hb] at q
                exact q
            · rw [numOk_g hg] at q
              walk_at "go"
              refine w_ite (fun h0 => ?_) (fun h0 => ?_)
              · walk_at "go"
                refine w_ite (fun h1 => ?_) (fun h1 => ?_)
                · walk_at "go"
                  rw [decide_eq_true h0, decide_eq_true h1] at q
                  exact q
                · rw [decide_eq_true h0, decide_eq_false h1] at q
                  exact q
              · walk_at "go"
                rw [decide_eq_false h0] at q
                exact q
    · rw [numOf_no hn] at q
      walk_at "go"
      refine iteT ?_
      walk_at "go"
      exact q
theorem ok_lowest {f : Addr} {fd : FuncData} (F : FnP K "lowest" s_lowest f fd)
    {f_common_divisor : Addr} {fd_common_divisor : FuncData} (F_common_divisor : FnP K "common_divisor" s_common_divisor f_common_divisor fd_common_divisor) (b_common_divisor : Binds K fd_common_divisor ["a", "b"] []) (g_common_divisor : mg "common_divisor" = some (.ref f_common_divisor)) (G_common_divisor : FnOk P w K mg base CX0 1 f_common_divisor fd_common_divisor ["a", "b"] (sp_common_divisor K))
    {f_wheel_back : Addr} {fd_wheel_back : FuncData} (F_wheel_back : FnP K "wheel_back" s_wheel_back f_wheel_back fd_wheel_back) (b_wheel_back : Binds K fd_wheel_back ["wheel", "whole"] []) (g_wheel_back : mg "wheel_back" = some (.ref f_wheel_back)) (G_wheel_back : FnOk P w K mg base CX0 1 f_wheel_back fd_wheel_back ["wheel", "whole"] (sp_wheel_back K)) :
    FnOk P w K mg base CX0 2 f fd ["ground", "top", "bottom"] (sp_lowest K) := by
  refine F.ok sc_lowest (fun vs H Q E h => ?_) (fun cdv A outer s H vs Q E hr h => ?_)
  · obtain ⟨g, u, d, rfl, hh, q⟩ := h
    rfl
  · obtain ⟨g, u, d, rfl, hh, q⟩ := h
    refine ⟨_, PSs.nox (pss_cons (ps_if (pt_cmpR op_ne (pv 0) pe_int (nomark _)) (pss_one (ps_ret (pe_tup (pa_cons (pe_op op_modN (pe_op op_mulW (pv 1) (pe_call G_wheel_back hr (by rfl) g_wheel_back F_wheel_back.kp b_wheel_back .nil pass0 (pa_cons (pv 0) (pa_cons (pv 2) pa_nil)))) (pv 0)) (pa_cons pe_int pa_nil))))) pss_nil)
        (pss_cons (ps_set (i := 3) sc_lowest.nd rfl (.inl rfl) (pe_call G_common_divisor hr (by rfl) g_common_divisor F_common_divisor.kp b_common_divisor .nil pass0 (pa_cons (pv 1) (pa_cons (pv 2) pa_nil))))
        (pss_cons (ps_if (pt_cmpR op_lt (pv 2) pe_int (nomark _)) (pss_one (ps_set (i := 3) sc_lowest.nd rfl (.inl rfl) (pe_un un_neg (pv 3)))) pss_nil)
        (pss_one (ps_ret (pe_tup (pa_cons (pe_op op_fdivZ (pv 1) (pv 3)) (pa_cons (pe_op op_fdivZ (pv 2) (pv 3)) pa_nil)))))))), ?_⟩
    walk_at "go"
    refine w_iteN (fun hc => ?_) (fun hc => ?_)
    · rcases hh with ⟨h0, _⟩ | ⟨hg, hu, k, hk1, hk, hkd⟩
      · exact absurd h0 hc
      · walk_at "go"
        refine ⟨g, d, k, rfl, hg, hk1, hk, hkd, fun f hf1 hf hfd => ?_⟩
        refine w_I (wide_mul (b := 5) hu (show f.natAbs < 2 ^ 5 by omega) (by decide) (by decide) (by decide)) ?_
        walk_at "go"
        refine w_I (by omega) ?_
        walk_at "go"
        refine w_new (by simp) fun p1 H1 hp1 s1 h1 => ?_
        refine q p1 H1 hp1 s1 ?_
        rw [low_inv (by omega) hfd]
        exact h1
    · subst hc
      rcases hh with ⟨_, hd, hz⟩ | ⟨hg, _⟩
      · have hI : lowI 0 u d = none := by
          unfold lowI
          rw [if_neg (by decide)]
        have e : lowF 0 u d = (u.fdiv (lowC u d), d.fdiv (lowC u d)) := by
          unfold lowF
          rw [hI]
        have hcz : ∀ i : Int, CDivZ i (lowC u d) := fun i => divZ_of (b := 8500) (lowC_ne hd) (Nat.lt_of_le_of_lt (lowC_le hd) hz) (by decide) (by decide)
        rw [e] at q
        walk_at "go"
        refine ⟨u, d, rfl, ?_⟩
        walk_at "go"
        refine w_ite (fun hn => ?_) (fun hn => ?_)
        · walk_at "go"
          have ec : lowC u d = -(Int.gcd u d : Int) := by
            unfold lowC
            rw [if_pos hn, Int.mul_neg, Int.mul_one]
          rw [← ec]
          refine w_I (hcz _) ?_
          walk_at "go"
          refine w_I (hcz _) ?_
          walk_at "go"
          refine w_new (by simp) fun p1 H1 hp1 s1 h1 => ?_
          exact q p1 H1 hp1 s1 h1
        · walk_at "go"
          have ec : lowC u d = (Int.gcd u d : Int) := by
            unfold lowC
            rw [if_neg hn, Int.mul_one]
          rw [← ec]
          refine w_I (hcz _) ?_
          walk_at "go"
          refine w_I (hcz _) ?_
          walk_at "go"
          refine w_new (by simp) fun p1 H1 hp1 s1 h1 => ?_
          exact q p1 H1 hp1 s1 h1
      · exact absurd hg (by decide)
theorem ok_fraction_root {f : Addr} {fd : FuncData} (F : FnP K "fraction_root" s_fraction_root f fd)
    {f_whole_root : Addr} {fd_whole_root : FuncData} (F_whole_root : FnP K "whole_root" s_whole_root f_whole_root fd_whole_root) (b_whole_root : Binds K fd_whole_root ["square"] []) (g_whole_root : mg "whole_root" = some (.ref f_whole_root)) (G_whole_root : FnOk P w K mg base CX0 1 f_whole_root fd_whole_root ["square"] (sp_whole_root K)) :
    FnOk P w K mg base CX0 2 f fd ["x"] (sp_fraction_root K) := by
  refine F.ok sc_fraction_root (fun vs H Q E h => ?_) (fun cdv A outer s H vs Q E hr h => ?_)
  · obtain ⟨v, a, rfl, ha, h1, h2, hv, q⟩ := h
    rfl
  · obtain ⟨v, a, rfl, ha, h1, h2, hv, q⟩ := h
    refine ⟨_, PSs.nox (pss_cons (ps_asg (pv 0) (pg_tup rfl (pgs_cons (pg_name (i := 1) sc_fraction_root.nd rfl (.inl rfl)) (pgs_cons (pg_name (i := 2) sc_fraction_root.nd rfl (.inl rfl)) pgs_nil))))
        (pss_cons (ps_if (pt_cmpR op_lt (pv 1) pe_int (nomark _)) (pss_one (ps_ret pe_non)) pss_nil)
        (pss_cons (ps_set (i := 3) sc_fraction_root.nd rfl (.inl rfl) (pe_tup (pa_cons (pe_call G_whole_root hr (by rfl) g_whole_root F_whole_root.kp b_whole_root .nil pass0 (pa_cons (pv 1) pa_nil)) (pa_cons (pe_call G_whole_root hr (by rfl) g_whole_root F_whole_root.kp b_whole_root .nil pass0 (pa_cons (pv 2) pa_nil)) pa_nil))))
        (pss_cons (ps_if (PW.pt (pw_or (pt_cmpR op_ne (pe_op op_mulW (pe_ix ix_tup (pv 3) pe_int (fun _ _ => rfl)) (pe_ix ix_tup (pv 3) pe_int (fun _ _ => rfl))) (pv 1) (nomark _)) (pw_or1 (pt_cmpR op_ne (pe_op op_mulW (pe_ix ix_tup (pv 3) pe_int (fun _ _ => rfl)) (pe_ix ix_tup (pv 3) pe_int (fun _ _ => rfl))) (pv 2) (nomark _))))) (pss_one (ps_ret pe_non)) pss_nil)
        (pss_one (ps_ret (pv 3))))))), ?_⟩
    obtain ⟨p, rfl, hp⟩ := hv
    walk_at "go"
    refine w_ite (fun hc => ?_) (fun hc => ?_)
    · walk_at "go"
      refine q _ _ (Same.refl H) ?_
      rw [rootV_neg hc]
      exact rfl
    · walk_at "go"
      have n1 : a.1.toNat < 2 ^ 8000 := by omega
      have n2 : a.2.toNat < 2 ^ 8000 := by omega
      refine ⟨a.1.toNat, by rw [Int.toNat_of_nonneg (by omega)]; rfl, n1, ?_⟩
      walk_at "go"
      refine ⟨a.2.toNat, by rw [Int.toNat_of_nonneg (by omega)]; rfl, n2, ?_⟩
      walk_at "go"
      refine w_new (by simp) fun p1 H1 hp1 s1 i1 => ?_
      walk_at "go"
      refine w_I (isq_mulW n1) ?_
      walk_at "go"
      refine w_iteN (fun hd => ?_) (fun hd => ?_)
      · walk_at "go"
        refine q _ _ s1 ?_
        rw [rootV_no hc fun z => hd z.1]
        exact rfl
      · walk_at "go"
        refine w_I (isq_mulW n2) ?_
        walk_at "go"
        refine w_iteN (fun he => ?_) (fun he => ?_)
        · walk_at "go"
          refine q _ _ s1 ?_
          rw [rootV_no hc fun z => he z.2]
          exact rfl
        · walk_at "go"
          refine q _ _ s1 ?_
          rw [rootV_yes hc hd he]
          exact ⟨p1, rfl, i1⟩
theorem ok_whole_row {f : Addr} {fd : FuncData} (F : FnP K "whole_row" s_whole_row f fd)
    {f_common_divisor : Addr} {fd_common_divisor : FuncData} (F_common_divisor : FnP K "common_divisor" s_common_divisor f_common_divisor fd_common_divisor) (b_common_divisor : Binds K fd_common_divisor ["a", "b"] []) (g_common_divisor : mg "common_divisor" = some (.ref f_common_divisor)) (G_common_divisor : FnOk P w K mg base CX0 1 f_common_divisor fd_common_divisor ["a", "b"] (sp_common_divisor K)) :
    FnOk P w K mg base CX0 2 f fd ["row"] (sp_whole_row K) := by
  refine F.ok sc_whole_row (fun vs H Q E h => ?_) (fun cdv A outer s H vs Q E hr h => ?_)
  · obtain ⟨v, r, g, k, rfl, hv, hok, hk0, hkl, hk, hlr, q⟩ := h
    rfl
  · obtain ⟨v, r, g, k, rfl, hv, hok, hk0, hkl, hk, hlr, q⟩ := h
    refine ⟨_, PSs.nox (pss_cons (ps_set (i := 1) sc_whole_row.nd rfl (.inr rfl) pe_int)
        (pss_cons (ps_for PassesOwn.never rfl (pi_tup (pv 0)) (pg_name (i := 2) sc_whole_row.nd rfl (.inl rfl)) (pss_one (ps_set (i := 1) sc_whole_row.nd rfl (.inr rfl) (pe_op op_mulW (pe_op op_fdivZ (pv 1) (pe_call G_common_divisor hr (by rfl) g_common_divisor F_common_divisor.kp b_common_divisor .nil pass0 (pa_cons (pv 1) (pa_cons (pe_ix ix_tup (pv 2) pe_int (fun _ _ => rfl)) pa_nil)))) (pe_ix ix_tup (pv 2) pe_int (fun _ _ => rfl))))))
        (pss_one (ps_ret (pe_tup (pa_cons (pe_lc (own := [("x", 2)]) (g := gName 2) (tt := tYes) (by rfl) sc_whole_row.nd (pi_tup (pv 0)) (blkOk_by (own := [("x", 2)]) (N := ["row", "bottom", "x"]) (sc := defScope s_whole_row) (by decide +kernel)) (fun _ _ _ _ _ => (pg_name (i := 2) sc_whole_row.nd rfl (.inl rfl))) (fun _ _ _ _ _ => pts_nil) (fun _ _ _ _ _ => (pe_op op_mulW (pe_ix (r := rIxT K) ix_tup (pv 2) pe_int (fun _ _ => rfl)) (pe_op op_fdivZ (pv 1) (pe_ix (r := rIxT K) ix_tup (pv 2) pe_int (fun _ _ => rfl)))))) (pa_cons (pv 1) pa_nil))))))), ?_⟩
    obtain ⟨p, xs, rfl, hp, hlx, hx⟩ := hv
    have hpos : ∀ x ∈ r, 0 < x.2 := fun x h => (hok x h).pos
    have hbd : ∀ i, 0 < wrB (r.take i) ∧ (wrB (r.take i)).natAbs ≤ 2 ^ (k * r.length) := fun i => by
      have hsub : ∀ x ∈ r.take i, x ∈ r := fun x h => List.mem_of_mem_take h
      refine ⟨(wrB_spec fun x h => hpos x (hsub x h)).1, Nat.le_trans (wrB_bd (k := k) fun x h => ⟨hpos x (hsub x h), (hok x (hsub x h)).2.1⟩) ?_⟩
      refine Nat.pow_le_pow_right (by decide) (Nat.mul_le_mul_left k ?_)
      rw [List.length_take]
      exact Nat.min_le_right _ _
    walk_at "go"
    refine ⟨p, rfl, ⟨xs, SqT.of hp⟩, ?_⟩
    refine for_tup (xs := xs) (fun i σ H' => H' = H ∧ ∃ y, σ = [some (.ref p), some (.int (wrB (r.take i))), y]) ⟨rfl, none, rfl⟩ (fun i σ H' _ hP => by obtain ⟨rfl, _⟩ := hP; exact SqT.of hp) (fun i x σ H' hxi hP => ?_) (fun σ H' hP => ?_)
    · obtain ⟨rfl, y, rfl⟩ := hP
      have hi : i < r.length := by
        have := (List.getElem?_eq_some_iff.mp hxi).1
        omega
      have hri : r[i]? = some r[i] := List.getElem?_eq_getElem hi
      obtain ⟨px, rfl, hpx⟩ := hx i x _ hxi hri
      have hmem := List.getElem_mem hi
      have st := step_le (hbd i).1 (hpos _ hmem) (hbd i).2 (hok _ hmem).2.1
      walk_at "go"
      refine ⟨_, _, rfl, ?_⟩
      refine w_I (divZ_of (b := k) st.2.2.1 st.2.2.2 hk0 (by omega)) ?_
      walk_at "go"
      refine w_I (mulW_le st.2.1 (Nat.le_of_lt (hok _ hmem).2.1) (by omega)) ?_
      walk_at "go"
      refine ⟨rfl, some (.ref px), ?_⟩
      rw [wrB_take hri]
      rfl
    · obtain ⟨rfl, y, rfl⟩ := hP
      have e : r.take xs.length = r := List.take_of_length_le (by omega)
      rw [e]
      have hB := hbd r.length
      rw [List.take_length] at hB
      walk_at "go"
      refine ⟨p, rfl, ⟨xs, SqT.of hp⟩, fun D hD => ?_⟩
      refine lc_tup (xs := xs) (fun i H'' => Same H' H'' ∧ H'' D = some (.lst (((wrT r).take i).map V.int))) ⟨Same.updD (Same.refl H') hD, upd_same⟩ (fun i H'' _ hP => SqT.of (hP.1 _ _ hp)) (fun i x H'' hxi hP => ?_) (fun H'' hP => ?_)
      · obtain ⟨sm, hD'⟩ := hP
        have hi : i < r.length := by
          have := (List.getElem?_eq_some_iff.mp hxi).1
          omega
        have hri : r[i]? = some r[i] := List.getElem?_eq_getElem hi
        obtain ⟨px, rfl, hpx⟩ := hx i x _ hxi hri
        have hpx' := sm _ _ hpx
        have hmem := List.getElem_mem hi
        have hp2 := hpos _ hmem
        walk_at "go"
        refine ⟨rfl, ?_⟩
        walk_at "go"
        refine w_I (divZ_of (b := k) (by omega) (hok _ hmem).2.1 hk0 (by omega)) ?_
        have htm : (r[i].1 * (wrB r).fdiv r[i].2) ∈ wrT r := List.mem_map.mpr ⟨_, hmem, rfl⟩
        have hq : ((wrB r).fdiv r[i].2).natAbs ≤ 2 ^ (k * r.length) := by
          obtain ⟨q', e'⟩ := (wrB_spec hpos).2.1 _ hmem
          have f1 : (wrB r).fdiv r[i].2 = q' := by
            rw [e']
            exact Int.mul_fdiv_cancel_left _ (by omega)
          rw [f1]
          have h2 := natAbs_fac (c := r[i].2) (q := q') (by omega)
          rw [← e'] at h2
          exact Nat.le_trans h2 hB.2
        refine w_I (mulW_le (Nat.le_of_lt (hok _ hmem).1) hq (by omega)) ?_
        refine ⟨_, hD', ?_, Same.updD sm hD, ?_⟩
        · rw [List.length_map, List.length_take]
          exact small1000 (by unfold wrT; rw [List.length_map]; omega)
        · have gz : (wrT r)[i]? = some (r[i].1 * (wrB r).fdiv r[i].2) := by
            unfold wrT
            rw [List.getElem?_map, hri]
            rfl
          rw [upd_same, List.take_add_one, gz, List.map_append]
          rfl
      · obtain ⟨sm, hD'⟩ := hP
        have e2 : (wrT r).take xs.length = wrT r := List.take_of_length_le (by unfold wrT; rw [List.length_map]; omega)
        rw [e2] at hD'
        walk_at "go"
        refine w_new (by simp) fun p1 H1 hp1 s1 h1 => ?_
        exact q p1 D _ (sm.trans s1) hD h1 (s1 _ _ hD')
theorem ok_whole_determinant {f : Addr} {fd : FuncData} (F : FnP K "whole_determinant" s_whole_determinant f fd)
    {f_head_place : Addr} {fd_head_place : FuncData} (F_head_place : FnP K "head_place" s_head_place f_head_place fd_head_place) (b_head_place : Binds K fd_head_place ["rows", "begin", "at"] []) (g_head_place : mg "head_place" = some (.ref f_head_place)) (G_head_place : FnOk P w K mg base CX0 1 f_head_place fd_head_place ["rows", "begin", "at"] (sp_head_place K))
    {f_smaller_row : Addr} {fd_smaller_row : FuncData} (F_smaller_row : FnP K "smaller_row" s_smaller_row f_smaller_row fd_smaller_row) (b_smaller_row : Binds K fd_smaller_row ["row", "head", "last"] []) (g_smaller_row : mg "smaller_row" = some (.ref f_smaller_row)) (G_smaller_row : FnOk P w K mg base CX0 1 f_smaller_row fd_smaller_row ["row", "head", "last"] (sp_smaller_row K)) (m_len : mg "len" = none) :
    FnOk P w K mg base CX0 2 f fd ["rows"] (sp_whole_determinant K) := by
  refine F.ok sc_whole_determinant (fun vs H Q E h => ?_) (fun cdv A outer s H vs Q E hr h => ?_)
  · obtain ⟨v, orig, n, A, k, rfl, hv, hon, hn1, hn, hrow, hA, hk, hk0, hk4, q⟩ := h
    rfl
  · obtain ⟨v, orig, n, A, k, rfl, hv, hon, hn1, hn, hrow, hA, hk, hk0, hk4, q⟩ := h
    refine ⟨_, PSs.nox (pss_cons (ps_set (i := 1) sc_whole_determinant.nd rfl (.inl rfl) pe_int)
        (pss_cons (ps_set (i := 2) sc_whole_determinant.nd rfl (.inr rfl) pe_int)
        (pss_cons (ps_while PassesOwn.never (pt_cmpR op_gt (pe_callB call_len_seq (by rfl) m_len (by decide +kernel) (pa_cons (pv 0) pa_nil)) pe_int (nomark _)) (pss_cons (ps_set (i := 3) sc_whole_determinant.nd rfl (.inl rfl) (pe_call G_head_place hr (by rfl) g_head_place F_head_place.kp b_head_place .nil pass0 (pa_cons (pv 0) (pa_cons pe_int (pa_cons pe_int pa_nil)))))
        (pss_cons (ps_if (pt_cmpR op_isN (pv 3) pe_non (nomark _)) (pss_one (ps_ret pe_int)) pss_nil)
        (pss_cons (ps_if (pt_cmpR op_eq (pe_op op_modN (pv 3) pe_int) pe_int (nomark _)) (pss_one (ps_set (i := 1) sc_whole_determinant.nd rfl (.inl rfl) (pe_un un_neg (pv 1)))) pss_nil)
        (pss_cons (ps_set (i := 4) sc_whole_determinant.nd rfl (.inr rfl) (pe_ix ix_list (pv 0) (pv 3) (fun _ _ => rfl)))
        (pss_cons (ps_setLc (i := 0) (own := [("row", 5)]) (g := gName 5) (tt := tYes) (by rfl) sc_whole_determinant.nd rfl rfl (sw_true rfl rfl rfl (by decide +kernel)) (pi_list (pe_op op_cat (pe_slice sl_list (pv 0) po_none (po_some (pv 3))) (pe_slice sl_list (pv 0) (po_some (pe_op op_add (pv 3) pe_int)) po_none))) (blkOk_by (own := [("row", 5)]) (N := ["rows", "sign", "last", "place", "head", "row"]) (sc := defScope s_whole_determinant) (by decide +kernel)) (fun _ _ _ _ _ => (pg_name (i := 5) sc_whole_determinant.nd rfl (.inl rfl))) (fun _ _ _ _ _ => pts_nil) (fun _ _ _ _ _ => (pe_call G_smaller_row hr (by rfl) g_smaller_row F_smaller_row.kp b_smaller_row .nil pass0 (pa_cons (pv 5) (pa_cons (pv 4) (pa_cons (pv 2) pa_nil))))))
        (pss_one (ps_set (i := 2) sc_whole_determinant.nd rfl (.inr rfl) (pe_ix ix_list (pv 4) pe_int (fun _ _ => rfl))))))))))
        (pss_one (ps_ret (pe_op op_mulW (pv 1) (pe_ix ix_list (pe_ix ix_list (pv 0) pe_int (fun _ _ => rfl)) pe_int (fun _ _ => rfl)))))))), ?_⟩
    walk_at "go"
    refine while_by (fun σ H' => ∃ (j : Nat) (rv : V) (rows : List (List Int)) (sign last : Int), (∃ y3 y4 y5, σ = [some rv, some (.int sign), some (.int last), y3, y4, y5]) ∧ Same H H' ∧ ILs H' rv rows ∧ rows.length + j = n ∧ j < n ∧ (sign = 1 ∨ sign = -1) ∧ Bst A n j orig rows sign last) (fun σ H' => match σ with | some (.ref p) :: _ => (match H' p with | some (.lst xs) => xs.length | _ => 0) | _ => 0) ⟨0, v, orig, 1, 1, ⟨_, _, _, rfl⟩, Same.refl _, hv, by omega, by omega, .inl rfl, Bst.start hon hrow⟩ (fun σ H' hP => ?_) (fun σ H' Q1 Q2 f h => ?_)
    · obtain ⟨j, rv, rows, sign, last, ⟨y3, y4, y5, rfl⟩, sm, hIL, hlj, hj, hsg, bst⟩ := hP
      obtain ⟨p, xs, rfl, hp, hacc⟩ := hIL
      obtain ⟨hbr, hbl⟩ := bst.bound hA hj
      have hb' : ∀ r ∈ rows, ∀ x, (gt r x).natAbs < 2 ^ k := fun r hr x => Nat.lt_of_le_of_lt ((hbr r hr).2 x) hk
      have hlb : last.natAbs < 2 ^ k := Nat.lt_of_le_of_lt hbl hk
      walk_at "go"
      refine ⟨p, xs, rfl, .inl (SqL.of hp), ?_⟩
      walk_at "go"
      have hxl : xs.length = rows.length := hacc.1
      refine w_ite (fun hc => ?_) (fun hc => ?_)
      · walk_at "go"
        refine ⟨.ref p, rows, 0, 0, rfl, ⟨p, xs, rfl, hp, hacc⟩, fun r hr => by rw [(hbr r hr).1]; omega, by omega, by decide, fun hz => ?_, fun place head _ hh hne => ?_⟩
        · walk_at "go"
          refine ⟨rfl, ?_⟩
          walk_at "go"
          refine w_ite (fun _ => ?_) (fun hc => absurd rfl hc)
          walk_at "go"
          have e := bst.none hj fun i r hr => hz i r (Nat.zero_le _) hr
          have q' := q _ sm
          rw [e] at q'
          exact q'
        · have hpl := (List.getElem?_eq_some_iff.mp hh).1
          have hmem := List.mem_of_getElem? hh
          have gx : xs[place]? = some (xs[place]'(by omega)) := List.getElem?_eq_getElem _
          obtain ⟨ph, eph, hph⟩ := hacc.2 place _ _ gx hh
          rw [eph] at gx
          have step := bst.step (by omega) hh hne
          have hsg' : ∀ (b : Bool), (sg place = -1 ∧ b = true) ∨ (sg place = 1 ∧ b = false) → (if b = true then -sign else sign) = sign * sg place := fun b hb => by
            rcases hb with ⟨e1, e2⟩ | ⟨e1, e2⟩
            · rw [e1, e2, if_pos rfl]
              omega
            · rw [e1, e2, if_neg Bool.false_ne_true]
              omega
          walk_at "go"
          refine ⟨rfl, ?_⟩
          walk_at "go"
          refine w_ite (fun hc => by cases hc) (fun _ => ?_)
          walk_at "go"
          refine w_I (by decide) ?_
          walk_at "go"
          have go : ∀ (sign' : Int), sign' = sign * sg place → (sign' = 1 ∨ sign' = -1) → Bst A n (j + 1) orig ((rows.eraseIdx place).map (smF last head)) sign' (gt head 0) := fun s e _ => by rw [e]; exact step
          refine w_ite (fun hpo => ?_) (fun hpo => ?_)
          · have esg : sg place = -1 := by
              unfold sg
              rw [if_neg]
              rw [fmod_pos _ (by decide)] at hpo
              omega
            have hb2 := go (-sign) (by rw [esg]; omega) (by omega)
            have hs2 : -sign = 1 ∨ -sign = -1 := by omega
            walk_at "go"
            refine w_ixL hp (atI_nat gx) ?_
            have hph' := hph
            walk_at "go"
            refine w_slL hp fun q1 H1 hq1 s1 h1 => ?_
            rw [cut_take] at h1
            walk_at "go"
            refine w_slL (s1 _ _ hp) fun q2 H2 hq2 s2 h2 => ?_
            rw [show ((place : Int) + 1) = ((place + 1 : Nat) : Int) by omega, cut_drop] at h2
            refine w_cat (s2 _ _ h1) h2 (by rw [List.length_take, List.length_drop]; omega) ?_
            refine w_newO fun q3 H3 hq3 s3 h3 => ?_
            rw [erase_cut] at h3
            have s03 := s1.trans (s2.trans s3)
            have hacc3 : Acc IL H3 (xs.eraseIdx place) (rows.eraseIdx place) (rows.eraseIdx place).length := by
              have a1 := acc_cat (acc_take (k := place) hacc rfl) (acc_drop (k := place + 1) hacc rfl)
              rw [erase_cut, erase_cut] at a1
              exact a1.mono fun x a h => IL.sm h s03
            have hel : (rows.eraseIdx place).length = rows.length - 1 := List.length_eraseIdx_of_lt hpl
            walk_at "go"
            refine ⟨q3, rfl, ⟨_, SqL.of h3⟩, fun D hD => ?_⟩
            refine lc_list (xs := xs.eraseIdx place) (fun i H4 => Same H3 H4 ∧ ∃ zs, H4 D = some (.lst zs) ∧ Acc (ILn D) H4 zs ((rows.eraseIdx place).map (smF last head)) i) ⟨Same.updD (Same.refl H3) hD, [], upd_same, Acc.nil⟩ (fun i H4 _ hP => SqL.of (hP.1 _ _ h3)) (fun i x H4 hxi hP => ?_) (fun H4 hP => ?_)
            · obtain ⟨sm4, zs, hD4, hacc4⟩ := hP
              have hi : i < (rows.eraseIdx place).length := by
                have := (List.getElem?_eq_some_iff.mp hxi).1
                rw [hacc3.1] at this
                exact this
              have gr : (rows.eraseIdx place)[i]? = some (rows.eraseIdx place)[i] := List.getElem?_eq_getElem hi
              have hmi : (rows.eraseIdx place)[i] ∈ rows := List.mem_of_mem_eraseIdx (List.getElem_mem hi)
              walk_at "go"
              refine ⟨rfl, ?_⟩
              walk_at "go"
              refine ⟨x, .ref ph, _, head, last, k, rfl, (hacc3.2 i x _ hxi gr).sm sm4, ⟨ph, rfl, sm4 _ _ (s03 _ _ hph)⟩, by rw [(hbr _ hmi).1, (hbr _ hmem).1], by rw [(hbr _ hmi).1]; omega, by rw [(hbr _ hmi).1]; omega, hb' _ hmi, hb' _ hmem, bst.ne, hlb, hk0, hk4, fun p5 H5 s5 h5 hfr => ?_⟩
              have hD5 := s5 _ _ hD4
              have np : p5 ≠ D := fun e => by rw [e, hD4] at hfr; cases hfr
              refine ⟨zs, hD5, small1000 (by rw [hacc4.1]; omega), Same.updD (sm4.trans s5) hD, _, upd_same, ?_⟩
              exact (hacc4.mono fun x a h => (h.sm s5).upd).snoc (a := smF last head (rows.eraseIdx place)[i]) (by rw [List.getElem?_map, gr]; rfl) (ILn.upd ⟨p5, rfl, np, h5⟩)
            · obtain ⟨sm4, zs, hD4, hacc4⟩ := hP
              walk_at "go"
              refine w_ixL (sm4 _ _ (s03 _ _ hph)) (gt_int (j := 0) (by rw [(hbr _ hmem).1]; omega)) ?_
              walk_at "go"
              have hacc5 : Acc IL H4 zs ((rows.eraseIdx place).map (smF last head)) ((rows.eraseIdx place).map (smF last head)).length := by
                rw [List.length_map, ← hacc3.1]
                exact acc_imp hacc4 fun x a h => ILn.il h
              refine ⟨⟨j + 1, .ref D, _, _, _, ⟨_, _, _, rfl⟩, sm.trans (s03.trans sm4), ⟨D, zs, rfl, hD4, hacc5⟩, by rw [List.length_map]; omega, by omega, hs2, hb2⟩, ?_⟩
              show (match H4 D with | some (.lst xs) => xs.length | _ => 0) < (match H' p with | some (.lst xs) => xs.length | _ => 0)
              rw [hD4, hp]
              show zs.length < xs.length
              rw [hacc4.1, hacc3.1]
              omega
          · have esg : sg place = 1 := by
              unfold sg
              rw [if_pos]
              rw [fmod_pos _ (by decide)] at hpo
              omega
            have hb2 := go sign (by rw [esg]; omega) hsg
            have hs2 := hsg
            walk_at "go"
            refine w_ixL hp (atI_nat gx) ?_
            have hph' := hph
            walk_at "go"
            refine w_slL hp fun q1 H1 hq1 s1 h1 => ?_
            rw [cut_take] at h1
            walk_at "go"
            refine w_slL (s1 _ _ hp) fun q2 H2 hq2 s2 h2 => ?_
            rw [show ((place : Int) + 1) = ((place + 1 : Nat) : Int) by omega, cut_drop] at h2
            refine w_cat (s2 _ _ h1) h2 (by rw [List.length_take, List.length_drop]; omega) ?_
            refine w_newO fun q3 H3 hq3 s3 h3 => ?_
            rw [erase_cut] at h3
            have s03 := s1.trans (s2.trans s3)
            have hacc3 : Acc IL H3 (xs.eraseIdx place) (rows.eraseIdx place) (rows.eraseIdx place).length := by
              have a1 := acc_cat (acc_take (k := place) hacc rfl) (acc_drop (k := place + 1) hacc rfl)
              rw [erase_cut, erase_cut] at a1
              exact a1.mono fun x a h => IL.sm h s03
            have hel : (rows.eraseIdx place).length = rows.length - 1 := List.length_eraseIdx_of_lt hpl
            walk_at "go"
            refine ⟨q3, rfl, ⟨_, SqL.of h3⟩, fun D hD => ?_⟩
            refine lc_list (xs := xs.eraseIdx place) (fun i H4 => Same H3 H4 ∧ ∃ zs, H4 D = some (.lst zs) ∧ Acc (ILn D) H4 zs ((rows.eraseIdx place).map (smF last head)) i) ⟨Same.updD (Same.refl H3) hD, [], upd_same, Acc.nil⟩ (fun i H4 _ hP => SqL.of (hP.1 _ _ h3)) (fun i x H4 hxi hP => ?_) (fun H4 hP => ?_)
            · obtain ⟨sm4, zs, hD4, hacc4⟩ := hP
              have hi : i < (rows.eraseIdx place).length := by
                have := (List.getElem?_eq_some_iff.mp hxi).1
                rw [hacc3.1] at this
                exact this
              have gr : (rows.eraseIdx place)[i]? = some (rows.eraseIdx place)[i] := List.getElem?_eq_getElem hi
              have hmi : (rows.eraseIdx place)[i] ∈ rows := List.mem_of_mem_eraseIdx (List.getElem_mem hi)
              walk_at "go"
              refine ⟨rfl, ?_⟩
              walk_at "go"
              refine ⟨x, .ref ph, _, head, last, k, rfl, (hacc3.2 i x _ hxi gr).sm sm4, ⟨ph, rfl, sm4 _ _ (s03 _ _ hph)⟩, by rw [(hbr _ hmi).1, (hbr _ hmem).1], by rw [(hbr _ hmi).1]; omega, by rw [(hbr _ hmi).1]; omega, hb' _ hmi, hb' _ hmem, bst.ne, hlb, hk0, hk4, fun p5 H5 s5 h5 hfr => ?_⟩
              have hD5 := s5 _ _ hD4
              have np : p5 ≠ D := fun e => by rw [e, hD4] at hfr; cases hfr
              refine ⟨zs, hD5, small1000 (by rw [hacc4.1]; omega), Same.updD (sm4.trans s5) hD, _, upd_same, ?_⟩
              exact (hacc4.mono fun x a h => (h.sm s5).upd).snoc (a := smF last head (rows.eraseIdx place)[i]) (by rw [List.getElem?_map, gr]; rfl) (ILn.upd ⟨p5, rfl, np, h5⟩)
            · obtain ⟨sm4, zs, hD4, hacc4⟩ := hP
              walk_at "go"
              refine w_ixL (sm4 _ _ (s03 _ _ hph)) (gt_int (j := 0) (by rw [(hbr _ hmem).1]; omega)) ?_
              walk_at "go"
              have hacc5 : Acc IL H4 zs ((rows.eraseIdx place).map (smF last head)) ((rows.eraseIdx place).map (smF last head)).length := by
                rw [List.length_map, ← hacc3.1]
                exact acc_imp hacc4 fun x a h => ILn.il h
              refine ⟨⟨j + 1, .ref D, _, _, _, ⟨_, _, _, rfl⟩, sm.trans (s03.trans sm4), ⟨D, zs, rfl, hD4, hacc5⟩, by rw [List.length_map]; omega, by omega, hs2, hb2⟩, ?_⟩
              show (match H4 D with | some (.lst xs) => xs.length | _ => 0) < (match H' p with | some (.lst xs) => xs.length | _ => 0)
              rw [hD4, hp]
              show zs.length < xs.length
              rw [hacc4.1, hacc3.1]
              omega
      · have hr1 : rows.length = 1 := by omega
        have g0 : rows[0]? = some (rows[0]'(by omega)) := List.getElem?_eq_getElem _
        have gx0 : xs[0]? = some (xs[0]'(by omega)) := List.getElem?_eq_getElem _
        obtain ⟨p0, e0, hp0⟩ := hacc.2 0 _ _ gx0 g0
        rw [e0] at gx0
        have hm0 := List.mem_of_getElem? g0
        have e := bst.done (by omega) g0
        walk_at "go"
        refine w_ixL hp (atI_nat (j := 0) gx0) ?_
        walk_at "go"
        refine w_ixL hp0 (gt_int (j := 0) (by rw [(hbr _ hm0).1]; omega)) ?_
        walk_at "go"
        refine w_I (wide_mul (a := 1) (b := k) (by rcases hsg with rfl | rfl <;> decide) (hb' _ hm0 0) (by decide) hk0 (by omega)) ?_
        walk_at "go"
        rw [e]
        exact q _ sm
    · obtain ⟨v1, hv1, p', ys, e1, e2, i, j, e3, e4, k, e5, h2⟩ := h
      exact ⟨v1, hv1, p', ys, e1, e2, i, j, e3, e4, k, e5, f _ _ h2⟩
theorem ok__law_mixed {f : Addr} {fd : FuncData} (F : FnP K "_law_mixed" s__law_mixed f fd)
    {f__law_take : Addr} {fd__law_take : FuncData} (F__law_take : FnP K "_law_take" s__law_take f__law_take fd__law_take) (b__law_take : Binds K fd__law_take ["_law_bag_here", "_law_many"] []) (g__law_take : mg "_law_take" = some (.ref f__law_take)) (G__law_take : FnOk P w K mg base CX0 1 f__law_take fd__law_take ["_law_bag_here", "_law_many"] (sp__law_take K)) (m_list : mg "list" = none) (m_len : mg "len" = none) :
    FnOk P w K mg base CX0 2 f fd ["_law_bag_here", "_law_row_here"] (sp__law_mixed K) := by
  refine F.ok sc__law_mixed (fun vs H Q E h => ?_) (fun cdv A outer s H vs Q E hr h => ?_)
  · obtain ⟨b, p, xs, rfl, hb, hp, hpb, hl, q⟩ := h
    rfl
  · obtain ⟨b, p, xs, rfl, hb, hp, hpb, hl, q⟩ := h
    refine ⟨_, PSs.nox (pss_cons (ps_set (i := 2) sc__law_mixed.nd rfl (.inr rfl) (pe_callTy call_list_of (by rfl) m_list (by decide +kernel) (pa_cons (pv 1) pa_nil)))
        (pss_one (ps_ret (pe_lc (own := [("_law_thing", 3)]) (g := gName 3) (tt := tYes) (by rfl) sc__law_mixed.nd (pi_list (pv 1)) (blkOk_by (own := [("_law_thing", 3)]) (N := ["_law_bag_here", "_law_row_here", "_law_rest", "_law_thing"]) (sc := defScope s__law_mixed) (by decide +kernel)) (fun _ _ _ _ _ => (pg_name (i := 3) sc__law_mixed.nd rfl (.inl rfl))) (fun _ _ _ _ _ => pts_nil) (fun _ _ _ _ _ => (pe_bmK (K := K) (r := rPopAt) rfl PySem.F.plainAttrs_list PySem.F.slot_list_pop PySem.F.type_list_pop mt_popAt (pv 2) (pa_cons (pe_call G__law_take hr (by rfl) g__law_take F__law_take.kp b__law_take .nil pass0 (pa_cons (pv 0) (pa_cons (pe_callB (r := fun xs H Q => ∃ p ys, xs = [V.ref p] ∧ (SqL K H p ys ∨ SqT K H p ys) ∧ Q (V.int ((ys.length : Nat) : Int)) H) call_len_seq (by rfl) m_len (by decide +kernel) (pa_cons (pv 2) pa_nil)) pa_nil))) pa_nil))))))), ?_⟩
    walk_at "go"
    refine ⟨_, _, rfl, .inl (SqL.of hp), fun R hR => ?_⟩
    have s1 := same_upd (o := HO.lst xs) hR
    have h1 : (upd H R (.lst xs)) R = some (.lst xs) := upd_same
    generalize upd H R (.lst xs) = H1 at s1 h1 ⊢
    have nR := bag_ne hb hR
    walk_at "go"
    refine ⟨p, rfl, ⟨xs, SqL.of (s1 _ _ hp)⟩, fun D hD => ?_⟩
    have hD0 : H D = none := s1.free hD
    have nD := bag_ne hb hD0
    have nRD : R ≠ D := fresh_of h1 hD
    refine lc_list (xs := xs) (fun i H' => Mv b H H' ∧ Bag H' b ∧ ∃ rest ys : List V, H' R = some (.lst rest) ∧ H' D = some (.lst ys) ∧ ys.length = i ∧ rest.length + i = xs.length ∧ ∀ y, y ∈ xs ↔ y ∈ ys ∨ y ∈ rest) ⟨(Mv.same s1).updD hD0, (hb.same s1).upd nD, xs, [], by rw [upd_ne nRD]; exact h1, upd_same, rfl, rfl, fun y => ⟨fun z => .inr z, fun z => z.elim (fun w => nomatch w) id⟩⟩ (fun i H' _ hP => SqL.of (hP.1 _ _ hpb hp)) (fun i x H' hxi hP => ?_) (fun H' hP => ?_)
    · obtain ⟨mv, hbi, rest, ys, hR', hD', hly, hlr, hmem⟩ := hP
      have hi : i < xs.length := (List.getElem?_eq_some_iff.mp hxi).1
      walk_at "go"
      refine ⟨rfl, ?_⟩
      walk_at "go"
      refine ⟨.inl ⟨rfl, _, SqL.of hR'⟩, ?_⟩
      walk_at "go"
      refine ⟨R, rest, rfl, .inl (SqL.of hR'), ?_⟩
      walk_at "go"
      refine ⟨b, rest.length, rfl, by omega, by omega, hbi, fun H2 d h20 h21 m2 hb2 => ?_⟩
      have hR2 := m2 _ _ nR hR'
      have hD2 := m2 _ _ nD hD'
      obtain ⟨y, hy⟩ : ∃ y, rest[d.toNat]? = some y := ⟨_, List.getElem?_eq_getElem (by omega)⟩
      refine ⟨R, rest, d, d.toNat, y, rfl, rfl, hR2, by omega, by omega, sq_ix h20 h21, hy, ?_⟩
      have hD3 : (upd H2 R (.lst (rest.eraseIdx d.toNat))) D = some (.lst ys) := by rw [upd_ne (Ne.symm nRD)]; exact hD2
      refine ⟨ys, hD3, small1000 (by omega), (((mv.trans m2).updD hR).updD hD0), ((hb2.upd nR).upd nD), rest.eraseIdx d.toNat, ys ++ [y], by rw [upd_ne nRD, upd_same], upd_same, by rw [List.length_append, hly]; rfl, ?_, fun z => ?_⟩
      · rw [List.length_eraseIdx_of_lt (by omega)]
        omega
      · rw [hmem z, erase_mem hy z, List.mem_append, List.mem_singleton]
        constructor
        · rintro (h | h | h)
          · exact .inl (.inl h)
          · exact .inl (.inr h)
          · exact .inr h
        · rintro ((h | h) | h)
          · exact .inl h
          · exact .inr (.inl h)
          · exact .inr (.inr h)
    · obtain ⟨mv, hbi, rest, ys, hR', hD', hly, hlr, hmem⟩ := hP
      have hr0 : rest = [] := List.length_eq_zero_iff.mp (by omega)
      subst hr0
      walk_at "go"
      exact q D H' ys mv hbi hD' hD0 hly fun y => by
        rw [hmem y]
        exact ⟨.inl, fun z => z.elim id fun w => nomatch w⟩
theorem ok__law_low {f : Addr} {fd : FuncData} (F : FnP K "_law_low" s__law_low f fd)
    {f__law_shared : Addr} {fd__law_shared : FuncData} (F__law_shared : FnP K "_law_shared" s__law_shared f__law_shared fd__law_shared) (b__law_shared : Binds K fd__law_shared ["_law_one", "_law_other"] []) (g__law_shared : mg "_law_shared" = some (.ref f__law_shared)) (G__law_shared : FnOk P w K mg base CX0 1 f__law_shared fd__law_shared ["_law_one", "_law_other"] (sp__law_shared K)) (m_range : mg "range" = none) (m_int : mg "int" = none) :
    FnOk P w K mg base CX0 2 f fd ["_law_g", "_law_up", "_law_down"] (sp__law_low K) := by
  refine F.ok sc__law_low (fun vs H Q E h => ?_) (fun cdv A outer s H vs Q E hr h => ?_)
  · obtain ⟨g, u, d, rfl, hg0, hg, hd, hz, q⟩ := h
    rfl
  · obtain ⟨g, u, d, rfl, hg0, hg, hd, hz, q⟩ := h
    refine ⟨_, PSs.nox (pss_cons (ps_if (pt_cmpR op_gt (pv 0) pe_int (nomark _)) (pss_one (ps_for PassesOwn.never rfl (pi_range1 (by rfl) m_range (pa_cons (pv 0) pa_nil)) (pg_name (i := 3) sc__law_low.nd rfl (.inl rfl)) (pss_one (ps_if (pt_cmpR op_eq (pe_op op_modN (pe_op op_mul (pv 3) (pv 2)) (pv 0)) (pe_op op_modN (pv 1) (pv 0)) (nomark _)) (pss_one (ps_ret (pe_tup (pa_cons (pv 3) (pa_cons pe_int pa_nil))))) pss_nil)))) pss_nil)
        (pss_cons (ps_set (i := 4) sc__law_low.nd rfl (.inl rfl) (pe_op op_mul (pe_call G__law_shared hr (by rfl) g__law_shared F__law_shared.kp b__law_shared .nil pass0 (pa_cons (pv 1) (pa_cons (pv 2) pa_nil))) (pe_ix ix_list (pe_lst (pa_cons pe_int (pa_cons (pe_un un_neg pe_int) pa_nil))) (pe_callTy call_int1 (by rfl) m_int (by decide +kernel) (pa_cons (pe_cmpR op_lt (pv 2) pe_int (nomark _)) pa_nil)) (fun _ _ => rfl))))
        (pss_one (ps_ret (pe_tup (pa_cons (pe_op op_fdivZ (pv 1) (pv 4)) (pa_cons (pe_op op_fdivZ (pv 2) (pv 4)) pa_nil))))))), ?_⟩
    walk_at "go"
    refine w_ite (fun hc => ?a) (fun hc => ?b)
    case' a =>
      walk_at "go"
      refine ⟨by omega, by omega, ?_⟩
      refine for_range (fun i σ H' => H' = H ∧ (∃ y y2, σ = [some (.int g), some (.int u), some (.int d), y, y2]) ∧ ∀ j : Nat, j < i → ¬ ((j : Int) * d).fmod g = u.fmod g) ⟨rfl, ⟨none, none, rfl⟩, fun j hj => absurd hj (Nat.not_lt_zero _)⟩ (fun i σ H' hi hP => ?s1) (fun σ H' hP => ?s2)
    case' s1 =>
      obtain ⟨rfl, ⟨y, y2, rfl⟩, hn⟩ := hP
      walk_at "go"
      rw [Int.zero_add]
      refine w_I (.inl ⟨by omega, by omega⟩) ?_
      walk_at "go"
      refine w_I (by omega) ?_
      walk_at "go"
      refine w_I (by omega) ?_
      walk_at "go"
      refine w_ite (fun hc2 => ?_) (fun hc2 => ?_)
      · walk_at "go"
        refine w_new (by simp) fun p1 H1 hp1 s1 h1 => ?_
        refine q p1 H1 hp1 s1 ?_
        have e : lowF g u d = ((i : Int), 1) := by
          unfold lowF
          rw [lowI_some hi hc2 hn]
        rw [e]
        exact h1
      · walk_at "go"
        refine ⟨rfl, ⟨_, _, rfl⟩, fun j hj => ?_⟩
        by_cases e : j = i
        · rw [e]; exact hc2
        · exact hn j (by omega)
    case' s2 =>
      obtain ⟨rfl, ⟨y, y2, rfl⟩, hn⟩ := hP
      have hI : lowI g u d = none := lowI_none hn
    case' b =>
      have hI : lowI g u d = none := lowI_none (fun j hj => by omega)
    all_goals
      walk_at "go"
      refine ⟨u, d, rfl, ?_⟩
      walk_at "go"
      refine w_new (by simp) fun p1 H1 hp1 s1 h1 => ?_
      walk_at "go"
      refine .inr ⟨_, rfl, ?_⟩
      refine w_ixL h1 (low_sign d) ?_
      refine w_I (.inr (by split <;> decide)) ?_
      walk_at "go"
      refine w_I (low_cb hd hz _) ?_
      walk_at "go"
      refine w_I (low_cb hd hz _) ?_
      walk_at "go"
      refine w_new (by simp) fun p2 H2 hp2 s2 h2 => ?_
      refine q p2 H2 (s1.free hp2) (s1.trans s2) ?_
      have e : lowF g u d = (u.fdiv (lowC u d), d.fdiv (lowC u d)) := by
        unfold lowF
        rw [hI]
      rw [e]
      exact h2
theorem ok__law_is_number {f : Addr} {fd : FuncData} (F : FnP K "_law_is_number" s__law_is_number f fd)
    {f__law_shared : Addr} {fd__law_shared : FuncData} (F__law_shared : FnP K "_law_shared" s__law_shared f__law_shared fd__law_shared) (b__law_shared : Binds K fd__law_shared ["_law_one", "_law_other"] []) (g__law_shared : mg "_law_shared" = some (.ref f__law_shared)) (G__law_shared : FnOk P w K mg base CX0 1 f__law_shared fd__law_shared ["_law_one", "_law_other"] (sp__law_shared K))
    {f__law_is_whole : Addr} {fd__law_is_whole : FuncData} (F__law_is_whole : FnP K "_law_is_whole" s__law_is_whole f__law_is_whole fd__law_is_whole) (b__law_is_whole : Binds K fd__law_is_whole ["_law_thing"] []) (g__law_is_whole : mg "_law_is_whole" = some (.ref f__law_is_whole)) (G__law_is_whole : FnOk P w K mg base CX0 1 f__law_is_whole fd__law_is_whole ["_law_thing"] (sp__law_is_whole K)) (m_isinstance : mg "isinstance" = none) (m_tuple : mg "tuple" = none) (m_len : mg "len" = none) (m_all : mg "all" = none) :
    FnOk P w K mg base CX0 2 f fd ["_law_g", "_law_thing"] (sp__law_is_number K) := by
  refine F.ok sc__law_is_number (fun vs H Q E h => ?_) (fun cdv A outer s H vs Q E hr h => ?_)
  · obtain ⟨g, v, kb, nb, rfl, hg0, hv, q⟩ := h
    rfl
  · obtain ⟨g, v, kb, nb, rfl, hg0, hv, q⟩ := h
    refine ⟨_, PSs.nox (pss_cons (ps_if (PW.pt (pw_or (pt_not (pt_val (pe_callB call_isi (by rfl) m_isinstance (by decide +kernel) (pa_cons (pv 1) (pa_cons (pe_bltn (v := .ty "tuple") (by rfl) m_tuple (by decide +kernel) rfl) pa_nil))))) (pw_or (pt_cmpR op_ne (pe_callB call_len_seq (by rfl) m_len (by decide +kernel) (pa_cons (pv 1) pa_nil)) pe_int (nomark _)) (pw_or1 (pt_not (pt_val (pe_callB (cr_all rfl) (by rfl) m_all (by decide +kernel) (pa_cons (pe_lc (own := [("_law_one", 2)]) (g := gName 2) (tt := tYes) (by rfl) sc__law_is_number.nd (pi_tup (pv 1)) (blkOk_by (own := [("_law_one", 2)]) (N := ["_law_g", "_law_thing", "_law_one"]) (sc := defScope s__law_is_number) (by decide +kernel)) (fun _ _ _ _ _ => (pg_name (i := 2) sc__law_is_number.nd rfl (.inl rfl))) (fun _ _ _ _ _ => pts_nil) (fun _ _ _ _ _ => (pe_call G__law_is_whole hr (by rfl) g__law_is_whole F__law_is_whole.kp b__law_is_whole .nil pass0 (pa_cons (pv 2) pa_nil)))) pa_nil)))))))) (pss_one (ps_ret pe_bl)) pss_nil)
        (pss_cons (ps_if (pt_cmpR op_gt (pv 0) pe_int (nomark _)) (pss_one (ps_ret (pe_and (pe_chain op_le op_lt pe_int (pe_ix ix_tup (pv 1) pe_int (fun _ _ => rfl)) (pv 0)) (pe_one (pe_cmpR op_eq (pe_ix ix_tup (pv 1) pe_int (fun _ _ => rfl)) pe_int (nomark _)))))) pss_nil)
        (pss_one (ps_ret (pe_and (pe_cmpR op_gt (pe_ix ix_tup (pv 1) pe_int (fun _ _ => rfl)) pe_int (nomark _)) (pe_one (pe_cmpR op_eq (pe_call G__law_shared hr (by rfl) g__law_shared F__law_shared.kp b__law_shared .nil pass0 (pa_cons (pe_ix ix_tup (pv 1) pe_int (fun _ _ => rfl)) (pa_cons (pe_ix ix_tup (pv 1) pe_int (fun _ _ => rfl)) pa_nil))) pe_int (nomark _)))))))), ?_⟩
    walk_at "go"
    refine tb_tup hv (fun p xs e hp hz hx => ?_) (fun hn => ?_)
    · subst e
      rw [numOf_tup hp] at q
      walk_at "go"
      refine iteF ?_
      walk_at "go"
      refine ⟨p, xs, rfl, .inr (SqT.of hp), ?_⟩
      walk_at "go"
      refine w_iteN (fun hl => ?_) (fun hl => ?_)
      · walk_at "go"
        rw [numOk_len (by omega)] at q
        exact q _ (Same.refl _)
      · obtain ⟨t, b, rfl⟩ : ∃ t b, xs = [t, b] := by
          match xs, hl with
          | [t, b], _ => exact ⟨t, b, rfl⟩
          | [], h => simp at h
          | [_], h => simp at h
          | _ :: _ :: _ :: _, h => simp at h; omega
        walk_at "go"
        refine ⟨p, rfl, ⟨_, SqT.of hp⟩, fun D hD => ?_⟩
        refine lc_tup (xs := [t, b]) (fun i H' => Same H H' ∧ H' D = some (.lst (([wholeB t, wholeB b].take i).map V.bl))) ⟨Same.updD (Same.refl H) hD, upd_same⟩ (fun i H' _ hP => SqT.of (hP.1 _ _ hp)) (fun i x H' hxi hP => ?_) (fun H' hP => ?_)
        · obtain ⟨sm, hD'⟩ := hP
          have hi : i < 2 := (List.getElem?_eq_some_iff.mp hxi).1
          walk_at "go"
          refine ⟨rfl, ?_⟩
          walk_at "go"
          refine ⟨x, rfl, ((hx x (List.mem_of_getElem? hxi)).kd (Kd.of sm)).tv, ?_⟩
          refine ⟨_, hD', ?_, Same.updD sm hD, ?_⟩
          · rw [List.length_map, List.length_take]
            exact small1000 (by omega)
          · rw [upd_same]
            match i, hi, hxi with
            | 0, _, hxi =>
              cases Option.some.inj hxi
              rfl
            | 1, _, hxi =>
              cases Option.some.inj hxi
              rfl
        · obtain ⟨sm, hD'⟩ := hP
          walk_at "go"
          refine ⟨D, [wholeB t, wholeB b], rfl, SqL.of hD', ?_⟩
          have ea : [wholeB t, wholeB b].all id = (wholeB t && wholeB b) := by
            show (wholeB t && (wholeB b && true)) = _
            rw [Bool.and_true]
          rw [ea]
          walk_at "go"
          refine w_iteBN (fun hw => ?_) (fun hw => ?_)
          · walk_at "go"
            have ef : numOk g [t, b] = false := by
              cases h : wholeB t with
              | false => exact numOk_l h
              | true =>
                rw [h] at hw
                exact numOk_r hw
            rw [ef] at q
            exact q _ sm
          · rw [Bool.and_eq_true] at hw
            obtain ⟨t, rfl⟩ := whole_int hw.1
            obtain ⟨b, rfl⟩ := whole_int hw.2
            have hp' := sm _ _ hp
            walk_at "go"
            refine w_ite (fun hg => ?_) (fun hg => ?_)
            · rw [numOk_g (by omega)] at q
              walk_at "go"
              refine w_ite (fun h0 => ?_) (fun h0 => ?_)
              · walk_at "go"
                refine w_ite (fun h1 => ?_) (fun h1 => ?_)
                · walk_at "go"
                  rw [decide_eq_true h0, decide_eq_true h1] at q
                  exact q _ sm
                · rw [decide_eq_true h0, decide_eq_false h1] at q
                  exact q _ sm
              · walk_at "go"
                rw [decide_eq_false h0] at q
                exact q _ sm
            · have e0 : g = 0 := by omega
              subst e0
              rw [numOk_0] at q
              walk_at "go"
              refine w_ite (fun hb => ?_) (fun hb => ?_)
              · walk_at "go"
                refine ⟨t, b, rfl, ?_⟩
                walk_at "go"
                rw [decide_eq_true (show 1 ≤ b by omega)] at q
                exact q _ sm
              · rw [decide_eq_false (show ¬ 1 ≤ b by omega)] at q
                exact q _ sm
    · rw [numOf_no hn] at q
      walk_at "go"
      refine iteT ?_
      walk_at "go"
      exact q _ (Same.refl _)
theorem ok__law_ground {f : Addr} {fd : FuncData} (F : FnP K "_law_ground" s__law_ground f fd)
    {f__law_take : Addr} {fd__law_take : FuncData} (F__law_take : FnP K "_law_take" s__law_take f__law_take fd__law_take) (b__law_take : Binds K fd__law_take ["_law_bag_here", "_law_many"] []) (g__law_take : mg "_law_take" = some (.ref f__law_take)) (G__law_take : FnOk P w K mg base CX0 1 f__law_take fd__law_take ["_law_bag_here", "_law_many"] (sp__law_take K)) :
    FnOk P w K mg base CX0 2 f fd ["_law_bag_here"] (sp__law_ground K) := by
  refine F.ok sc__law_ground (fun vs H Q E h => ?_) (fun cdv A outer s H vs Q E hr h => ?_)
  · obtain ⟨b, rfl, hb, q⟩ := h
    rfl
  · obtain ⟨b, rfl, hb, q⟩ := h
    refine ⟨_, PSs.nox (pss_one (ps_ret (pe_ix ix_list (pe_lst (pa_cons pe_int (pa_cons pe_int (pa_cons pe_int (pa_cons pe_int (pa_cons pe_int (pa_cons pe_int (pa_cons pe_int (pa_cons (pe_ix ix_list (pe_lst (pa_cons pe_int (pa_cons pe_int (pa_cons pe_int pa_nil)))) (pe_call G__law_take hr (by rfl) g__law_take F__law_take.kp b__law_take .nil pass0 (pa_cons (pv 0) (pa_cons pe_int pa_nil))) (fun _ _ => rfl)) pa_nil))))))))) (pe_call G__law_take hr (by rfl) g__law_take F__law_take.kp b__law_take .nil pass0 (pa_cons (pv 0) (pa_cons pe_int pa_nil))) (fun _ _ => rfl)))), ?_⟩
    walk_at "go"
    refine w_new (by simp) fun p1 H1 hp1 s1 h1 => ?_
    walk_at "go"
    refine ⟨b, 3, rfl, by decide, by decide, hb.same s1, fun H2 d hd0 hd1 mv2 hb2 => ?_⟩
    obtain ⟨m, em, hm⟩ := gr_three hd0 hd1
    have n1 : p1 ≠ b := fun e => by
      subst e
      obtain ⟨A, B, h2, _⟩ := hb
      rw [hp1] at h2
      cases h2
    refine w_ixL (mv2 _ _ n1 h1) em ?_
    walk_at "go"
    refine w_new (by simp) fun p3 H3 hp3 s3 h3 => ?_
    walk_at "go"
    refine ⟨b, 8, rfl, by decide, by decide, hb2.same s3, fun H4 e he0 he1 mv4 hb4 => ?_⟩
    obtain ⟨g, eg, hg⟩ := gr_eight he0 he1 hm
    have n3 : p3 ≠ b := fun e => by
      subst e
      obtain ⟨A, B, h2, _⟩ := hb2
      rw [hp3] at h2
      cases h2
    refine w_ixL (mv4 _ _ n3 h3) eg ?_
    exact q _ _ hg ((Mv.same s1).trans (mv2.trans ((Mv.same s3).trans mv4))) hb4
theorem ok__law_letters {f : Addr} {fd : FuncData} (F : FnP K "_law_letters" s__law_letters f fd)
    {f__law_take : Addr} {fd__law_take : FuncData} (F__law_take : FnP K "_law_take" s__law_take f__law_take fd__law_take) (b__law_take : Binds K fd__law_take ["_law_bag_here", "_law_many"] []) (g__law_take : mg "_law_take" = some (.ref f__law_take)) (G__law_take : FnOk P w K mg base CX0 1 f__law_take fd__law_take ["_law_bag_here", "_law_many"] (sp__law_take K)) (m_int : mg "int" = none) :
    FnOk P w K mg base CX0 2 f fd ["_law_bag_here", "_law_g"] (sp__law_letters K) := by
  refine F.ok sc__law_letters (fun vs H Q E h => ?_) (fun cdv A outer s H vs Q E hr h => ?_)
  · obtain ⟨b, g, rfl, hgr, hb, q⟩ := h
    rfl
  · obtain ⟨b, g, rfl, hgr, hb, q⟩ := h
    refine ⟨_, PSs.nox (pss_one (ps_ret (pe_ix ix_list (pe_lst (pa_cons pe_int (pa_cons pe_int (pa_cons pe_int (pa_cons pe_int (pa_cons pe_int (pa_cons pe_int (pa_cons pe_int (pa_cons (pe_op op_add pe_int (pe_callTy call_int1 (by rfl) m_int (by decide +kernel) (pa_cons (pe_cmpR op_eq (pv 1) pe_int (nomark _)) pa_nil))) pa_nil))))))))) (pe_call G__law_take hr (by rfl) g__law_take F__law_take.kp b__law_take .nil pass0 (pa_cons (pv 0) (pa_cons pe_int pa_nil))) (fun _ _ => rfl)))), ?_⟩
    walk_at "go"
    refine .inr ⟨_, rfl, ?_⟩
    walk_at "go"
    refine w_new (by simp) fun p1 H1 hp1 s1 h1 => ?_
    have nb := bag_ne hb hp1
    walk_at "go"
    refine ⟨b, 8, rfl, by decide, by decide, hb.same s1, fun H2 d h20 h21 m2 hb2 => ?_⟩
    have hE : ∃ e : Int, (4 + (if decide (g = 0) = true then (1 : Int) else 0)) = e ∧ (e = 4 ∨ e = 5) ∧ (g ≠ 0 → e = 4) := by
      by_cases h : g = 0
      · exact ⟨5, by rw [decide_eq_true h]; rfl, .inr rfl, fun z => absurd h z⟩
      · exact ⟨4, by rw [decide_eq_false h]; rfl, .inl rfl, fun _ => rfl⟩
    obtain ⟨e, he1, he2, he3⟩ := hE
    rw [he1] at h1
    obtain ⟨m, hm, hm1, hm2⟩ := pick_let h20 h21 he2
    refine w_ixL (m2 _ _ nb h1) hm ?_
    exact q _ m hm1 (by omega) (fun z => by have := he3 z; omega) ((Mv.same s1).trans m2) hb2
theorem ok__law_odd {f : Addr} {fd : FuncData} (F : FnP K "_law_odd" s__law_odd f fd)
    {f__law_take : Addr} {fd__law_take : FuncData} (F__law_take : FnP K "_law_take" s__law_take f__law_take fd__law_take) (b__law_take : Binds K fd__law_take ["_law_bag_here", "_law_many"] []) (g__law_take : mg "_law_take" = some (.ref f__law_take)) (G__law_take : FnOk P w K mg base CX0 1 f__law_take fd__law_take ["_law_bag_here", "_law_many"] (sp__law_take K)) :
    FnOk P w K mg base CX0 2 f fd ["_law_bag_here"] (sp__law_odd K) := by
  refine F.ok sc__law_odd (fun vs H Q E h => ?_) (fun cdv A outer s H vs Q E hr h => ?_)
  · obtain ⟨b, rfl, hb, q⟩ := h
    rfl
  · obtain ⟨b, rfl, hb, q⟩ := h
    refine ⟨_, PSs.nox (pss_cons (ps_set (i := 1) sc__law_odd.nd rfl (.inl rfl) (pe_lst (pa_cons pe_non (pa_cons pe_bl (pa_cons pe_bl (pa_cons pe_str (pa_cons pe_str (pa_cons (pe_un un_neg pe_int) (pa_cons pe_int (pa_cons pe_int (pa_cons (pe_op op_pow pe_int pe_int) (pa_cons (pe_tup pa_nil) (pa_cons (pe_lst pa_nil) (pa_cons (pe_lst (pa_cons pe_int pa_nil)) (pa_cons (pe_tup (pa_cons pe_int (pa_cons pe_int pa_nil))) (pa_cons (pe_tup (pa_cons pe_int (pa_cons pe_int pa_nil))) (pa_cons (pe_tup (pa_cons pe_int (pa_cons pe_int pa_nil))) (pa_cons (pe_tup (pa_cons pe_bl (pa_cons pe_int pa_nil))) (pa_cons (pe_tup (pa_cons pe_int (pa_cons (pe_un un_neg pe_int) pa_nil))) (pa_cons (pe_tup (pa_cons pe_int pa_nil)) (pa_cons (pe_lst (pa_cons pe_int (pa_cons pe_int pa_nil))) (pa_cons (pe_tup (pa_cons pe_int (pa_cons pe_int (pa_cons pe_int pa_nil)))) pa_nil))))))))))))))))))))))
        (pss_one (ps_ret (pe_ix ix_list (pv 1) (pe_call G__law_take hr (by rfl) g__law_take F__law_take.kp b__law_take .nil pass0 (pa_cons (pv 0) (pa_cons pe_int pa_nil))) (fun _ _ => rfl))))), ?_⟩
    walk_at "go"
    refine w_Iv ⟨by decide, by decide, by decide⟩ rfl ?_
    walk_at "go"
    refine w_new (by simp) fun p1 H1 hp1 s1 h1 => ?_
    have t1 : TB 200 1 H1 (.ref p1) := TB.tupA h1 (by simp) (by simp [AtB])
    walk_at "go"
    refine w_new (by simp) fun p2 H2 hp2 s2 h2 => ?_
    have t2 : TB 200 1 H2 (.ref p2) := TB.lst h2
    walk_at "go"
    refine w_new (by simp) fun p3 H3 hp3 s3 h3 => ?_
    have t3 : TB 200 1 H3 (.ref p3) := TB.lst h3
    walk_at "go"
    refine w_new (by simp) fun p4 H4 hp4 s4 h4 => ?_
    have t4 : TB 200 1 H4 (.ref p4) := TB.tupA h4 (by simp) (by simp [AtB])
    walk_at "go"
    refine w_new (by simp) fun p5 H5 hp5 s5 h5 => ?_
    have t5 : TB 200 1 H5 (.ref p5) := TB.tupA h5 (by simp) (by simp [AtB])
    walk_at "go"
    refine w_new (by simp) fun p6 H6 hp6 s6 h6 => ?_
    have t6 : TB 200 1 H6 (.ref p6) := TB.tupA h6 (by simp) (by simp [AtB])
    walk_at "go"
    refine w_new (by simp) fun p7 H7 hp7 s7 h7 => ?_
    have t7 : TB 200 1 H7 (.ref p7) := TB.tupA h7 (by simp) (by simp [AtB])
    walk_at "go"
    refine w_new (by simp) fun p8 H8 hp8 s8 h8 => ?_
    have t8 : TB 200 1 H8 (.ref p8) := TB.tupA h8 (by simp) (by simp [AtB])
    walk_at "go"
    refine w_new (by simp) fun p9 H9 hp9 s9 h9 => ?_
    have t9 : TB 200 1 H9 (.ref p9) := TB.tupA h9 (by simp) (by simp [AtB])
    walk_at "go"
    refine w_new (by simp) fun p10 H10 hp10 s10 h10 => ?_
    have t10 : TB 200 1 H10 (.ref p10) := TB.lst h10
    walk_at "go"
    refine w_new (by simp) fun p11 H11 hp11 s11 h11 => ?_
    have t11 : TB 200 1 H11 (.ref p11) := TB.tupA h11 (by simp) (by simp [AtB])
    walk_at "go"
    refine w_new (by simp) fun L HL hL sL hLL => ?_
    have sA := (s1.trans (s2.trans (s3.trans (s4.trans (s5.trans (s6.trans (s7.trans (s8.trans (s9.trans (s10.trans (s11.trans sL)))))))))))
    walk_at "go"
    refine ⟨b, 20, rfl, by decide, by decide, hb.same sA, fun HZ d hd0 hd1 mZ hbZ => ?_⟩
    have nL : L ≠ b := bag_ne hb ((Same.free ((s1.trans (s2.trans (s3.trans (s4.trans (s5.trans (s6.trans (s7.trans (s8.trans (s9.trans (s10.trans s11))))))))))) hL))
    obtain ⟨v, ev, hv⟩ := atI_some hd0 (show d < (([V.non, V.bl true, V.bl false, V.str (Str.ofString "1"), V.str (Str.ofString ""), V.int (-1), V.int 0, V.int 1, V.int (10 ^ (59 : Nat)), V.ref p1, V.ref p2, V.ref p3, V.ref p4, V.ref p5, V.ref p6, V.ref p7, V.ref p8, V.ref p9, V.ref p10, V.ref p11] : List V).length : Int) from hd1)
    refine w_ixL (mZ _ _ nL hLL) ev ?_
    have hT : TB 200 1 HL v := by
      clear sA
      simp only [List.mem_cons, List.not_mem_nil, or_false] at hv
      rcases hv with rfl | rfl | rfl | rfl | rfl | rfl | rfl | rfl | rfl | rfl | rfl | rfl | rfl | rfl | rfl | rfl | rfl | rfl | rfl | rfl
      iterate 5 exact .inl True.intro
      iterate 3 exact .inl (by unfold AtB; decide +kernel)
      exact .inl (show ((10 : Int) ^ 59).natAbs < 2 ^ 200 by decide +kernel)
      all_goals walk_at "tr"
    have hN : ∀ g, (g = 0 ∨ Gr5 g) → numOf HL g v = false := fun g hg => by
      clear hT
      simp only [List.mem_cons, List.not_mem_nil, or_false] at hv
      rcases hv with rfl | rfl | rfl | rfl | rfl | rfl | rfl | rfl | rfl | rfl | rfl | rfl | rfl | rfl | rfl | rfl | rfl | rfl | rfl | rfl
      iterate 9 rfl
      · rw [numOf_tup (sL _ _ (s11 _ _ (s10 _ _ (s9 _ _ (s8 _ _ (s7 _ _ (s6 _ _ (s5 _ _ (s4 _ _ (s3 _ _ (s2 _ _ h1)))))))))))]
        exact numOk_len (by decide)
      · exact numOf_lst (sL _ _ (s11 _ _ (s10 _ _ (s9 _ _ (s8 _ _ (s7 _ _ (s6 _ _ (s5 _ _ (s4 _ _ (s3 _ _ h2))))))))))
      · exact numOf_lst (sL _ _ (s11 _ _ (s10 _ _ (s9 _ _ (s8 _ _ (s7 _ _ (s6 _ _ (s5 _ _ (s4 _ _ h3)))))))))
      · rw [numOf_tup (sL _ _ (s11 _ _ (s10 _ _ (s9 _ _ (s8 _ _ (s7 _ _ (s6 _ _ (s5 _ _ h4))))))))]
        exact bad_num hg (by decide) (by decide)
      · rw [numOf_tup (sL _ _ (s11 _ _ (s10 _ _ (s9 _ _ (s8 _ _ (s7 _ _ (s6 _ _ h5)))))))]
        exact bad_num hg (by decide) (by decide)
      · rw [numOf_tup (sL _ _ (s11 _ _ (s10 _ _ (s9 _ _ (s8 _ _ (s7 _ _ h6))))))]
        exact bad_num hg (by decide) (by decide)
      · rw [numOf_tup (sL _ _ (s11 _ _ (s10 _ _ (s9 _ _ (s8 _ _ h7)))))]
        exact numOk_l rfl
      · rw [numOf_tup (sL _ _ (s11 _ _ (s10 _ _ (s9 _ _ h8))))]
        exact bad_num hg (by decide) (by decide)
      · rw [numOf_tup (sL _ _ (s11 _ _ (s10 _ _ h9)))]
        exact numOk_len (by decide)
      · exact numOf_lst (sL _ _ (s11 _ _ h10))
      · rw [numOf_tup (sL _ _ h11)]
        exact numOk_len (by decide)
    exact q _ _ (hT.kd' (Kd.mv mZ (hb.same sA) hbZ)) (fun g hg => (numOf_tb hT (Kd.mv mZ (hb.same sA) hbZ)).trans (hN g hg)) ((Mv.same sA).trans mZ) hbZ
theorem ok_plus {f : Addr} {fd : FuncData} (F : FnP K "plus" s_plus f fd)
    {f_lowest : Addr} {fd_lowest : FuncData} (F_lowest : FnP K "lowest" s_lowest f_lowest fd_lowest) (b_lowest : Binds K fd_lowest ["ground", "top", "bottom"] []) (g_lowest : mg "lowest" = some (.ref f_lowest)) (G_lowest : FnOk P w K mg base CX0 2 f_lowest fd_lowest ["ground", "top", "bottom"] (sp_lowest K)) :
    FnOk P w K mg base CX0 3 f fd ["ground", "x", "y"] (sp_plus K) := by
  refine F.ok sc_plus (fun vs H Q E h => ?_) (fun cdv A outer s H vs Q E hr h => ?_)
  · obtain ⟨g, x, y, a, c, k, l, rfl, hg, hx, hy, ha, hc, hk4, hl4, hk, hl, q⟩ := h
    rfl
  · obtain ⟨g, x, y, a, c, k, l, rfl, hg, hx, hy, ha, hc, hk4, hl4, hk, hl, q⟩ := h
    refine ⟨_, PSs.nox (pss_one (ps_ret (pe_call G_lowest hr (by rfl) g_lowest F_lowest.kp b_lowest .nil pass0 (pa_cons (pv 0) (pa_cons (pe_op op_add (pe_op op_mulW (pe_ix ix_tup (pv 1) pe_int (fun _ _ => rfl)) (pe_ix ix_tup (pv 2) pe_int (fun _ _ => rfl))) (pe_op op_mulW (pe_ix ix_tup (pv 2) pe_int (fun _ _ => rfl)) (pe_ix ix_tup (pv 1) pe_int (fun _ _ => rfl)))) (pa_cons (pe_op op_mulW (pe_ix ix_tup (pv 1) pe_int (fun _ _ => rfl)) (pe_ix ix_tup (pv 2) pe_int (fun _ _ => rfl))) pa_nil)))))), ?_⟩
    obtain ⟨px, rfl, hpx⟩ := hx
    obtain ⟨py, rfl, hpy⟩ := hy
    walk_at "go"
    refine w_I (wide_mul ha.2.1 hc.2.2 (by omega) (by omega) (by omega)) ?_
    walk_at "go"
    refine w_I (wide_mul hc.2.1 ha.2.2 (by omega) (by omega) (by omega)) ?_
    walk_at "go"
    refine w_I (wide_mul ha.2.2 hc.2.2 (by omega) (by omega) (by omega)) ?_
    walk_at "go"
    exact ⟨g, _, _, rfl, low_pre hg (Int.mul_ne_zero (by have := ha.pos; omega) (by have := hc.pos; omega)) (TN.dn hg ha hc) (sum_lt (wide_lt ha.2.1 hc.2.2) (by have := wide_lt hc.2.1 ha.2.2; rwa [Nat.add_comm] at this)) (Nat.lt_of_lt_of_le (wide_lt ha.2.2 hc.2.2) (Nat.pow_le_pow_right (by decide) (Nat.le_succ _))) (by omega), fun p H1 hp s1 h1 => q p H1 hp s1 h1⟩
theorem ok_less {f : Addr} {fd : FuncData} (F : FnP K "less" s_less f fd)
    {f_lowest : Addr} {fd_lowest : FuncData} (F_lowest : FnP K "lowest" s_lowest f_lowest fd_lowest) (b_lowest : Binds K fd_lowest ["ground", "top", "bottom"] []) (g_lowest : mg "lowest" = some (.ref f_lowest)) (G_lowest : FnOk P w K mg base CX0 2 f_lowest fd_lowest ["ground", "top", "bottom"] (sp_lowest K)) :
    FnOk P w K mg base CX0 3 f fd ["ground", "x", "y"] (sp_less K) := by
  refine F.ok sc_less (fun vs H Q E h => ?_) (fun cdv A outer s H vs Q E hr h => ?_)
  · obtain ⟨g, x, y, a, c, k, l, rfl, hg, hx, hy, ha, hc, hk4, hl4, hk, hl, q⟩ := h
    rfl
  · obtain ⟨g, x, y, a, c, k, l, rfl, hg, hx, hy, ha, hc, hk4, hl4, hk, hl, q⟩ := h
    refine ⟨_, PSs.nox (pss_one (ps_ret (pe_call G_lowest hr (by rfl) g_lowest F_lowest.kp b_lowest .nil pass0 (pa_cons (pv 0) (pa_cons (pe_op op_sub (pe_op op_mulW (pe_ix ix_tup (pv 1) pe_int (fun _ _ => rfl)) (pe_ix ix_tup (pv 2) pe_int (fun _ _ => rfl))) (pe_op op_mulW (pe_ix ix_tup (pv 2) pe_int (fun _ _ => rfl)) (pe_ix ix_tup (pv 1) pe_int (fun _ _ => rfl)))) (pa_cons (pe_op op_mulW (pe_ix ix_tup (pv 1) pe_int (fun _ _ => rfl)) (pe_ix ix_tup (pv 2) pe_int (fun _ _ => rfl))) pa_nil)))))), ?_⟩
    obtain ⟨px, rfl, hpx⟩ := hx
    obtain ⟨py, rfl, hpy⟩ := hy
    walk_at "go"
    refine w_I (wide_mul ha.2.1 hc.2.2 (by omega) (by omega) (by omega)) ?_
    walk_at "go"
    refine w_I (wide_mul hc.2.1 ha.2.2 (by omega) (by omega) (by omega)) ?_
    walk_at "go"
    refine w_I (wide_mul ha.2.2 hc.2.2 (by omega) (by omega) (by omega)) ?_
    walk_at "go"
    exact ⟨g, _, _, rfl, low_pre hg (Int.mul_ne_zero (by have := ha.pos; omega) (by have := hc.pos; omega)) (TN.dn hg ha hc) (dif_lt (wide_lt ha.2.1 hc.2.2) (by have := wide_lt hc.2.1 ha.2.2; rwa [Nat.add_comm] at this)) (Nat.lt_of_lt_of_le (wide_lt ha.2.2 hc.2.2) (Nat.pow_le_pow_right (by decide) (Nat.le_succ _))) (by omega), fun p H1 hp s1 h1 => q p H1 hp s1 h1⟩
theorem ok_times {f : Addr} {fd : FuncData} (F : FnP K "times" s_times f fd)
    {f_lowest : Addr} {fd_lowest : FuncData} (F_lowest : FnP K "lowest" s_lowest f_lowest fd_lowest) (b_lowest : Binds K fd_lowest ["ground", "top", "bottom"] []) (g_lowest : mg "lowest" = some (.ref f_lowest)) (G_lowest : FnOk P w K mg base CX0 2 f_lowest fd_lowest ["ground", "top", "bottom"] (sp_lowest K)) :
    FnOk P w K mg base CX0 3 f fd ["ground", "x", "y"] (sp_times K) := by
  refine F.ok sc_times (fun vs H Q E h => ?_) (fun cdv A outer s H vs Q E hr h => ?_)
  · obtain ⟨g, x, y, a, c, k, l, rfl, hg, hx, hy, ha, hc, hk4, hl4, hk, hl, q⟩ := h
    rfl
  · obtain ⟨g, x, y, a, c, k, l, rfl, hg, hx, hy, ha, hc, hk4, hl4, hk, hl, q⟩ := h
    refine ⟨_, PSs.nox (pss_one (ps_ret (pe_call G_lowest hr (by rfl) g_lowest F_lowest.kp b_lowest .nil pass0 (pa_cons (pv 0) (pa_cons (pe_op op_mulW (pe_ix ix_tup (pv 1) pe_int (fun _ _ => rfl)) (pe_ix ix_tup (pv 2) pe_int (fun _ _ => rfl))) (pa_cons (pe_op op_mulW (pe_ix ix_tup (pv 1) pe_int (fun _ _ => rfl)) (pe_ix ix_tup (pv 2) pe_int (fun _ _ => rfl))) pa_nil)))))), ?_⟩
    obtain ⟨px, rfl, hpx⟩ := hx
    obtain ⟨py, rfl, hpy⟩ := hy
    walk_at "go"
    refine w_I (wide_mul ha.2.1 hc.2.1 (by omega) (by omega) (by omega)) ?_
    walk_at "go"
    refine w_I (wide_mul ha.2.2 hc.2.2 (by omega) (by omega) (by omega)) ?_
    walk_at "go"
    exact ⟨g, _, _, rfl, low_pre hg (Int.mul_ne_zero (by have := ha.pos; omega) (by have := hc.pos; omega)) (TN.dn hg ha hc) (wide_lt ha.2.1 hc.2.1) (wide_lt ha.2.2 hc.2.2) (by omega), fun p H1 hp s1 h1 => q p H1 hp s1 h1⟩
theorem ok_over {f : Addr} {fd : FuncData} (F : FnP K "over" s_over f fd)
    {f_lowest : Addr} {fd_lowest : FuncData} (F_lowest : FnP K "lowest" s_lowest f_lowest fd_lowest) (b_lowest : Binds K fd_lowest ["ground", "top", "bottom"] []) (g_lowest : mg "lowest" = some (.ref f_lowest)) (G_lowest : FnOk P w K mg base CX0 2 f_lowest fd_lowest ["ground", "top", "bottom"] (sp_lowest K)) :
    FnOk P w K mg base CX0 3 f fd ["ground", "x", "y"] (sp_over K) := by
  refine F.ok sc_over (fun vs H Q E h => ?_) (fun cdv A outer s H vs Q E hr h => ?_)
  · obtain ⟨g, x, y, a, c, k, l, rfl, hg, hx, hy, ha, hc, hk4, hl4, hk, hl, hz, q⟩ := h
    rfl
  · obtain ⟨g, x, y, a, c, k, l, rfl, hg, hx, hy, ha, hc, hk4, hl4, hk, hl, hz, q⟩ := h
    refine ⟨_, PSs.nox (pss_cons (ps_if (pt_cmpR op_eq (pe_ix ix_tup (pv 2) pe_int (fun _ _ => rfl)) pe_int (nomark _)) (pss_one ps_never) pss_nil)
        (pss_one (ps_ret (pe_call G_lowest hr (by rfl) g_lowest F_lowest.kp b_lowest .nil pass0 (pa_cons (pv 0) (pa_cons (pe_op op_mulW (pe_ix ix_tup (pv 1) pe_int (fun _ _ => rfl)) (pe_ix ix_tup (pv 2) pe_int (fun _ _ => rfl))) (pa_cons (pe_op op_mulW (pe_ix ix_tup (pv 1) pe_int (fun _ _ => rfl)) (pe_ix ix_tup (pv 2) pe_int (fun _ _ => rfl))) pa_nil))))))), ?_⟩
    obtain ⟨px, rfl, hpx⟩ := hx
    obtain ⟨py, rfl, hpy⟩ := hy
    walk_at "go"
    rw [decide_eq_false hz]
    walk_at "go"
    refine w_I (wide_mul ha.2.1 hc.2.2 (by omega) (by omega) (by omega)) ?_
    walk_at "go"
    refine w_I (wide_mul ha.2.2 hc.2.1 (by omega) (by omega) (by omega)) ?_
    walk_at "go"
    exact ⟨g, _, _, rfl, low_pre hg (Int.mul_ne_zero (by have := ha.pos; omega) hz) (fun z => by
      rw [ha.one (ha.gpos z), Int.one_mul]
      exact hc.topN hz z) (wide_lt ha.2.1 hc.2.2) (wide_lt ha.2.2 hc.2.1) (by omega), fun p H1 hp s1 h1 => q p H1 hp s1 h1⟩
theorem ok_root_or_none {f : Addr} {fd : FuncData} (F : FnP K "root_or_none" s_root_or_none f fd)
    {f_wheel_root : Addr} {fd_wheel_root : FuncData} (F_wheel_root : FnP K "wheel_root" s_wheel_root f_wheel_root fd_wheel_root) (b_wheel_root : Binds K fd_wheel_root ["wheel", "x"] []) (g_wheel_root : mg "wheel_root" = some (.ref f_wheel_root)) (G_wheel_root : FnOk P w K mg base CX0 1 f_wheel_root fd_wheel_root ["wheel", "x"] (sp_wheel_root K))
    {f_fraction_root : Addr} {fd_fraction_root : FuncData} (F_fraction_root : FnP K "fraction_root" s_fraction_root f_fraction_root fd_fraction_root) (b_fraction_root : Binds K fd_fraction_root ["x"] []) (g_fraction_root : mg "fraction_root" = some (.ref f_fraction_root)) (G_fraction_root : FnOk P w K mg base CX0 2 f_fraction_root fd_fraction_root ["x"] (sp_fraction_root K)) :
    FnOk P w K mg base CX0 3 f fd ["ground", "x"] (sp_root_or_none K) := by
  refine F.ok sc_root_or_none (fun vs H Q E h => ?_) (fun cdv A outer s H vs Q E hr h => ?_)
  · obtain ⟨g, v, a, k, rfl, hg, ha, hk, hv, q⟩ := h
    rfl
  · obtain ⟨g, v, a, k, rfl, hg, ha, hk, hv, q⟩ := h
    refine ⟨_, PSs.nox (pss_cons (ps_if (pt_cmpR op_eq (pv 0) pe_int (nomark _)) (pss_one (ps_ret (pe_call G_fraction_root hr (by rfl) g_fraction_root F_fraction_root.kp b_fraction_root .nil pass0 (pa_cons (pv 1) pa_nil)))) pss_nil)
        (pss_one (ps_ret (pe_call G_wheel_root (hr.mono (by decide)) (by rfl) g_wheel_root F_wheel_root.kp b_wheel_root .nil pass0 (pa_cons (pv 0) (pa_cons (pv 1) pa_nil)))))), ?_⟩
    have g0 := ha.g0
    walk_at "go"
    refine w_ite (fun hc => ?_) (fun hc => ?_)
    · subst hc
      walk_at "go"
      exact ⟨v, a, rfl, ha.pos, (ha.mono hk).2.1, (ha.mono hk).2.2, hv, q⟩
    · walk_at "go"
      refine ⟨g, v, a, rfl, by omega, hg, hv, fun H' v' s h => q H' v' s ?_⟩
      rw [rootV_wheel hc]
      exact h
theorem ok_is_row {f : Addr} {fd : FuncData} (F : FnP K "is_row" s_is_row f fd)
    {f_is_number : Addr} {fd_is_number : FuncData} (F_is_number : FnP K "is_number" s_is_number f_is_number fd_is_number) (b_is_number : Binds K fd_is_number ["ground", "thing"] []) (g_is_number : mg "is_number" = some (.ref f_is_number)) (G_is_number : FnOk P w K mg base CX0 2 f_is_number fd_is_number ["ground", "thing"] (sp_is_number K)) (m_all : mg "all" = none) (m_isinstance : mg "isinstance" = none) (m_tuple : mg "tuple" = none) (m_len : mg "len" = none) :
    FnOk P w K mg base CX0 3 f fd ["ground", "thing", "many"] (sp_is_row K) := by
  refine F.ok sc_is_row (fun vs H Q E h => ?_) (fun cdv A outer s H vs Q E hr h => ?_)
  · obtain ⟨g, v, m, kb, nb, rfl, hv, q⟩ := h
    rfl
  · obtain ⟨g, v, m, kb, nb, rfl, hv, q⟩ := h
    refine ⟨_, PSs.nox (pss_cons (ps_if (PW.pt (pw_or (pt_not (pt_val (pe_callB call_isi (by rfl) m_isinstance (by decide +kernel) (pa_cons (pv 1) (pa_cons (pe_bltn (v := .ty "tuple") (by rfl) m_tuple (by decide +kernel) rfl) pa_nil))))) (pw_or1 (pt_cmpR op_ne (pe_callB call_len_seq (by rfl) m_len (by decide +kernel) (pa_cons (pv 1) pa_nil)) (pv 2) (nomark _))))) (pss_one (ps_ret pe_bl)) pss_nil)
        (pss_one (ps_ret (pe_callB (cr_all rfl) (by rfl) m_all (by decide +kernel) (pa_cons (pe_lc (own := [("x", 3)]) (g := gName 3) (tt := tYes) (by rfl) sc_is_row.nd (pi_tup (pv 1)) (blkOk_by (own := [("x", 3)]) (N := ["ground", "thing", "many", "x"]) (sc := defScope s_is_row) (by decide +kernel)) (fun _ _ _ _ _ => (pg_name (i := 3) sc_is_row.nd rfl (.inl rfl))) (fun _ _ _ _ _ => pts_nil) (fun _ _ _ _ _ => (pe_call G_is_number hr (by rfl) g_is_number F_is_number.kp b_is_number .nil pass0 (pa_cons (pv 0) (pa_cons (pv 3) pa_nil))))) pa_nil))))), ?_⟩
    walk_at "go"
    refine tb_tup hv (fun p xs e hp hz hx => ?_) (fun hn => ?_)
    · subst e
      rw [rowOf_tup hp] at q
      walk_at "go"
      refine iteF ?_
      walk_at "go"
      refine ⟨p, xs, rfl, .inr (SqT.of hp), ?_⟩
      walk_at "go"
      refine w_iteN (fun hl => ?_) (fun hl => ?_)
      · walk_at "go"
        rw [decide_eq_false hl] at q
        exact q _ (Same.refl _)
      · rw [decide_eq_true hl] at q
        walk_at "go"
        refine ⟨p, rfl, ⟨xs, SqT.of hp⟩, fun D hD => ?_⟩
        refine lc_tup (xs := xs) (fun i H' => Same H H' ∧ H' D = some (.lst (((xs.map (numOf H g)).take i).map V.bl))) ⟨Same.updD (Same.refl H) hD, upd_same⟩ (fun i H' _ hP => SqT.of (hP.1 _ _ hp)) (fun i x H' hxi hP => ?_) (fun H' hP => ?_)
        · obtain ⟨sm, hD'⟩ := hP
          have hmem := List.mem_of_getElem? hxi
          walk_at "go"
          refine ⟨rfl, ?_⟩
          walk_at "go"
          refine ⟨g, x, kb, nb, rfl, (hx x hmem).kd (Kd.of sm), ?_⟩
          rw [numOf_tb (hx x hmem) (Kd.of sm)]
          refine ⟨_, hD', ?_, Same.updD sm hD, ?_⟩
          · rw [List.length_map]
            exact small1000 (Nat.le_trans (List.length_take_le' _ _) (by rw [List.length_map]; omega))
          · rw [upd_same, List.take_add_one, List.getElem?_map, hxi, List.map_append]
            rfl
        · obtain ⟨sm, hD'⟩ := hP
          walk_at "go"
          rw [List.take_of_length_le (by rw [List.length_map]; exact Nat.le_refl _)] at hD'
          refine ⟨D, _, rfl, SqL.of hD', ?_⟩
          rw [all_map]
          exact q _ sm
    · rw [rowOf_no hn] at q
      walk_at "go"
      refine iteT ?_
      walk_at "go"
      exact q _ (Same.refl _)
theorem ok_product_row {f : Addr} {fd : FuncData} (F : FnP K "product_row" s_product_row f fd)
    {f_lowest : Addr} {fd_lowest : FuncData} (F_lowest : FnP K "lowest" s_lowest f_lowest fd_lowest) (b_lowest : Binds K fd_lowest ["ground", "top", "bottom"] []) (g_lowest : mg "lowest" = some (.ref f_lowest)) (G_lowest : FnOk P w K mg base CX0 2 f_lowest fd_lowest ["ground", "top", "bottom"] (sp_lowest K))
    {f_dot : Addr} {fd_dot : FuncData} (F_dot : FnP K "dot" s_dot f_dot fd_dot) (b_dot : Binds K fd_dot ["wholes", "others"] []) (g_dot : mg "dot" = some (.ref f_dot)) (G_dot : FnOk P w K mg base CX0 1 f_dot fd_dot ["wholes", "others"] (sp_dot K)) (m_tuple : mg "tuple" = none) :
    FnOk P w K mg base CX0 3 f fd ["ground", "row", "columns"] (sp_product_row K) := by
  refine F.ok sc_product_row (fun vs H Q E h => ?_) (fun cdv A outer s H vs Q E hr h => ?_)
  · obtain ⟨g, v, c, r, ss, cs, k, rfl, hg, hv, hro, hc, hlc, hcs, hss, hkl, hk, hlr, hls, q⟩ := h
    rfl
  · obtain ⟨g, v, c, r, ss, cs, k, rfl, hg, hv, hro, hc, hlc, hcs, hss, hkl, hk, hlr, hls, q⟩ := h
    refine ⟨_, PSs.nox (pss_cons (ps_asg (pv 1) (pg_tup rfl (pgs_cons (pg_name (i := 3) sc_product_row.nd rfl (.inr rfl)) (pgs_cons (pg_name (i := 4) sc_product_row.nd rfl (.inr rfl)) pgs_nil))))
        (pss_one (ps_ret (pe_callTy call_tuple_of (by rfl) m_tuple (by decide +kernel) (pa_cons (pe_lc (own := [("column", 5), ("under", 6)]) (g := gTup K 2 (gCons (gName 5) (gCons (gName 6) (gNil)))) (tt := tYes) (by rfl) sc_product_row.nd (pi_list (pv 2)) (blkOk_by (own := [("column", 5), ("under", 6)]) (N := ["ground", "row", "columns", "tops", "bottom", "column", "under"]) (sc := defScope s_product_row) (by decide +kernel)) (fun _ _ _ _ _ => (pg_tup rfl (pgs_cons (pg_name (i := 5) sc_product_row.nd rfl (.inl rfl)) (pgs_cons (pg_name (i := 6) sc_product_row.nd rfl (.inl rfl)) pgs_nil)))) (fun _ _ _ _ _ => pts_nil) (fun _ _ _ _ _ => (pe_call G_lowest hr (by rfl) g_lowest F_lowest.kp b_lowest .nil pass0 (pa_cons (pv 0) (pa_cons (pe_call G_dot (hr.mono (by decide)) (by rfl) g_dot F_dot.kp b_dot .nil pass0 (pa_cons (pv 3) (pa_cons (pv 5) pa_nil))) (pa_cons (pe_op op_mulW (pv 4) (pv 6)) pa_nil)))))) pa_nil))))), ?_⟩
    obtain ⟨p, L, rfl, hp, hL⟩ := hv
    walk_at "go"
    refine ⟨c, rfl, ⟨cs, SqL.of hc⟩, fun D hD => ?_⟩
    refine lc_list (xs := cs) (fun i H' => Same H H' ∧ ∃ ys, H' D = some (.lst ys) ∧ Acc NumV H' ys (ss.map (cellF g r)) i) ⟨Same.updD (Same.refl H) hD, [], upd_same, Acc.nil⟩ (fun i H' _ hP => SqL.of (hP.1 _ _ hc)) (fun i x H' hxi hP => ?_) (fun H' hP => ?_)
    · obtain ⟨sm, ys, hD', hacc⟩ := hP
      have hi : i < ss.length := by
        have := (List.getElem?_eq_some_iff.mp hxi).1
        omega
      have hsi : ss[i]? = some ss[i] := List.getElem?_eq_getElem hi
      have hmem := List.getElem_mem hi
      obtain ⟨px, Lx, rfl, hpx, hLx⟩ := hcs i x _ hxi hsi
      have hpx' := sm _ _ hpx
      have e1 : k * r.length ≤ 4000 := hkl
      have e2 : k * ss[i].length ≤ 4000 := by rw [(hss _ hmem).1]; exact e1
      have b1 := wrB_bd (k := k) (r := r) fun x h => ⟨(hro x h).pos, (hro x h).2.1⟩
      have b2 := wrB_bd (k := k) (r := ss[i]) fun x h => ⟨((hss _ hmem).2 x h).pos, ((hss _ hmem).2 x h).2.1⟩
      walk_at "go"
      refine ⟨rfl, ?_⟩
      walk_at "go"
      refine ⟨L, Lx, wrT r, wrT ss[i], rfl, sm _ _ hL, sm _ _ hLx, by rw [wrT_len, wrT_len, (hss _ hmem).1], by rw [wrT_len]; omega, fun t h => Nat.le_trans (wrT_bd hro t h) (Nat.pow_le_pow_right (by decide) (by omega)), fun t h => Nat.le_trans (wrT_bd (hss _ hmem).2 t h) (Nat.pow_le_pow_right (by decide) (by omega)), fun H2 s2 => ?_⟩
      walk_at "go"
      refine w_I (mulW_le b1 b2 (by omega)) ?_
      walk_at "go"
      refine ⟨g, _, _, rfl, cell_ok2 hg hro (hss _ hmem).2 e1 e2 hk hlr, fun p3 H3 hp3 s3 h3 => ?_⟩
      rw [← cell_is hg hro (hss _ hmem).2] at h3
      have h3D := s3 _ _ (s2 _ _ hD')
      have kt : Kt H' (upd H3 D (.lst (ys ++ [V.ref p3]))) := (Kt.of (s2.trans s3)).trans (Kt.updL h3D)
      refine ⟨ys, h3D, small1000 (by rw [hacc.1]; omega), Same.updD ((sm.trans s2).trans s3) hD, _, upd_same, ?_⟩
      refine (hacc.mono fun x a h => NumV.kt h kt).snoc (a := cellF g r ss[i]) (by rw [List.getElem?_map, hsi]; rfl) ⟨p3, rfl, Kt.updL h3D _ _ h3⟩
    · obtain ⟨sm, ys, hD', hacc⟩ := hP
      walk_at "go"
      refine ⟨_, _, rfl, .inl ⟨SqL.of hD', fun l hl => ?_⟩⟩
      exact q _ _ (sm.trans (same_upd hl)) ((hacc.mono fun x a h => NumV.kt h (Kt.of (same_upd hl))).sq (by rw [List.length_map]; exact hlc) upd_same)
theorem ok_determinant {f : Addr} {fd : FuncData} (F : FnP K "determinant" s_determinant f fd)
    {f_lowest : Addr} {fd_lowest : FuncData} (F_lowest : FnP K "lowest" s_lowest f_lowest fd_lowest) (b_lowest : Binds K fd_lowest ["ground", "top", "bottom"] []) (g_lowest : mg "lowest" = some (.ref f_lowest)) (G_lowest : FnOk P w K mg base CX0 2 f_lowest fd_lowest ["ground", "top", "bottom"] (sp_lowest K))
    {f_whole_row : Addr} {fd_whole_row : FuncData} (F_whole_row : FnP K "whole_row" s_whole_row f_whole_row fd_whole_row) (b_whole_row : Binds K fd_whole_row ["row"] []) (g_whole_row : mg "whole_row" = some (.ref f_whole_row)) (G_whole_row : FnOk P w K mg base CX0 2 f_whole_row fd_whole_row ["row"] (sp_whole_row K))
    {f_whole_determinant : Addr} {fd_whole_determinant : FuncData} (F_whole_determinant : FnP K "whole_determinant" s_whole_determinant f_whole_determinant fd_whole_determinant) (b_whole_determinant : Binds K fd_whole_determinant ["rows"] []) (g_whole_determinant : mg "whole_determinant" = some (.ref f_whole_determinant)) (G_whole_determinant : FnOk P w K mg base CX0 2 f_whole_determinant fd_whole_determinant ["rows"] (sp_whole_determinant K)) :
    FnOk P w K mg base CX0 3 f fd ["ground", "table"] (sp_determinant K) := by
  refine F.ok sc_determinant (fun vs H Q E h => ?_) (fun cdv A outer s H vs Q E hr h => ?_)
  · obtain ⟨g, v, t, n, k, kb, A, F', R, W, rfl, hg, hv, htn, ht, hn1, hn, hkb0, hkn, hkb, hw, hA, hsz, hk4, hk, q⟩ := h
    rfl
  · obtain ⟨g, v, t, n, k, kb, A, F', R, W, rfl, hg, hv, htn, ht, hn1, hn, hkb0, hkn, hkb, hw, hA, hsz, hk4, hk, q⟩ := h
    refine ⟨_, PSs.nox (pss_cons (ps_set (i := 2) sc_determinant.nd rfl (.inl rfl) (pe_lst pa_nil))
        (pss_cons (ps_set (i := 3) sc_determinant.nd rfl (.inl rfl) pe_int)
        (pss_cons (ps_for PassesOwn.never rfl (pi_tup (pv 1)) (pg_name (i := 4) sc_determinant.nd rfl (.inl rfl)) (pss_cons (ps_asg (pe_call G_whole_row hr (by rfl) g_whole_row F_whole_row.kp b_whole_row .nil pass0 (pa_cons (pv 4) pa_nil)) (pg_tup rfl (pgs_cons (pg_name (i := 5) sc_determinant.nd rfl (.inl rfl)) (pgs_cons (pg_name (i := 6) sc_determinant.nd rfl (.inl rfl)) pgs_nil))))
        (pss_cons (ps_expr (pe_bm PySem.F.plainAttrs_list PySem.F.slot_list_append PySem.F.type_list_append mt_append (pv 2) (pa_cons (pv 5) pa_nil)))
        (pss_one (ps_aug (i := 3) sc_determinant.nd rfl (.inl rfl) (pv 6) ip_mulW)))))
        (pss_one (ps_ret (pe_call G_lowest hr (by rfl) g_lowest F_lowest.kp b_lowest .nil pass0 (pa_cons (pv 0) (pa_cons (pe_call G_whole_determinant hr (by rfl) g_whole_determinant F_whole_determinant.kp b_whole_determinant .nil pass0 (pa_cons (pv 2) pa_nil)) (pa_cons (pv 3) pa_nil))))))))), ?_⟩
    have hpos : ∀ r ∈ t, ∀ a ∈ r, 0 < a.2 := fun r hr a ha => ((ht r hr).2 a ha).pos
    have hprl : ∀ i, (prB (t.take i)).natAbs < 2 ^ k := fun i => by
      refine Nat.lt_of_le_of_lt (Nat.le_trans (prB_le (A := A) fun r hr => (hw r (List.mem_of_mem_take hr)).1) ?_) hsz
      have h1 : (t.take i).length ≤ n := by rw [List.length_take]; omega
      exact Nat.le_trans (Nat.pow_le_pow_right hA h1) (Nat.pow_le_pow_left (Nat.le_mul_of_pos_left A hn1) n)
    have hwk : ∀ r ∈ t, (wrB r).natAbs < 2 ^ k := fun r hr => by
      have h1 : A ≤ (n * A) ^ n := by
        have h2 : n * A ≤ (n * A) ^ n := by
          have := Nat.pow_le_pow_right (n := n * A) (Nat.mul_le_mul hn1 hA) hn1
          rw [Nat.pow_one] at this
          exact this
        exact Nat.le_trans (Nat.le_mul_of_pos_left A hn1) h2
      have := (hw r hr).1
      omega
    obtain ⟨p, xs, rfl, hp, hlx, hxs⟩ := hv
    walk_at "go"
    refine w_new (by simp) fun L H1 hL s1 h1 => ?_
    walk_at "go"
    refine ⟨p, rfl, ⟨xs, SqT.of (s1 _ _ hp)⟩, ?_⟩
    refine for_tup (xs := xs) (fun i σ H' => (∃ y4 y5 y6, σ = [some (.int g), some (.ref p), some (.ref L), some (.int (prB (t.take i))), y4, y5, y6]) ∧ Same H H' ∧ ∃ ys, H' L = some (.lst ys) ∧ Acc (ILn L) H' ys (t.map wrT) i) ⟨⟨_, _, _, rfl⟩, s1, [], h1, Acc.nil⟩ (fun i σ H' _ hP => SqT.of (hP.2.1 _ _ hp)) (fun i x σ H' hxi hP => ?_) (fun σ H' hP => ?_)
    · obtain ⟨⟨y4, y5, y6, rfl⟩, sm, ys, hL', hacc⟩ := hP
      have hi : i < t.length := by
        have := (List.getElem?_eq_some_iff.mp hxi).1
        omega
      have gt1 : t[i]? = some t[i] := List.getElem?_eq_getElem hi
      have hr := ht _ (List.getElem_mem hi)
      walk_at "go"
      refine ⟨x, t[i], g, kb, rfl, RowV.kt (hxs i x _ hxi gt1) (Kt.of sm), fun a ha => (hr.2 a ha).okn hg, hkb0, by rw [hr.1]; exact hkn, hkb, by omega, fun p2 L2 H2 s2 hL2 h2 h2L => ?_⟩
      walk_at "go"
      have hLL := s2 _ _ hL'
      refine ⟨.inl ⟨rfl, _, SqL.of hLL⟩, ?_⟩
      walk_at "go"
      refine w_append hLL (by rw [hacc.1]; omega) ?_
      have nL : L2 ≠ L := fun e => by rw [e, hL'] at hL2; cases hL2
      walk_at "go"
      unfold Ends.nx
      refine w_aug (i := 3) (x := .int (prB (t.take i))) (by rfl) ?_
      walk_at "go"
      refine ⟨_, _, rfl, rfl, wide_mul (hprl i) (hwk _ (List.getElem_mem hi)) (by omega) (by omega) (by omega), ?_⟩
      refine ⟨⟨_, _, _, by rw [prB_take gt1]; rfl⟩, Same.updD (sm.trans s2) hL, _, upd_same, ?_⟩
      exact (hacc.mono fun x a h => (h.sm s2).upd).snoc (a := wrT t[i]) (by rw [List.getElem?_map, gt1]; rfl) (ILn.upd ⟨L2, rfl, nL, h2L⟩)
    · obtain ⟨⟨y4, y5, y6, rfl⟩, sm, ys, hL', hacc⟩ := hP
      rw [List.take_of_length_le (show t.length ≤ xs.length by omega)]
      have hacc' : Acc IL H' ys (t.map wrT) (t.map wrT).length := by
        rw [List.length_map, ← hlx]
        exact acc_imp hacc fun x a h => ILn.il h
      obtain ⟨e1, n1⟩ := dt_wr (V := W) hg htn (fun r hr => (ht r hr).2)
      have hrows : ∀ r ∈ t.map wrT, r.length = n ∧ ∀ x, (gt r x).natAbs ≤ A := fun r hr => by
        obtain ⟨s, hs, rfl⟩ := List.mem_map.mp hr
        refine ⟨by rw [wrT_len, (ht s hs).1], fun x => ?_⟩
        by_cases e : gt (wrT s) x = 0
        · rw [e]
          exact Nat.zero_le _
        · exact (hw s hs).2 _ (gt_mem e)
      walk_at "go"
      refine ⟨.ref L, t.map wrT, n, A, k, rfl, ⟨L, ys, rfl, hL', hacc'⟩, by rw [List.length_map]; exact htn, hn1, hn, hrows, hA, hsz, by omega, hk, fun H2 s2 => ?_⟩
      have hprB : 0 < prB t := prB_ne hpos
      have hpk : (prB t).natAbs < 2 ^ k := by
        have := hprl t.length
        rw [List.take_length] at this
        exact this
      have hfm : g ≠ 0 → (prB t).fmod g ≠ 0 := fun z e => n1 (by
        have := W.imod z (prB t)
        rw [e, W.i0] at this
        exact this.symm)
      have hdk : (dt (t.map wrT) (List.range n)).natAbs < 2 ^ k := by
        refine Nat.lt_of_le_of_lt (Nat.le_trans (dt_abs (A := A) _ _ (by rw [List.length_map, List.length_range, htn]) fun i x => ?_) (by rw [List.length_range]; exact Nat.le_refl _)) hsz
        show (gt ((t.map wrT).getD i []) x).natAbs ≤ A
        cases e : (t.map wrT)[i]? with
        | none =>
          have q1 : (t.map wrT).getD i [] = [] := by rw [List.getD_eq_getElem?_getD, e]; rfl
          have : gt [] x = 0 := by unfold gt; simp
          rw [q1, this]
          exact Nat.zero_le _
        | some r =>
          have q1 : (t.map wrT).getD i [] = r := by rw [List.getD_eq_getElem?_getD, e]; rfl
          rw [q1]
          exact (hrows r (List.mem_of_getElem? e)).2 x
      walk_at "go"
      refine ⟨g, _, prB t, rfl, lowP hg (by omega) hfm hdk hpk (by omega), fun p3 H3 hp3 s3 h3 => ?_⟩
      refine q _ _ _ (sm.trans (s2.trans s3)) ⟨p3, rfl, h3⟩ (tn_low hg (by omega) hfm hk4 hdk hpk) ?_
      refine W.cancel (z := W.i (prB t)) ?_ n1
      rw [W.low hg (by omega) hfm, e1]
      grind
theorem ok__law_plus {f : Addr} {fd : FuncData} (F : FnP K "_law_plus" s__law_plus f fd)
    {f__law_low : Addr} {fd__law_low : FuncData} (F__law_low : FnP K "_law_low" s__law_low f__law_low fd__law_low) (b__law_low : Binds K fd__law_low ["_law_g", "_law_up", "_law_down"] []) (g__law_low : mg "_law_low" = some (.ref f__law_low)) (G__law_low : FnOk P w K mg base CX0 2 f__law_low fd__law_low ["_law_g", "_law_up", "_law_down"] (sp__law_low K)) :
    FnOk P w K mg base CX0 3 f fd ["_law_g", "_law_x", "_law_y"] (sp__law_plus K) := by
  refine F.ok sc__law_plus (fun vs H Q E h => ?_) (fun cdv A outer s H vs Q E hr h => ?_)
  · obtain ⟨g, x, y, a, c, rfl, hg0, hg, hx, hy, ha, hc, q⟩ := h
    rfl
  · obtain ⟨g, x, y, a, c, rfl, hg0, hg, hx, hy, ha, hc, q⟩ := h
    refine ⟨_, PSs.nox (pss_one (ps_ret (pe_call G__law_low hr (by rfl) g__law_low F__law_low.kp b__law_low .nil pass0 (pa_cons (pv 0) (pa_cons (pe_op op_add (pe_op op_mulW (pe_ix ix_tup (pv 1) pe_int (fun _ _ => rfl)) (pe_ix ix_tup (pv 2) pe_int (fun _ _ => rfl))) (pe_op op_mulW (pe_ix ix_tup (pv 2) pe_int (fun _ _ => rfl)) (pe_ix ix_tup (pv 1) pe_int (fun _ _ => rfl)))) (pa_cons (pe_op op_mulW (pe_ix ix_tup (pv 1) pe_int (fun _ _ => rfl)) (pe_ix ix_tup (pv 2) pe_int (fun _ _ => rfl))) pa_nil)))))), ?_⟩
    obtain ⟨px, rfl, hpx⟩ := hx
    obtain ⟨py, rfl, hpy⟩ := hy
    have hW : ∀ {u v : Int}, u.natAbs < 2 ^ 3900 → v.natAbs < 2 ^ 3900 → CMulW u v := fun h1 h2 => wide_mul h1 h2 (by decide) (by decide) (by decide)
    have hD : (a.2 * c.2).natAbs < 2 ^ 8000 := Nat.lt_of_lt_of_le (wide_lt ha.2.1 hc.2.1) (Nat.pow_le_pow_right (by decide) (by decide))
    walk_at "go"
    refine w_I (hW ha.1 hc.2.1) ?_
    walk_at "go"
    refine w_I (hW hc.1 ha.2.1) ?_
    walk_at "go"
    refine w_I (hW ha.2.1 hc.2.1) ?_
    walk_at "go"
    exact ⟨g, _, _, rfl, hg0, hg, Int.mul_ne_zero ha.2.2 hc.2.2, hD, fun p H1 hp s1 h1 => q p H1 hp s1 h1⟩
theorem ok__law_times {f : Addr} {fd : FuncData} (F : FnP K "_law_times" s__law_times f fd)
    {f__law_low : Addr} {fd__law_low : FuncData} (F__law_low : FnP K "_law_low" s__law_low f__law_low fd__law_low) (b__law_low : Binds K fd__law_low ["_law_g", "_law_up", "_law_down"] []) (g__law_low : mg "_law_low" = some (.ref f__law_low)) (G__law_low : FnOk P w K mg base CX0 2 f__law_low fd__law_low ["_law_g", "_law_up", "_law_down"] (sp__law_low K)) :
    FnOk P w K mg base CX0 3 f fd ["_law_g", "_law_x", "_law_y"] (sp__law_times K) := by
  refine F.ok sc__law_times (fun vs H Q E h => ?_) (fun cdv A outer s H vs Q E hr h => ?_)
  · obtain ⟨g, x, y, a, c, rfl, hg0, hg, hx, hy, ha, hc, q⟩ := h
    rfl
  · obtain ⟨g, x, y, a, c, rfl, hg0, hg, hx, hy, ha, hc, q⟩ := h
    refine ⟨_, PSs.nox (pss_one (ps_ret (pe_call G__law_low hr (by rfl) g__law_low F__law_low.kp b__law_low .nil pass0 (pa_cons (pv 0) (pa_cons (pe_op op_mulW (pe_ix ix_tup (pv 1) pe_int (fun _ _ => rfl)) (pe_ix ix_tup (pv 2) pe_int (fun _ _ => rfl))) (pa_cons (pe_op op_mulW (pe_ix ix_tup (pv 1) pe_int (fun _ _ => rfl)) (pe_ix ix_tup (pv 2) pe_int (fun _ _ => rfl))) pa_nil)))))), ?_⟩
    obtain ⟨px, rfl, hpx⟩ := hx
    obtain ⟨py, rfl, hpy⟩ := hy
    have hW : ∀ {u v : Int}, u.natAbs < 2 ^ 3900 → v.natAbs < 2 ^ 3900 → CMulW u v := fun h1 h2 => wide_mul h1 h2 (by decide) (by decide) (by decide)
    have hD : (a.2 * c.2).natAbs < 2 ^ 8000 := Nat.lt_of_lt_of_le (wide_lt ha.2.1 hc.2.1) (Nat.pow_le_pow_right (by decide) (by decide))
    walk_at "go"
    refine w_I (hW ha.1 hc.1) ?_
    walk_at "go"
    refine w_I (hW ha.2.1 hc.2.1) ?_
    walk_at "go"
    exact ⟨g, _, _, rfl, hg0, hg, Int.mul_ne_zero ha.2.2 hc.2.2, hD, fun p H1 hp s1 h1 => q p H1 hp s1 h1⟩
theorem ok__law_minus {f : Addr} {fd : FuncData} (F : FnP K "_law_minus" s__law_minus f fd)
    {f__law_low : Addr} {fd__law_low : FuncData} (F__law_low : FnP K "_law_low" s__law_low f__law_low fd__law_low) (b__law_low : Binds K fd__law_low ["_law_g", "_law_up", "_law_down"] []) (g__law_low : mg "_law_low" = some (.ref f__law_low)) (G__law_low : FnOk P w K mg base CX0 2 f__law_low fd__law_low ["_law_g", "_law_up", "_law_down"] (sp__law_low K)) :
    FnOk P w K mg base CX0 3 f fd ["_law_g", "_law_x"] (sp__law_minus K) := by
  refine F.ok sc__law_minus (fun vs H Q E h => ?_) (fun cdv A outer s H vs Q E hr h => ?_)
  · obtain ⟨g, x, a, rfl, hg0, hg, hx, ha, ha2, q⟩ := h
    rfl
  · obtain ⟨g, x, a, rfl, hg0, hg, hx, ha, ha2, q⟩ := h
    refine ⟨_, PSs.nox (pss_one (ps_ret (pe_call G__law_low hr (by rfl) g__law_low F__law_low.kp b__law_low .nil pass0 (pa_cons (pv 0) (pa_cons (pe_op op_sub pe_int (pe_ix ix_tup (pv 1) pe_int (fun _ _ => rfl))) (pa_cons (pe_ix ix_tup (pv 1) pe_int (fun _ _ => rfl)) pa_nil)))))), ?_⟩
    obtain ⟨px, rfl, hpx⟩ := hx
    walk_at "go"
    exact ⟨g, _, _, rfl, hg0, hg, ha2, ha, fun p H1 hp s1 h1 => q p H1 hp s1 h1⟩
theorem ok__law_is_row {f : Addr} {fd : FuncData} (F : FnP K "_law_is_row" s__law_is_row f fd)
    {f__law_is_number : Addr} {fd__law_is_number : FuncData} (F__law_is_number : FnP K "_law_is_number" s__law_is_number f__law_is_number fd__law_is_number) (b__law_is_number : Binds K fd__law_is_number ["_law_g", "_law_thing"] []) (g__law_is_number : mg "_law_is_number" = some (.ref f__law_is_number)) (G__law_is_number : FnOk P w K mg base CX0 2 f__law_is_number fd__law_is_number ["_law_g", "_law_thing"] (sp__law_is_number K)) (m_isinstance : mg "isinstance" = none) (m_tuple : mg "tuple" = none) (m_all : mg "all" = none) (m_len : mg "len" = none) :
    FnOk P w K mg base CX0 3 f fd ["_law_g", "_law_thing", "_law_many"] (sp__law_is_row K) := by
  refine F.ok sc__law_is_row (fun vs H Q E h => ?_) (fun cdv A outer s H vs Q E hr h => ?_)
  · obtain ⟨g, v, m, kb, nb, rfl, hg0, hv, q⟩ := h
    rfl
  · obtain ⟨g, v, m, kb, nb, rfl, hg0, hv, q⟩ := h
    refine ⟨_, PSs.nox (pss_one (ps_ret (pe_and (pe_callB call_isi (by rfl) m_isinstance (by decide +kernel) (pa_cons (pv 1) (pa_cons (pe_bltn (v := .ty "tuple") (by rfl) m_tuple (by decide +kernel) rfl) pa_nil))) (pe_and (pe_cmpR op_eq (pe_callB call_len_seq (by rfl) m_len (by decide +kernel) (pa_cons (pv 1) pa_nil)) (pv 2) (nomark _)) (pe_one (pe_callB (cr_all rfl) (by rfl) m_all (by decide +kernel) (pa_cons (pe_lc (own := [("_law_one", 3)]) (g := gName 3) (tt := tYes) (by rfl) sc__law_is_row.nd (pi_tup (pv 1)) (blkOk_by (own := [("_law_one", 3)]) (N := ["_law_g", "_law_thing", "_law_many", "_law_one"]) (sc := defScope s__law_is_row) (by decide +kernel)) (fun _ _ _ _ _ => (pg_name (i := 3) sc__law_is_row.nd rfl (.inl rfl))) (fun _ _ _ _ _ => pts_nil) (fun _ _ _ _ _ => (pe_call G__law_is_number hr (by rfl) g__law_is_number F__law_is_number.kp b__law_is_number .nil pass0 (pa_cons (pv 0) (pa_cons (pv 3) pa_nil))))) pa_nil))))))), ?_⟩
    walk_at "go"
    refine tb_tup hv (fun p xs e hp hz hx => ?_) (fun hn => ?_)
    · subst e
      rw [rowOf_tup hp] at q
      walk_at "go"
      refine ⟨p, xs, rfl, .inr (SqT.of hp), ?_⟩
      walk_at "go"
      refine w_ite (fun hl => ?_) (fun hl => ?_)
      · rw [decide_eq_true hl] at q
        walk_at "go"
        refine ⟨p, rfl, ⟨xs, SqT.of hp⟩, fun D hD => ?_⟩
        refine lc_tup (xs := xs) (fun i H' => Same H H' ∧ H' D = some (.lst (((xs.map (numOf H g)).take i).map V.bl))) ⟨Same.updD (Same.refl H) hD, upd_same⟩ (fun i H' _ hP => SqT.of (hP.1 _ _ hp)) (fun i x H' hxi hP => ?_) (fun H' hP => ?_)
        · obtain ⟨sm, hD'⟩ := hP
          have hmem := List.mem_of_getElem? hxi
          walk_at "go"
          refine ⟨rfl, ?_⟩
          walk_at "go"
          refine ⟨g, x, kb, nb, rfl, hg0, (hx x hmem).kd (Kd.of sm), fun H2 s2 => ?_⟩
          rw [numOf_tb (hx x hmem) (Kd.of sm)]
          refine ⟨_, s2 _ _ hD', ?_, Same.updD (sm.trans s2) hD, ?_⟩
          · rw [List.length_map]
            exact small1000 (Nat.le_trans (List.length_take_le' _ _) (by rw [List.length_map]; omega))
          · rw [upd_same, List.take_add_one, List.getElem?_map, hxi, List.map_append]
            rfl
        · obtain ⟨sm, hD'⟩ := hP
          walk_at "go"
          rw [List.take_of_length_le (by rw [List.length_map]; exact Nat.le_refl _)] at hD'
          refine ⟨D, _, rfl, SqL.of hD', ?_⟩
          rw [all_map]
          exact q _ sm
      · walk_at "go"
        rw [decide_eq_false hl] at q
        exact q _ (Same.refl _)
    · rw [rowOf_no hn] at q
      walk_at "go"
      exact q _ (Same.refl _)
theorem ok__law_number {f : Addr} {fd : FuncData} (F : FnP K "_law_number" s__law_number f fd)
    {f__law_low : Addr} {fd__law_low : FuncData} (F__law_low : FnP K "_law_low" s__law_low f__law_low fd__law_low) (b__law_low : Binds K fd__law_low ["_law_g", "_law_up", "_law_down"] []) (g__law_low : mg "_law_low" = some (.ref f__law_low)) (G__law_low : FnOk P w K mg base CX0 2 f__law_low fd__law_low ["_law_g", "_law_up", "_law_down"] (sp__law_low K))
    {f__law_take : Addr} {fd__law_take : FuncData} (F__law_take : FnP K "_law_take" s__law_take f__law_take fd__law_take) (b__law_take : Binds K fd__law_take ["_law_bag_here", "_law_many"] []) (g__law_take : mg "_law_take" = some (.ref f__law_take)) (G__law_take : FnOk P w K mg base CX0 1 f__law_take fd__law_take ["_law_bag_here", "_law_many"] (sp__law_take K)) :
    FnOk P w K mg base CX0 3 f fd ["_law_bag_here", "_law_g"] (sp__law_number K) := by
  refine F.ok sc__law_number (fun vs H Q E h => ?_) (fun cdv A outer s H vs Q E hr h => ?_)
  · obtain ⟨b, g, rfl, hgr, hb, q⟩ := h
    rfl
  · obtain ⟨b, g, rfl, hgr, hb, q⟩ := h
    refine ⟨_, PSs.nox (pss_cons (ps_if (pt_cmpR op_gt (pv 1) pe_int (nomark _)) (pss_one (ps_ret (pe_tup (pa_cons (pe_call G__law_take (hr.mono (by decide)) (by rfl) g__law_take F__law_take.kp b__law_take .nil pass0 (pa_cons (pv 0) (pa_cons (pv 1) pa_nil))) (pa_cons pe_int pa_nil))))) pss_nil)
        (pss_cons (ps_set (i := 2) sc__law_number.nd rfl (.inl rfl) (pe_ix ix_list (pe_lst (pa_cons pe_int (pa_cons pe_int (pa_cons pe_int (pa_cons pe_int (pa_cons pe_int (pa_cons pe_int pa_nil))))))) (pe_call G__law_take (hr.mono (by decide)) (by rfl) g__law_take F__law_take.kp b__law_take .nil pass0 (pa_cons (pv 0) (pa_cons pe_int pa_nil))) (fun _ _ => rfl)))
        (pss_cons (ps_set (i := 3) sc__law_number.nd rfl (.inl rfl) (pe_ix ix_list (pe_lst (pa_cons pe_int (pa_cons pe_int (pa_cons pe_int (pa_cons (pe_op op_add pe_int (pe_call G__law_take (hr.mono (by decide)) (by rfl) g__law_take F__law_take.kp b__law_take .nil pass0 (pa_cons (pv 0) (pa_cons pe_int pa_nil)))) pa_nil))))) (pe_call G__law_take (hr.mono (by decide)) (by rfl) g__law_take F__law_take.kp b__law_take .nil pass0 (pa_cons (pv 0) (pa_cons pe_int pa_nil))) (fun _ _ => rfl)))
        (pss_one (ps_ret (pe_call G__law_low hr (by rfl) g__law_low F__law_low.kp b__law_low .nil pass0 (pa_cons pe_int (pa_cons (pe_op op_sub (pe_call G__law_take (hr.mono (by decide)) (by rfl) g__law_take F__law_take.kp b__law_take .nil pass0 (pa_cons (pv 0) (pa_cons (pv 2) pa_nil))) (pe_op op_fdivZ (pv 2) pe_int)) (pa_cons (pv 3) pa_nil))))))))), ?_⟩
    obtain ⟨hg0, hg⟩ := hgr.bd
    have hg3 := hgr.three
    walk_at "go"
    refine w_ite (fun hc => ?_) (fun hc => ?_)
    · walk_at "go"
      refine ⟨b, g, rfl, hc, by omega, hb, fun H1 d hd0 hd1 m1 hb1 => ?_⟩
      walk_at "go"
      refine w_new (by simp) fun p H2 hp s2 h2 => ?_
      refine q _ _ (d, 1) ⟨p, rfl, h2⟩ ⟨show (0 : Int) < 1 by decide, show (1 : Int) ∣ 2520 by decide, ?_, ?_⟩ ⟨.inr ⟨hc, hd0, hd1, rfl⟩, ?_, show (1 : Int).natAbs < 2 ^ 7 by decide⟩ (m1.trans (Mv.same s2)) (hb1.same s2)
      · show d.natAbs ≤ 64 * 2 ^ 0 * 1
        omega
      · exact .inr ⟨by omega, by omega, rfl⟩
      · show d.natAbs < 2 ^ 7
        omega
    · walk_at "go"
      refine w_new (by simp) fun p1 H1 hp1 s1 h1 => ?_
      walk_at "go"
      refine ⟨b, 6, rfl, by decide, by decide, hb.same s1, fun H2 d2 h20 h21 m2 hb2 => ?_⟩
      obtain ⟨wd, ew, hw0, hw1⟩ := nu_six h20 h21
      refine w_ixL (m2 _ _ (bag_ne hb hp1) h1) ew ?_
      walk_at "go"
      refine ⟨b, 8, rfl, by decide, by decide, hb2, fun H3 d3 h30 h31 m3 hb3 => ?_⟩
      walk_at "go"
      refine w_new (by simp) fun p4 H4 hp4 s4 h4 => ?_
      walk_at "go"
      refine ⟨b, 4, rfl, by decide, by decide, hb3.same s4, fun H5 d5 h50 h51 m5 hb5 => ?_⟩
      obtain ⟨dn, ed, hdn0, hdn1⟩ := nu_four h50 h51 h30 h31
      refine w_ixL (m5 _ _ (bag_ne hb3 hp4) h4) ed ?_
      walk_at "go"
      refine ⟨b, wd, rfl, by omega, by omega, hb5, fun H6 d6 h60 h61 m6 hb6 => ?_⟩
      walk_at "go"
      refine w_I (divZ_small (by decide) (by decide)) ?_
      walk_at "go"
      refine ⟨0, _, dn, rfl, by decide, by decide, by omega, Nat.lt_of_lt_of_le (show dn.natAbs < 2 ^ 7 by omega) (Nat.pow_le_pow_right (by decide) (by decide)), fun p H7 hp s7 h7 => ?_⟩
      have hu : (d6 - wd.fdiv 2).natAbs ≤ 64 := by
        rw [fdiv_pos _ (by decide)]
        omega
      have e0 : g = 0 := by omega
      subst e0
      exact q _ _ _ ⟨p, rfl, h7⟩ (ng_low hu hdn0 hdn1) (tn_low (.inl rfl) (by omega) (fun z => absurd rfl z) (by decide) (by omega) (by omega)) ((Mv.same s1).trans (m2.trans (m3.trans ((Mv.same s4).trans (m5.trans (m6.trans (Mv.same s7))))))) (hb6.same s7)
theorem ok__law_odd_row {f : Addr} {fd : FuncData} (F : FnP K "_law_odd_row" s__law_odd_row f fd)
    {f__law_take : Addr} {fd__law_take : FuncData} (F__law_take : FnP K "_law_take" s__law_take f__law_take fd__law_take) (b__law_take : Binds K fd__law_take ["_law_bag_here", "_law_many"] []) (g__law_take : mg "_law_take" = some (.ref f__law_take)) (G__law_take : FnOk P w K mg base CX0 1 f__law_take fd__law_take ["_law_bag_here", "_law_many"] (sp__law_take K))
    {f__law_odd : Addr} {fd__law_odd : FuncData} (F__law_odd : FnP K "_law_odd" s__law_odd f__law_odd fd__law_odd) (b__law_odd : Binds K fd__law_odd ["_law_bag_here"] []) (g__law_odd : mg "_law_odd" = some (.ref f__law_odd)) (G__law_odd : FnOk P w K mg base CX0 2 f__law_odd fd__law_odd ["_law_bag_here"] (sp__law_odd K)) (m_list : mg "list" = none) (m_len : mg "len" = none) :
    FnOk P w K mg base CX0 3 f fd ["_law_bag_here", "_law_g", "_law_row_here"] (sp__law_odd_row K) := by
  refine F.ok sc__law_odd_row (fun vs H Q E h => ?_) (fun cdv A outer s H vs Q E hr h => ?_)
  · obtain ⟨b, g, x, r, m, rfl, hgr, hb, hx, hrz, hm1, hm, q⟩ := h
    rfl
  · obtain ⟨b, g, x, r, m, rfl, hgr, hb, hx, hrz, hm1, hm, q⟩ := h
    refine ⟨_, PSs.nox (pss_cons (ps_par (i := 3) (j := 4) (by rfl) sc__law_odd_row.nd rfl rfl (by decide) rfl rfl (pa_cons (pe_call G__law_take (hr.mono (by decide)) (by rfl) g__law_take F__law_take.kp b__law_take .nil pass0 (pa_cons (pv 0) (pa_cons pe_int pa_nil))) (pa_cons (pe_call G__law_take (hr.mono (by decide)) (by rfl) g__law_take F__law_take.kp b__law_take .nil pass0 (pa_cons (pv 0) (pa_cons (pe_callB call_len_seq (by rfl) m_len (by decide +kernel) (pa_cons (pv 2) pa_nil)) pa_nil))) pa_nil)) (by rfl))
        (pss_cons (ps_set (i := 5) sc__law_odd_row.nd rfl (.inl rfl) (pe_ix ix_list (pe_lst (pa_cons (pe_call G__law_odd hr (by rfl) g__law_odd F__law_odd.kp b__law_odd .nil pass0 (pa_cons (pv 0) pa_nil)) (pa_cons (pe_tup (pa_cons (pe_op op_add (pv 1) pe_int) (pa_cons pe_int pa_nil))) (pa_cons (pe_tup (pa_cons pe_int (pa_cons pe_int pa_nil))) (pa_cons (pe_tup (pa_cons pe_int (pa_cons pe_int pa_nil))) pa_nil))))) (pe_call G__law_take (hr.mono (by decide)) (by rfl) g__law_take F__law_take.kp b__law_take .nil pass0 (pa_cons (pv 0) (pa_cons pe_int pa_nil))) (fun _ _ => rfl)))
        (pss_cons (ps_if (pt_cmpR op_eq (pv 3) pe_int (nomark _)) (pss_one (ps_ret (pv 5))) pss_nil)
        (pss_cons (ps_if (pt_cmpR op_eq (pv 3) pe_int (nomark _)) (pss_one (ps_ret (pe_callTy call_list_of (by rfl) m_list (by decide +kernel) (pa_cons (pv 2) pa_nil)))) pss_nil)
        (pss_cons (ps_if (pt_cmpR op_eq (pv 3) pe_int (nomark _)) (pss_one (ps_ret (pe_op op_catA (pe_slice sl_tupA (pv 2) po_none (po_some (pv 4))) (pe_slice sl_tupA (pv 2) (po_some (pe_op op_add (pv 4) pe_int)) po_none)))) pss_nil)
        (pss_cons (ps_if (pt_cmpR op_eq (pv 3) pe_int (nomark _)) (pss_one (ps_ret (pe_op op_catA (pv 2) (pe_tup (pa_cons (pe_ix ix_tup (pv 2) (pv 4) (fun _ _ => rfl)) pa_nil))))) pss_nil)
        (pss_one (ps_ret (pe_op op_catA (pe_op op_catA (pe_slice sl_tupA (pv 2) po_none (po_some (pv 4))) (pe_tup (pa_cons (pv 5) pa_nil))) (pe_slice sl_tupA (pv 2) (po_some (pe_op op_add (pv 4) pe_int)) po_none)))))))))), ?_⟩
    have hg := hgr.two
    obtain ⟨px, xs, rfl, hpx, hlx, hxs⟩ := hx
    have hxl : xs.length = m := by rw [hlx, hrz.1]
    walk_at "go"
    refine ⟨b, 5, rfl, by decide, by decide, hb, fun H1 d1 h10 h11 m1 hb1 => ?_⟩
    walk_at "go"
    refine ⟨px, xs, rfl, .inr (SqT.of (m1.kt hb _ _ hpx)), ?_⟩
    walk_at "go"
    refine ⟨b, xs.length, rfl, by omega, by omega, hb1, fun H2 d2 h20 h21 m2 hb2 => ?_⟩
    walk_at "go"
    refine ⟨b, rfl, hb2, fun H3 v3 t3 n3 m3 hb3 => ?_⟩
    walk_at "go"
    refine w_new (by simp) fun p4 H4 hp4 s4 h4 => ?_
    walk_at "go"
    refine w_new (by simp) fun p5 H5 hp5 s5 h5 => ?_
    walk_at "go"
    refine w_new (by simp) fun p6 H6 hp6 s6 h6 => ?_
    walk_at "go"
    refine w_new (by simp) fun L H7 hL s7 h7 => ?_
    have s37 := s4.trans (s5.trans (s6.trans s7))
    have hb7 := hb3.same s37
    have nL : L ≠ b := bag_ne (hb3.same (s4.trans (s5.trans s6))) hL
    walk_at "go"
    refine ⟨b, 4, rfl, by decide, by decide, hb7, fun H8 d8 h80 h81 m8 hb8 => ?_⟩
    have kd78 : Kd H7 H8 := Kd.mv m8 hb7 hb8
    obtain ⟨vo, evo, hvo⟩ := pick4 (a := v3) (b := V.ref p4) (c := V.ref p5) (d := V.ref p6) h80 h81
    refine w_ixL (m8 _ _ nL h7) evo ?_
    have n4 : NumV H8 (.ref p4) (g + 1, 1) := ⟨p4, rfl, kd78.1 _ _ (s7 _ _ (s6 _ _ (s5 _ _ h4)))⟩
    have n5 : NumV H8 (.ref p5) (1, 0) := ⟨p5, rfl, kd78.1 _ _ (s7 _ _ (s6 _ _ h5))⟩
    have n6 : NumV H8 (.ref p6) (1, 2) := ⟨p6, rfl, kd78.1 _ _ (s7 _ _ h6)⟩
    have kd38 : Kd H3 H8 := (Kd.of s37).trans kd78
    have hbg : (g + 1).natAbs < 2 ^ 200 := by
      have := hgr.bd
      have p : 2 ^ 5 ≤ 2 ^ 200 := by decide
      omega
    have hodd : TB 200 1 H8 vo ∧ (numOf H8 g vo = true → ∃ a, NumV H8 vo a ∧ TZ g 2520 322560 a) := by
      have num : ∀ {v : V} {a : Int × Int}, NumV H8 v a → a.1.natAbs < 2 ^ 200 → a.2.natAbs < 2 ^ 200 → (numOk g [.int a.1, .int a.2] = true → TZ g 2520 322560 a) → TB 200 1 H8 v ∧ (numOf H8 g v = true → ∃ a, NumV H8 v a ∧ TZ g 2520 322560 a) := fun h b1 b2 ht => ⟨numV_tb h b1 b2, fun e => by
        obtain ⟨p, rfl, hp⟩ := id h
        rw [numOf_tup hp] at e
        exact ⟨_, h, ht e⟩⟩
      rcases hvo with rfl | rfl | rfl | rfl
      · refine ⟨t3.kd kd38, fun e => ?_⟩
        rw [numOf_tb t3 kd38, n3 g hg] at e
        cases e
      · exact num n4 hbg (show (1 : Int).natAbs < 2 ^ 200 by decide) (next_tz hg)
      · exact num n5 (by decide) (by decide) fun e => by
          have := bad_num (t := 1) (b := 0) hg (by decide) (by decide)
          rw [this] at e
          cases e
      · exact num n6 (by decide) (by decide) (half_tz hg)
    have mv08 : Mv b H H8 := m1.trans (m2.trans (m3.trans ((Mv.same s37).trans m8)))
    have k08 : Kt H H8 := (m1.kt hb).trans ((m2.kt hb1).trans ((m3.kt hb2).trans ((Kt.of s37).trans kd78.1)))
    have hpx8 := k08 _ _ hpx
    have hxs8 : ∀ (i : Nat) (y : V) (a : Int × Int), xs[i]? = some y → r[i]? = some a → NumV H8 y a := fun i y a e1 e2 => NumV.kt (hxs i y a e1 e2) k08
    have tnr := hrz.tn hg (k := 20) (by decide) (by decide) (by decide) (by decide)
    have tbx : ∀ y ∈ xs, TB 200 1 H8 y := fun y hy => by
      obtain ⟨i, hi⟩ := List.getElem?_of_mem hy
      have hil := (List.getElem?_eq_some_iff.mp hi).1
      have gr : r[i]? = some (r[i]'(by omega)) := List.getElem?_eq_getElem _
      have tn := tnr _ (List.mem_of_getElem? gr)
      have p : 2 ^ 20 ≤ 2 ^ 200 := by decide
      have q1 := tn.2.1
      have q2 := tn.2.2
      exact numV_tb (hxs8 i y _ hi gr) (by omega) (by omega)
    obtain ⟨k, hk⟩ : ∃ k : Nat, d2 = (k : Int) := ⟨d2.toNat, by omega⟩
    subst hk
    have hkl : k < xs.length := by omega
    walk_at "go"
    refine w_ite (fun hc => ?_) (fun hc => ?_)
    · walk_at "go"
      refine q _ _ ⟨hodd.1.up, fun e => ?_⟩ mv08 hb8
      rw [row_no1 hodd.1 hm1] at e
      cases e
    walk_at "go"
    refine w_ite (fun hc1 => ?_) (fun hc1 => ?_)
    · walk_at "go"
      refine ⟨_, _, rfl, .inr (SqT.of hpx8), fun l hl => ?_⟩
      have s9 := same_upd (o := HO.lst xs) hl
      refine q _ _ ⟨TB.lst upd_same, fun e => ?_⟩ (mv08.trans (Mv.same s9)) (hb8.same s9)
      rw [row_lst upd_same] at e
      cases e
    walk_at "go"
    refine w_ite (fun hc2 => ?_) (fun hc2 => ?_)
    · walk_at "go"
      refine w_slX hpx8 fun p9 H9 s9 h9 => ?_
      walk_at "go"
      refine w_slX (s9 _ _ hpx8) fun p10 H10 s10 h10 => ?_
      rw [cut_take] at h9
      rw [show ((k : Int) + 1) = ((k + 1 : Nat) : Int) by omega, cut_drop] at h10
      refine w_catX (s10 _ _ h9) h10 (by rw [List.length_take, List.length_drop]; omega) fun p11 H11 s11 h11 => ?_
      have s811 := s9.trans (s10.trans s11)
      refine q _ _ ⟨TB.tup h11 (by rw [List.length_append, List.length_take, List.length_drop]; omega) fun y hy => (tbx y ?_).kd (Kd.of s811), fun e => ?_⟩ (mv08.trans (Mv.same s811)) (hb8.same s811)
      · rcases List.mem_append.mp hy with h | h
        · exact List.mem_of_mem_take h
        · exact List.mem_of_mem_drop h
      · rw [row_len h11 (by rw [List.length_append, List.length_take, List.length_drop]; omega)] at e
        cases e
    walk_at "go"
    refine w_ite (fun hc3 => ?_) (fun hc3 => ?_)
    · walk_at "go"
      have gk : xs[k]? = some xs[k] := List.getElem?_eq_getElem hkl
      refine w_ixT hpx8 (atI_nat gk) ?_
      walk_at "go"
      refine w_new (by simp) fun p9 H9 hp9 s9 h9 => ?_
      refine w_catX (s9 _ _ hpx8) h9 (by simp; omega) fun p10 H10 s10 h10 => ?_
      have s810 := s9.trans s10
      refine q _ _ ⟨TB.tup h10 (by simp; omega) fun y hy => (tbx y ?_).kd (Kd.of s810), fun e => ?_⟩ (mv08.trans (Mv.same s810)) (hb8.same s810)
      · rcases List.mem_append.mp hy with h | h
        · exact h
        · rw [List.mem_singleton.mp h]
          exact List.getElem_mem hkl
      · rw [row_len h10 (by simp; omega)] at e
        cases e
    walk_at "go"
    refine w_slX hpx8 fun p9 H9 s9 h9 => ?_
    walk_at "go"
    refine w_new (by simp) fun p10 H10 hp10 s10 h10 => ?_
    rw [cut_take] at h9
    refine w_catX (s10 _ _ h9) h10 (by simp; omega) fun p11 H11 s11 h11 => ?_
    walk_at "go"
    refine w_slX (s11 _ _ (s10 _ _ (s9 _ _ hpx8))) fun p12 H12 s12 h12 => ?_
    rw [show ((k : Int) + 1) = ((k + 1 : Nat) : Int) by omega, cut_drop] at h12
    refine w_catX (s12 _ _ h11) h12 (by simp; omega) fun p13 H13 s13 h13 => ?_
    have s813 := s9.trans (s10.trans (s11.trans (s12.trans s13)))
    have eset : xs.take k ++ [vo] ++ xs.drop (k + 1) = xs.set k vo := by
      rw [List.set_eq_take_append_cons_drop, if_pos hkl, List.append_assoc]
      rfl
    rw [eset] at h13
    have tbs : ∀ y ∈ xs.set k vo, TB 200 1 H13 y := fun y hy => by
      rcases List.mem_or_eq_of_mem_set hy with h | h
      · exact (tbx y h).kd (Kd.of s813)
      · rw [h]
        exact hodd.1.kd (Kd.of s813)
    refine q _ _ ⟨TB.tup h13 (by rw [List.length_set]; omega) tbs, fun e => ?_⟩ (mv08.trans (Mv.same s813)) (hb8.same s813)
    rw [rowOf_tup h13, Bool.and_eq_true] at e
    have eo := List.all_eq_true.mp e.2 vo (List.mem_set hkl vo)
    rw [numOf_tb hodd.1 (Kd.of s813)] at eo
    obtain ⟨a, ha, hta⟩ := hodd.2 eo
    refine ⟨r.set k a, ⟨p13, _, rfl, h13, by rw [List.length_set, List.length_set, hlx], ?_⟩, by rw [List.length_set]; exact hrz.1, fun c hc' => ?_⟩
    · have ac : Acc NumV H13 xs r r.length := ⟨hlx, fun i y c e1 e2 => NumV.kt (hxs8 i y c e1 e2) (Kt.of s813)⟩
      exact (acc_set ac hkl (ha.kt (Kt.of s813))).2
    · rcases List.mem_or_eq_of_mem_set hc' with h | h
      · exact (hrz.2 c h).mono (by decide)
      · rw [h]
        exact hta
theorem ok_is_table {f : Addr} {fd : FuncData} (F : FnP K "is_table" s_is_table f fd)
    {f_is_row : Addr} {fd_is_row : FuncData} (F_is_row : FnP K "is_row" s_is_row f_is_row fd_is_row) (b_is_row : Binds K fd_is_row ["ground", "thing", "many"] []) (g_is_row : mg "is_row" = some (.ref f_is_row)) (G_is_row : FnOk P w K mg base CX0 3 f_is_row fd_is_row ["ground", "thing", "many"] (sp_is_row K)) (m_all : mg "all" = none) (m_isinstance : mg "isinstance" = none) (m_tuple : mg "tuple" = none) (m_len : mg "len" = none) :
    FnOk P w K mg base CX0 4 f fd ["ground", "thing", "high", "wide"] (sp_is_table K) := by
  refine F.ok sc_is_table (fun vs H Q E h => ?_) (fun cdv A outer s H vs Q E hr h => ?_)
  · obtain ⟨g, v, m, w, kb, nb, rfl, hv, q⟩ := h
    rfl
  · obtain ⟨g, v, m, w, kb, nb, rfl, hv, q⟩ := h
    refine ⟨_, PSs.nox (pss_cons (ps_if (PW.pt (pw_or (pt_not (pt_val (pe_callB call_isi (by rfl) m_isinstance (by decide +kernel) (pa_cons (pv 1) (pa_cons (pe_bltn (v := .ty "tuple") (by rfl) m_tuple (by decide +kernel) rfl) pa_nil))))) (pw_or1 (pt_cmpR op_ne (pe_callB call_len_seq (by rfl) m_len (by decide +kernel) (pa_cons (pv 1) pa_nil)) (pv 2) (nomark _))))) (pss_one (ps_ret pe_bl)) pss_nil)
        (pss_one (ps_ret (pe_callB (cr_all rfl) (by rfl) m_all (by decide +kernel) (pa_cons (pe_lc (own := [("row", 4)]) (g := gName 4) (tt := tYes) (by rfl) sc_is_table.nd (pi_tup (pv 1)) (blkOk_by (own := [("row", 4)]) (N := ["ground", "thing", "high", "wide", "row"]) (sc := defScope s_is_table) (by decide +kernel)) (fun _ _ _ _ _ => (pg_name (i := 4) sc_is_table.nd rfl (.inl rfl))) (fun _ _ _ _ _ => pts_nil) (fun _ _ _ _ _ => (pe_call G_is_row hr (by rfl) g_is_row F_is_row.kp b_is_row .nil pass0 (pa_cons (pv 0) (pa_cons (pv 4) (pa_cons (pv 3) pa_nil)))))) pa_nil))))), ?_⟩
    walk_at "go"
    refine tb_tup hv (fun p xs e hp hz hx => ?_) (fun hn => ?_)
    · subst e
      rw [tabOf_tup hp] at q
      walk_at "go"
      refine iteF ?_
      walk_at "go"
      refine ⟨p, xs, rfl, .inr (SqT.of hp), ?_⟩
      walk_at "go"
      refine w_iteN (fun hl => ?_) (fun hl => ?_)
      · walk_at "go"
        rw [decide_eq_false hl] at q
        exact q _ (Same.refl _)
      · rw [decide_eq_true hl] at q
        walk_at "go"
        refine ⟨p, rfl, ⟨xs, SqT.of hp⟩, fun D hD => ?_⟩
        refine lc_tup (xs := xs) (fun i H' => Same H H' ∧ H' D = some (.lst (((xs.map (rowOf H g w)).take i).map V.bl))) ⟨Same.updD (Same.refl H) hD, upd_same⟩ (fun i H' _ hP => SqT.of (hP.1 _ _ hp)) (fun i x H' hxi hP => ?_) (fun H' hP => ?_)
        · obtain ⟨sm, hD'⟩ := hP
          have hmem := List.mem_of_getElem? hxi
          walk_at "go"
          refine ⟨rfl, ?_⟩
          walk_at "go"
          refine ⟨g, x, w, kb, nb, rfl, (hx x hmem).kd (Kd.of sm), fun H2 s2 => ?_⟩
          rw [rowOf_tb (hx x hmem) (Kd.of sm)]
          refine ⟨_, s2 _ _ hD', ?_, Same.updD (sm.trans s2) hD, ?_⟩
          · rw [List.length_map]
            exact small1000 (Nat.le_trans (List.length_take_le' _ _) (by rw [List.length_map]; omega))
          · rw [upd_same, List.take_add_one, List.getElem?_map, hxi, List.map_append]
            rfl
        · obtain ⟨sm, hD'⟩ := hP
          walk_at "go"
          rw [List.take_of_length_le (by rw [List.length_map]; exact Nat.le_refl _)] at hD'
          refine ⟨D, _, rfl, SqL.of hD', ?_⟩
          rw [all_map]
          exact q _ sm
    · rw [tabOf_no hn] at q
      walk_at "go"
      refine iteT ?_
      walk_at "go"
      exact q _ (Same.refl _)
theorem ok_product {f : Addr} {fd : FuncData} (F : FnP K "product" s_product f fd)
    {f_whole_row : Addr} {fd_whole_row : FuncData} (F_whole_row : FnP K "whole_row" s_whole_row f_whole_row fd_whole_row) (b_whole_row : Binds K fd_whole_row ["row"] []) (g_whole_row : mg "whole_row" = some (.ref f_whole_row)) (G_whole_row : FnOk P w K mg base CX0 2 f_whole_row fd_whole_row ["row"] (sp_whole_row K))
    {f_turned : Addr} {fd_turned : FuncData} (F_turned : FnP K "turned" s_turned f_turned fd_turned) (b_turned : Binds K fd_turned ["table"] []) (g_turned : mg "turned" = some (.ref f_turned)) (G_turned : FnOk P w K mg base CX0 1 f_turned fd_turned ["table"] (sp_turned K))
    {f_product_row : Addr} {fd_product_row : FuncData} (F_product_row : FnP K "product_row" s_product_row f_product_row fd_product_row) (b_product_row : Binds K fd_product_row ["ground", "row", "columns"] []) (g_product_row : mg "product_row" = some (.ref f_product_row)) (G_product_row : FnOk P w K mg base CX0 3 f_product_row fd_product_row ["ground", "row", "columns"] (sp_product_row K)) (m_tuple : mg "tuple" = none) :
    FnOk P w K mg base CX0 4 f fd ["ground", "one", "other"] (sp_product K) := by
  refine F.ok sc_product (fun vs H Q E h => ?_) (fun cdv A outer s H vs Q E hr h => ?_)
  · obtain ⟨g, v1, v2, t1, t2, n, l, k, rfl, hg, hv1, hv2, h1, ht2, h2, hn0, hn, hl, ht1, hk0, hkn, hk, q⟩ := h
    rfl
  · obtain ⟨g, v1, v2, t1, t2, n, l, k, rfl, hg, hv1, hv2, h1, ht2, h2, hn0, hn, hl, ht1, hk0, hkn, hk, q⟩ := h
    refine ⟨_, PSs.nox (pss_cons (ps_set (i := 3) sc_product.nd rfl (.inr rfl) (pe_lc (own := [("column", 4)]) (g := gName 4) (tt := tYes) (by rfl) sc_product.nd (pi_tup (pe_call G_turned (hr.mono (by decide)) (by rfl) g_turned F_turned.kp b_turned .nil pass0 (pa_cons (pv 2) pa_nil))) (blkOk_by (own := [("column", 4)]) (N := ["ground", "one", "other", "columns", "column", "row"]) (sc := defScope s_product) (by decide +kernel)) (fun _ _ _ _ _ => (pg_name (i := 4) sc_product.nd rfl (.inl rfl))) (fun _ _ _ _ _ => pts_nil) (fun _ _ _ _ _ => (pe_call G_whole_row (hr.mono (by decide)) (by rfl) g_whole_row F_whole_row.kp b_whole_row .nil pass0 (pa_cons (pv 4) pa_nil)))))
        (pss_one (ps_ret (pe_callTy call_tuple_of (by rfl) m_tuple (by decide +kernel) (pa_cons (pe_lc (own := [("row", 5)]) (g := gName 5) (tt := tYes) (by rfl) sc_product.nd (pi_tup (pv 1)) (blkOk_by (own := [("row", 5)]) (N := ["ground", "one", "other", "columns", "column", "row"]) (sc := defScope s_product) (by decide +kernel)) (fun _ _ _ _ _ => (pg_name (i := 5) sc_product.nd rfl (.inl rfl))) (fun _ _ _ _ _ => pts_nil) (fun _ _ _ _ _ => (pe_call G_product_row hr (by rfl) g_product_row F_product_row.kp b_product_row .nil pass0 (pa_cons (pv 0) (pa_cons (pe_call G_whole_row (hr.mono (by decide)) (by rfl) g_whole_row F_whole_row.kp b_whole_row .nil pass0 (pa_cons (pv 5) pa_nil)) (pa_cons (pv 3) pa_nil)))))) pa_nil))))), ?_⟩
    walk_at "go"
    refine ⟨v2, t2, l, rfl, hv2, by omega, by omega, fun r hr' => (h2 r hr').1, hl, fun vt H1 s1 htv => ?_⟩
    obtain ⟨pt, cx, rfl, hpt, hlcx, hcx⟩ := htv
    have hcols := turn_ok ht2 h2
    have hlt : (turnF l t2).length = l := by unfold turnF; rw [List.length_map, List.length_range]
    refine ⟨pt, rfl, ⟨cx, SqT.of hpt⟩, fun D hD => ?_⟩
    refine lc_tup (xs := cx) (fun i H' => Same H1 H' ∧ ∃ cs, H' D = some (.lst cs) ∧ Acc (WRn D) H' cs (turnF l t2) i) ⟨Same.updD (Same.refl H1) hD, [], upd_same, Acc.nil⟩ (fun i H' _ hP => SqT.of (hP.1 _ _ hpt)) (fun i x H' hxi hP => ?_) (fun H2 hP => ?_)
    · obtain ⟨sm, cs, hD', hacc⟩ := hP
      have hi : i < (turnF l t2).length := by
        have := (List.getElem?_eq_some_iff.mp hxi).1
        omega
      have hti : (turnF l t2)[i]? = some (turnF l t2)[i] := List.getElem?_eq_getElem hi
      have hmem := List.getElem_mem hi
      walk_at "go"
      refine ⟨rfl, ?_⟩
      walk_at "go"
      refine ⟨x, (turnF l t2)[i], g, k, rfl, RowV.kt (hcx i x _ hxi hti) (Kt.of sm), (hcols _ hmem).2, hk0, by rw [(hcols _ hmem).1]; omega, by omega, by have := (hcols _ hmem).1; omega, fun p3 L3 H3 s3 hL3 h3 h3L => ?_⟩
      have h3D := s3 _ _ hD'
      have nL : L3 ≠ D := fun e => by
        rw [e, hD'] at hL3
        cases hL3
      refine ⟨cs, h3D, small1000 (by rw [hacc.1]; omega), Same.updD (sm.trans s3) hD, _, upd_same, ?_⟩
      exact (hacc.mono fun x a h => (h.sm s3).upd h3D).snoc hti (WRn.upd ⟨p3, L3, rfl, nL, h3, h3L⟩ h3D)
    · obtain ⟨sm, cs, hD', hacc⟩ := hP
      obtain ⟨p1, xs, rfl, hp1, hlx, hx⟩ := hv1
      have s02 := s1.trans sm
      have hp1' := s02 _ _ hp1
      walk_at "go"
      refine ⟨p1, rfl, ⟨xs, SqT.of hp1'⟩, fun D2 hD2 => ?_⟩
      refine lc_tup (xs := xs) (fun i H' => Same H2 H' ∧ ∃ ys, H' D2 = some (.lst ys) ∧ Acc RowV H' ys (t1.map fun r => (turnF l t2).map (cellF g r)) i) ⟨Same.updD (Same.refl H2) hD2, [], upd_same, Acc.nil⟩ (fun i H' _ hP => SqT.of (hP.1 _ _ hp1')) (fun i x H' hxi hP => ?_) (fun H' hP => ?_)
      · obtain ⟨sm3, ys, hD2', hacc2⟩ := hP
        have hi : i < t1.length := by
          have := (List.getElem?_eq_some_iff.mp hxi).1
          omega
        have hti : t1[i]? = some t1[i] := List.getElem?_eq_getElem hi
        have hmem := List.getElem_mem hi
        walk_at "go"
        refine ⟨rfl, ?_⟩
        walk_at "go"
        refine ⟨x, t1[i], g, k, rfl, RowV.kt (hx i x _ hxi hti) (Kt.of (s02.trans sm3)), (h1 _ hmem).2, hk0, by rw [(h1 _ hmem).1]; omega, by omega, by have := (h1 _ hmem).1; omega, fun p4 L4 H4 s4 hL4 h4 h4L => ?_⟩
        walk_at "go"
        have s24 := sm3.trans s4
        refine ⟨g, .ref p4, D, t1[i], turnF l t2, cs, k, rfl, hg, ⟨p4, L4, rfl, h4, h4L⟩, (h1 _ hmem).2, s24 _ _ hD', by rw [hacc.1]; exact hlcx, fun j y s hy hs => ?_, fun s hs => ⟨by rw [(hcols s hs).1, (h1 _ hmem).1], (hcols s hs).2⟩, by rw [(h1 _ hmem).1]; exact hkn, hk, by have := (h1 _ hmem).1; omega, by omega, fun v5 H5 s5 h5 => ?_⟩
        · obtain ⟨pp, LL, e1, _, e2, e3⟩ := hacc.2 j y s hy hs
          exact ⟨pp, LL, e1, s24 _ _ e2, s24 _ _ e3⟩
        · have hD5 := s5 _ _ (s4 _ _ hD2')
          have kt : Kt H' (upd H5 D2 (.lst (ys ++ [v5]))) := (Kt.of (s4.trans s5)).trans (Kt.updL hD5)
          refine ⟨ys, hD5, small1000 (by rw [hacc2.1]; omega), Same.updD ((sm3.trans s4).trans s5) hD2, _, upd_same, ?_⟩
          exact (hacc2.mono fun x a h => RowV.kt h kt).snoc (by rw [List.getElem?_map, hti]; rfl) (RowV.kt h5 (Kt.updL hD5))
      · obtain ⟨sm3, ys, hD2', hacc2⟩ := hP
        walk_at "go"
        refine ⟨_, _, rfl, .inl ⟨SqL.of hD2', fun m hm => ?_⟩⟩
        exact q _ _ (s02.trans (sm3.trans (same_upd hm))) ((hacc2.mono fun x a h => RowV.kt h (Kt.of (same_upd hm))).sq (by rw [List.length_map]; exact hlx) upd_same)
theorem ok_row_plus {f : Addr} {fd : FuncData} (F : FnP K "row_plus" s_row_plus f fd)
    {f_plus : Addr} {fd_plus : FuncData} (F_plus : FnP K "plus" s_plus f_plus fd_plus) (b_plus : Binds K fd_plus ["ground", "x", "y"] []) (g_plus : mg "plus" = some (.ref f_plus)) (G_plus : FnOk P w K mg base CX0 3 f_plus fd_plus ["ground", "x", "y"] (sp_plus K)) (m_tuple : mg "tuple" = none) (m_zip : mg "zip" = none) :
    FnOk P w K mg base CX0 4 f fd ["ground", "row", "other"] (sp_row_plus K) := by
  refine F.ok sc_row_plus (fun vs H Q E h => ?_) (fun cdv A outer s H vs Q E hr h => ?_)
  · obtain ⟨g, x, y, rx, ry, k, rfl, hg, hx, hy, hl, hn, hgx, hgy, hk4, hk, q⟩ := h
    rfl
  · obtain ⟨g, x, y, rx, ry, k, rfl, hg, hx, hy, hl, hn, hgx, hgy, hk4, hk, q⟩ := h
    refine ⟨_, PSs.nox (pss_one (ps_ret (pe_callTy call_tuple_of (by rfl) m_tuple (by decide +kernel) (pa_cons (pe_lc (own := [("x", 3), ("y", 4)]) (g := gTup K 2 (gCons (gName 3) (gCons (gName 4) (gNil)))) (tt := tYes) (by rfl) sc_row_plus.nd (RZ.pi_zipA (by rfl) m_zip (pa_cons (pv 1) (pa_cons (pv 2) pa_nil))) (blkOk_by (own := [("x", 3), ("y", 4)]) (N := ["ground", "row", "other", "x", "y"]) (sc := defScope s_row_plus) (by decide +kernel)) (fun _ _ _ _ _ => (pg_tup rfl (pgs_cons (pg_name (i := 3) sc_row_plus.nd rfl (.inl rfl)) (pgs_cons (pg_name (i := 4) sc_row_plus.nd rfl (.inl rfl)) pgs_nil)))) (fun _ _ _ _ _ => pts_nil) (fun _ _ _ _ _ => (pe_call G_plus hr (by rfl) g_plus F_plus.kp b_plus .nil pass0 (pa_cons (pv 0) (pa_cons (pv 3) (pa_cons (pv 4) pa_nil)))))) pa_nil)))), ?_⟩
    obtain ⟨px, xs, rfl, hpx, hlx, hxs⟩ := hx
    obtain ⟨py, ys, rfl, hpy, hly, hys⟩ := hy
    walk_at "go"
    refine ⟨px, py, xs, ys, rfl, .inr ⟨SqT.of hpx, SqT.of hpy, fun D hD => ?_⟩⟩
    refine lc_it (walk_zipT (xs := xs) (ys := ys) (n := rx.length) (by omega)) (fun i H' => Same H H' ∧ ∃ zs : List V, H' D = some (.lst zs) ∧ Acc NumV H' zs (List.zipWith (plusF g) rx ry) i) ⟨Same.updD (Same.refl H) hD, [], upd_same, Acc.nil⟩ (fun i H' _ hP => ⟨SqT.of (hP.1 _ _ hpx), SqT.of (hP.1 _ _ hpy)⟩) (fun i v H1 H2 hi hP hY => ?_) (fun H' hP => ?_)
    · obtain ⟨sm, zs, hzs, hz⟩ := hP
      obtain ⟨T, u, v', rfl, hT, rfl, hu, hv⟩ := hY
      have s2 : Same H1 (upd H1 T (.tup [u, v'])) := same_upd hT
      have hTT : (upd H1 T (.tup [u, v'])) T = some (.tup [u, v']) := upd_same
      generalize upd H1 T (.tup [u, v']) = H2 at s2 hTT ⊢
      have ga : rx[i]? = some (rx[i]'(by omega)) := List.getElem?_eq_getElem (by omega)
      have gc : ry[i]? = some (ry[i]'(by omega)) := List.getElem?_eq_getElem (by omega)
      have na := hgx _ (List.getElem_mem (show i < rx.length by omega))
      have nc := hgy _ (List.getElem_mem (show i < ry.length by omega))
      walk_at "go"
      refine ⟨rfl, ?_⟩
      walk_at "go"
      have s02 := sm.trans s2
      refine ⟨g, u, v', _, _, k, k, rfl, hg, (hxs i u _ hu ga).kt (Kt.of s02), (hys i v' _ hv gc).kt (Kt.of s02), na, nc, hk4, hk4, hk, hk, fun p3 H3 hp3 s3 h3 => ?_⟩
      have h3D := s3 _ _ (s2 _ _ hzs)
      have kt : Kt H1 (upd H3 D (.lst (zs ++ [V.ref p3]))) := (Kt.of (s2.trans s3)).trans (Kt.updL h3D)
      refine ⟨zs, h3D, small1000 (by rw [hz.1]; omega), Same.updD (s02.trans s3) hD, _, upd_same, ?_⟩
      exact (hz.mono fun x a h => NumV.kt h kt).snoc (a := plusF g (rx[i]'(by omega)) (ry[i]'(by omega))) (by rw [List.getElem?_zipWith, ga, gc]) ⟨p3, rfl, Kt.updL h3D _ _ h3⟩
    · obtain ⟨sm, zs, hzs, hz⟩ := hP
      walk_at "go"
      refine ⟨D, zs, rfl, .inl ⟨SqL.of hzs, fun l hl' => ?_⟩⟩
      exact q _ _ (sm.trans (same_upd hl')) ((hz.mono fun x a h => NumV.kt h (Kt.of (same_upd hl'))).sq (by rw [List.length_zipWith]; omega) upd_same)
theorem ok_row_less {f : Addr} {fd : FuncData} (F : FnP K "row_less" s_row_less f fd)
    {f_less : Addr} {fd_less : FuncData} (F_less : FnP K "less" s_less f_less fd_less) (b_less : Binds K fd_less ["ground", "x", "y"] []) (g_less : mg "less" = some (.ref f_less)) (G_less : FnOk P w K mg base CX0 3 f_less fd_less ["ground", "x", "y"] (sp_less K)) (m_tuple : mg "tuple" = none) (m_zip : mg "zip" = none) :
    FnOk P w K mg base CX0 4 f fd ["ground", "row", "other"] (sp_row_less K) := by
  refine F.ok sc_row_less (fun vs H Q E h => ?_) (fun cdv A outer s H vs Q E hr h => ?_)
  · obtain ⟨g, x, y, rx, ry, k, rfl, hg, hx, hy, hl, hn, hgx, hgy, hk4, hk, q⟩ := h
    rfl
  · obtain ⟨g, x, y, rx, ry, k, rfl, hg, hx, hy, hl, hn, hgx, hgy, hk4, hk, q⟩ := h
    refine ⟨_, PSs.nox (pss_one (ps_ret (pe_callTy call_tuple_of (by rfl) m_tuple (by decide +kernel) (pa_cons (pe_lc (own := [("x", 3), ("y", 4)]) (g := gTup K 2 (gCons (gName 3) (gCons (gName 4) (gNil)))) (tt := tYes) (by rfl) sc_row_less.nd (RZ.pi_zipA (by rfl) m_zip (pa_cons (pv 1) (pa_cons (pv 2) pa_nil))) (blkOk_by (own := [("x", 3), ("y", 4)]) (N := ["ground", "row", "other", "x", "y"]) (sc := defScope s_row_less) (by decide +kernel)) (fun _ _ _ _ _ => (pg_tup rfl (pgs_cons (pg_name (i := 3) sc_row_less.nd rfl (.inl rfl)) (pgs_cons (pg_name (i := 4) sc_row_less.nd rfl (.inl rfl)) pgs_nil)))) (fun _ _ _ _ _ => pts_nil) (fun _ _ _ _ _ => (pe_call G_less hr (by rfl) g_less F_less.kp b_less .nil pass0 (pa_cons (pv 0) (pa_cons (pv 3) (pa_cons (pv 4) pa_nil)))))) pa_nil)))), ?_⟩
    obtain ⟨px, xs, rfl, hpx, hlx, hxs⟩ := hx
    obtain ⟨py, ys, rfl, hpy, hly, hys⟩ := hy
    walk_at "go"
    refine ⟨px, py, xs, ys, rfl, .inr ⟨SqT.of hpx, SqT.of hpy, fun D hD => ?_⟩⟩
    refine lc_it (walk_zipT (xs := xs) (ys := ys) (n := rx.length) (by omega)) (fun i H' => Same H H' ∧ ∃ zs : List V, H' D = some (.lst zs) ∧ Acc NumV H' zs (List.zipWith (lessF g) rx ry) i) ⟨Same.updD (Same.refl H) hD, [], upd_same, Acc.nil⟩ (fun i H' _ hP => ⟨SqT.of (hP.1 _ _ hpx), SqT.of (hP.1 _ _ hpy)⟩) (fun i v H1 H2 hi hP hY => ?_) (fun H' hP => ?_)
    · obtain ⟨sm, zs, hzs, hz⟩ := hP
      obtain ⟨T, u, v', rfl, hT, rfl, hu, hv⟩ := hY
      have s2 : Same H1 (upd H1 T (.tup [u, v'])) := same_upd hT
      have hTT : (upd H1 T (.tup [u, v'])) T = some (.tup [u, v']) := upd_same
      generalize upd H1 T (.tup [u, v']) = H2 at s2 hTT ⊢
      have ga : rx[i]? = some (rx[i]'(by omega)) := List.getElem?_eq_getElem (by omega)
      have gc : ry[i]? = some (ry[i]'(by omega)) := List.getElem?_eq_getElem (by omega)
      have na := hgx _ (List.getElem_mem (show i < rx.length by omega))
      have nc := hgy _ (List.getElem_mem (show i < ry.length by omega))
      walk_at "go"
      refine ⟨rfl, ?_⟩
      walk_at "go"
      have s02 := sm.trans s2
      refine ⟨g, u, v', _, _, k, k, rfl, hg, (hxs i u _ hu ga).kt (Kt.of s02), (hys i v' _ hv gc).kt (Kt.of s02), na, nc, hk4, hk4, hk, hk, fun p3 H3 hp3 s3 h3 => ?_⟩
      have h3D := s3 _ _ (s2 _ _ hzs)
      have kt : Kt H1 (upd H3 D (.lst (zs ++ [V.ref p3]))) := (Kt.of (s2.trans s3)).trans (Kt.updL h3D)
      refine ⟨zs, h3D, small1000 (by rw [hz.1]; omega), Same.updD (s02.trans s3) hD, _, upd_same, ?_⟩
      exact (hz.mono fun x a h => NumV.kt h kt).snoc (a := lessF g (rx[i]'(by omega)) (ry[i]'(by omega))) (by rw [List.getElem?_zipWith, ga, gc]) ⟨p3, rfl, Kt.updL h3D _ _ h3⟩
    · obtain ⟨sm, zs, hzs, hz⟩ := hP
      walk_at "go"
      refine ⟨D, zs, rfl, .inl ⟨SqL.of hzs, fun l hl' => ?_⟩⟩
      exact q _ _ (sm.trans (same_upd hl')) ((hz.mono fun x a h => NumV.kt h (Kt.of (same_upd hl'))).sq (by rw [List.length_zipWith]; omega) upd_same)
theorem ok_row_times {f : Addr} {fd : FuncData} (F : FnP K "row_times" s_row_times f fd)
    {f_times : Addr} {fd_times : FuncData} (F_times : FnP K "times" s_times f_times fd_times) (b_times : Binds K fd_times ["ground", "x", "y"] []) (g_times : mg "times" = some (.ref f_times)) (G_times : FnOk P w K mg base CX0 3 f_times fd_times ["ground", "x", "y"] (sp_times K)) (m_tuple : mg "tuple" = none) :
    FnOk P w K mg base CX0 4 f fd ["ground", "row", "factor"] (sp_row_times K) := by
  refine F.ok sc_row_times (fun vs H Q E h => ?_) (fun cdv A outer s H vs Q E hr h => ?_)
  · obtain ⟨g, x, y, r, c, k, l, rfl, hg, hx, hy, hr2, hc, hk4, hl4, hk, hl, hz, q⟩ := h
    rfl
  · obtain ⟨g, x, y, r, c, k, l, rfl, hg, hx, hy, hr2, hc, hk4, hl4, hk, hl, hz, q⟩ := h
    refine ⟨_, PSs.nox (pss_one (ps_ret (pe_callTy call_tuple_of (by rfl) m_tuple (by decide +kernel) (pa_cons (pe_lc (own := [("x", 3)]) (g := gName 3) (tt := tYes) (by rfl) sc_row_times.nd (pi_tup (pv 1)) (blkOk_by (own := [("x", 3)]) (N := ["ground", "row", "factor", "x"]) (sc := defScope s_row_times) (by decide +kernel)) (fun _ _ _ _ _ => (pg_name (i := 3) sc_row_times.nd rfl (.inl rfl))) (fun _ _ _ _ _ => pts_nil) (fun _ _ _ _ _ => (pe_call G_times hr (by rfl) g_times F_times.kp b_times .nil pass0 (pa_cons (pv 0) (pa_cons (pv 3) (pa_cons (pv 2) pa_nil)))))) pa_nil)))), ?_⟩
    obtain ⟨p, xs, rfl, hp, hlx, hxs⟩ := hx
    walk_at "go"
    refine ⟨p, rfl, ⟨xs, SqT.of hp⟩, fun D hD => ?_⟩
    refine lc_tup (xs := xs) (fun i H' => Same H H' ∧ ∃ ys, H' D = some (.lst ys) ∧ Acc NumV H' ys (r.map fun a => timesF g a c) i) ⟨Same.updD (Same.refl H) hD, [], upd_same, Acc.nil⟩ (fun i H' _ hP => SqT.of (hP.1 _ _ hp)) (fun i x H' hxi hP => ?_) (fun H' hP => ?_)
    · obtain ⟨sm, ys, hD', hacc⟩ := hP
      have hi : i < r.length := by
        have := (List.getElem?_eq_some_iff.mp hxi).1
        omega
      have hri : r[i]? = some r[i] := List.getElem?_eq_getElem hi
      have hmem := List.getElem_mem hi
      walk_at "go"
      refine ⟨rfl, ?_⟩
      walk_at "go"
      refine ⟨g, x, y, r[i], c, k, l, rfl, hg, (hxs i x _ hxi hri).kt (Kt.of sm), hy.kt (Kt.of sm), hr2 _ hmem, hc, hk4, hl4, hk, hl, fun p3 H3 hp3 s3 h3 => ?_⟩
      have h3D := s3 _ _ hD'
      have kt : Kt H' (upd H3 D (.lst (ys ++ [V.ref p3]))) := (Kt.of s3).trans (Kt.updL h3D)
      refine ⟨ys, h3D, small1000 (by rw [hacc.1]; omega), Same.updD (sm.trans s3) hD, _, upd_same, ?_⟩
      refine (hacc.mono fun x a h => NumV.kt h kt).snoc (a := timesF g r[i] c) (by rw [List.getElem?_map, hri]; rfl) ⟨p3, rfl, Kt.updL h3D _ _ h3⟩
    · obtain ⟨sm, ys, hD', hacc⟩ := hP
      walk_at "go"
      refine ⟨_, _, rfl, .inl ⟨SqL.of hD', fun m hm => ?_⟩⟩
      exact q _ _ (sm.trans (same_upd hm)) ((hacc.mono fun x a h => NumV.kt h (Kt.of (same_upd hm))).sq (by rw [List.length_map]; exact hlx) upd_same)
theorem ok_want_rows {f : Addr} {fd : FuncData} (F : FnP K "want_rows" s_want_rows f fd)
    {f_is_row : Addr} {fd_is_row : FuncData} (F_is_row : FnP K "is_row" s_is_row f_is_row fd_is_row) (b_is_row : Binds K fd_is_row ["ground", "thing", "many"] []) (g_is_row : mg "is_row" = some (.ref f_is_row)) (G_is_row : FnOk P w K mg base CX0 3 f_is_row fd_is_row ["ground", "thing", "many"] (sp_is_row K)) (R_NoRow : RaiseC K mg "NoRow") (CF : FormC K) (m_len : mg "len" = none) :
    FnOk P w K mg base (L2N.CX P w) 4 f fd ["form", "things"] (sp_want_rows K) := by
  refine F.ok sc_want_rows (fun vs H Q E h => ?_) (fun cdv A outer s H vs Q E hr h => ?_)
  · obtain ⟨f, tv, g, L, xs, t, m, kb, rfl, hf, ht, htl, hL, hxs, q, qe⟩ := h
    rfl
  · obtain ⟨f, tv, g, L, xs, t, m, kb, rfl, hf, ht, htl, hL, hxs, q, qe⟩ := h
    refine ⟨_, id (pss_one (ps_for PassesOwn.leaving rfl (pi_list (pv 1)) (pg_name (i := 2) sc_want_rows.nd rfl (.inl rfl)) (pss_one (ps_if (pt_not (pt_val (pe_call G_is_row hr (by rfl) g_is_row F_is_row.kp b_is_row .nil pass0 (pa_cons (pe_fld (pv 0) rfl) (pa_cons (pv 2) (pa_cons (pe_callB call_len_seq (by rfl) m_len (by decide +kernel) (pa_cons (pe_fld (pv 0) rfl) pa_nil)) pa_nil)))))) (pss_one (L2N.ps_raise rfl (L2N.takes_of rfl rfl rfl rfl) (L2N.pmk_own PySem.F.excBase_ValueError R_NoRow.e R_NoRow.g R_NoRow.k (raises_own R_NoRow.b R_NoRow.t) rfl))) pss_nil)))), ?_⟩
    obtain ⟨p, ps, rfl, hp, hlp, _⟩ := ht
    have hpm : ((ps.length : Nat) : Int) = (m : Int) := by omega
    walk_at "go"
    refine ⟨L, rfl, ⟨xs, SqL.of hL⟩, ?_⟩
    refine for_list (xs := xs) (fun i σ H' => (∃ y2, σ = [some f, some (.ref L), y2]) ∧ Same H H' ∧ ∀ (j : Nat) (x : V), j < i → xs[j]? = some x → rowOf H g (m : Int) x = true) ⟨⟨_, rfl⟩, Same.refl H, fun j x h => absurd h (Nat.not_lt_zero _)⟩ (fun i σ H' _ hP => SqL.of (hP.2.1 _ _ hL)) (fun i x σ H' hxi hP => ?_) (fun σ H' hP => ?_)
    · obtain ⟨⟨y2, rfl⟩, sm, hall⟩ := hP
      have hm := List.mem_of_getElem? hxi
      have hx := hxs x hm
      walk_at "go"
      refine w_gnd CF (hf.sm sm) ?_
      walk_at "go"
      refine w_tab CF (hf.sm sm) ?_
      walk_at "go"
      refine ⟨p, ps, rfl, .inr (SqT.of (sm _ _ hp)), ?_⟩
      walk_at "go"
      refine ⟨g, x, (ps.length : Int), kb, 0, rfl, hx.kd (Kd.of sm), fun H1 s1 => ?_⟩
      rw [hpm, rowOf_tb hx (Kd.of sm)]
      have s01 := sm.trans s1
      cases e : rowOf H g (m : Int) x with
      | false =>
        walk_at "go"
        refine iteT ?_
        walk_at "go"
        exact qe ⟨x, hm, e⟩ _ s01
      | true =>
        walk_at "go"
        refine iteF ?_
        walk_at "go"
        refine ⟨⟨_, rfl⟩, s01, fun j y hj hy => ?_⟩
        by_cases h : j < i
        · exact hall j y h hy
        · have : j = i := by omega
          subst this
          rw [hxi] at hy
          cases hy
          exact e
    · obtain ⟨⟨y2, rfl⟩, sm, hall⟩ := hP
      refine q (fun x hx => ?_) _ sm
      obtain ⟨j, hj⟩ := List.getElem?_of_mem hx
      exact hall j x (List.getElem?_eq_some_iff.mp hj).1 hj
theorem ok__law_sum {f : Addr} {fd : FuncData} (F : FnP K "_law_sum" s__law_sum f fd)
    {f__law_plus : Addr} {fd__law_plus : FuncData} (F__law_plus : FnP K "_law_plus" s__law_plus f__law_plus fd__law_plus) (b__law_plus : Binds K fd__law_plus ["_law_g", "_law_x", "_law_y"] []) (g__law_plus : mg "_law_plus" = some (.ref f__law_plus)) (G__law_plus : FnOk P w K mg base CX0 3 f__law_plus fd__law_plus ["_law_g", "_law_x", "_law_y"] (sp__law_plus K)) :
    FnOk P w K mg base CX0 4 f fd ["_law_g", "_law_some"] (sp__law_sum K) := by
  refine F.ok sc__law_sum (fun vs H Q E h => ?_) (fun cdv A outer s H vs Q E hr h => ?_)
  · obtain ⟨g, L, xs, as, D, M, k, F', R, W, rfl, hg, hL, hacc, has, hD0, hD, hM, hk4, hk, q⟩ := h
    rfl
  · obtain ⟨g, L, xs, as, D, M, k, F', R, W, rfl, hg, hL, hacc, has, hD0, hD, hM, hk4, hk, q⟩ := h
    refine ⟨_, PSs.nox (pss_cons (ps_set (i := 2) sc__law_sum.nd rfl (.inl rfl) (pe_tup (pa_cons pe_int (pa_cons pe_int pa_nil))))
        (pss_cons (ps_for PassesOwn.never rfl (pi_list (pv 1)) (pg_name (i := 3) sc__law_sum.nd rfl (.inl rfl)) (pss_one (ps_set (i := 2) sc__law_sum.nd rfl (.inl rfl) (pe_call G__law_plus hr (by rfl) g__law_plus F__law_plus.kp b__law_plus .nil pass0 (pa_cons (pv 0) (pa_cons (pv 2) (pa_cons (pv 3) pa_nil)))))))
        (pss_one (ps_ret (pv 2))))), ?_⟩
    have ⟨hg0, hg13⟩ := grb hg
    walk_at "go"
    refine w_new (by simp) fun p1 H1 hp1 s1 h1 => ?_
    walk_at "go"
    refine ⟨L, rfl, ⟨xs, SqL.of (s1 _ _ hL)⟩, ?_⟩
    refine for_list (xs := xs) (fun i σ H' => Same H H' ∧ ∃ v y d, σ = [some (.int g), some (.ref L), some v, y] ∧ NumV H' v d ∧ TZ g D (i * M) d ∧ W.e d = SF (fun i => W.e (as.getD i (0, 1))) i) ⟨s1, _, _, (0, 1), rfl, ⟨p1, rfl, h1⟩, TZ.zero hg _ _, W.zero⟩ (fun i σ H' _ hP => SqL.of (hP.1 _ _ hL)) (fun i x σ H' hxi hP => ?_) (fun σ H' hP => ?_)
    · obtain ⟨sm, v, y, d, rfl, hv, td, ed⟩ := hP
      have hi : i < as.length := by
        have := (List.getElem?_eq_some_iff.mp hxi).1
        have := hacc.1
        omega
      have hai : as[i]? = some as[i] := List.getElem?_eq_getElem hi
      have ta := has _ (List.getElem_mem hi)
      have him : i * M ≤ (as.length + 1) * M := Nat.mul_le_mul_right _ (by omega)
      have h1m : 1 * M ≤ (as.length + 1) * M := Nat.mul_le_mul_right _ (by omega)
      walk_at "go"
      refine ⟨g, v, x, d, as[i], rfl, hg0, hg13, hv, (hacc.2 i x _ hxi hai).kt (Kt.of sm), (td.tn hg hk4 hD0 hD (by omega)).be hk, (ta.tn hg hk4 hD0 hD (by omega)).be hk, fun p2 H2 hp2 s2 h2 => ?_⟩
      walk_at "go"
      refine ⟨sm.trans s2, _, _, _, rfl, ⟨p2, rfl, h2⟩, ?_, ?_⟩
      · rw [Nat.succ_mul]
        exact td.plus hg ta
      · obtain ⟨⟨l, _, hl⟩, _⟩ := td
        obtain ⟨⟨m, _, hm⟩, _⟩ := ta
        rw [W.plus hg hl hm, ed]
        show _ = SF (fun i => W.e (as.getD i (0, 1))) i + W.e (as.getD i (0, 1))
        rw [List.getD_eq_getElem?_getD (i := i), hai]
        rfl
    · obtain ⟨sm, v, y, d, rfl, hv, td, ed⟩ := hP
      have hlx : xs.length = as.length := hacc.1
      rw [hlx] at td ed
      walk_at "go"
      exact q _ _ d sm hv td ed
theorem ok__law_scaled {f : Addr} {fd : FuncData} (F : FnP K "_law_scaled" s__law_scaled f fd)
    {f__law_times : Addr} {fd__law_times : FuncData} (F__law_times : FnP K "_law_times" s__law_times f__law_times fd__law_times) (b__law_times : Binds K fd__law_times ["_law_g", "_law_x", "_law_y"] []) (g__law_times : mg "_law_times" = some (.ref f__law_times)) (G__law_times : FnOk P w K mg base CX0 3 f__law_times fd__law_times ["_law_g", "_law_x", "_law_y"] (sp__law_times K)) (m_tuple : mg "tuple" = none) :
    FnOk P w K mg base CX0 4 f fd ["_law_g", "_law_row_here", "_law_x"] (sp__law_scaled K) := by
  refine F.ok sc__law_scaled (fun vs H Q E h => ?_) (fun cdv A outer s H vs Q E hr h => ?_)
  · obtain ⟨g, x, y, r, c, rfl, hg0, hg, hx, hy, hn, hgx, hgc, q⟩ := h
    rfl
  · obtain ⟨g, x, y, r, c, rfl, hg0, hg, hx, hy, hn, hgx, hgc, q⟩ := h
    refine ⟨_, PSs.nox (pss_one (ps_ret (pe_callTy call_tuple_of (by rfl) m_tuple (by decide +kernel) (pa_cons (pe_lc (own := [("_law_one", 3)]) (g := gName 3) (tt := tYes) (by rfl) sc__law_scaled.nd (pi_tup (pv 1)) (blkOk_by (own := [("_law_one", 3)]) (N := ["_law_g", "_law_row_here", "_law_x", "_law_one"]) (sc := defScope s__law_scaled) (by decide +kernel)) (fun _ _ _ _ _ => (pg_name (i := 3) sc__law_scaled.nd rfl (.inl rfl))) (fun _ _ _ _ _ => pts_nil) (fun _ _ _ _ _ => (pe_call G__law_times hr (by rfl) g__law_times F__law_times.kp b__law_times .nil pass0 (pa_cons (pv 0) (pa_cons (pv 3) (pa_cons (pv 2) pa_nil)))))) pa_nil)))), ?_⟩
    obtain ⟨px, xs, rfl, hpx, hlx, hxs⟩ := hx
    walk_at "go"
    refine ⟨px, rfl, ⟨xs, SqT.of hpx⟩, fun D hD => ?_⟩
    refine lc_tup (xs := xs) (fun i H' => Same H H' ∧ ∃ zs : List V, H' D = some (.lst zs) ∧ Acc NumV H' zs (r.map fun a => timesF g a c) i) ⟨Same.updD (Same.refl H) hD, [], upd_same, Acc.nil⟩ (fun i H' _ hP => SqT.of (hP.1 _ _ hpx)) (fun i x H1 hxi hP => ?_) (fun H' hP => ?_)
    · obtain ⟨sm, zs, hzs, hz⟩ := hP
      have hi : i < r.length := by
        have := (List.getElem?_eq_some_iff.mp hxi).1
        omega
      have gr : r[i]? = some r[i] := List.getElem?_eq_getElem hi
      walk_at "go"
      refine ⟨rfl, ?_⟩
      walk_at "go"
      refine ⟨g, x, y, _, c, rfl, hg0, hg, (hxs i x _ hxi gr).kt (Kt.of sm), hy.kt (Kt.of sm), hgx _ (List.getElem_mem hi), hgc, fun p3 H3 hp3 s3 h3 => ?_⟩
      have h3D := s3 _ _ hzs
      have kt : Kt H1 (upd H3 D (.lst (zs ++ [V.ref p3]))) := (Kt.of s3).trans (Kt.updL h3D)
      refine ⟨zs, h3D, small1000 (by rw [hz.1]; omega), Same.updD (sm.trans s3) hD, _, upd_same, ?_⟩
      exact (hz.mono fun x a h => NumV.kt h kt).snoc (a := timesF g r[i] c) (by rw [List.getElem?_map, gr]; rfl) ⟨p3, rfl, Kt.updL h3D _ _ h3⟩
    · obtain ⟨sm, zs, hzs, hz⟩ := hP
      walk_at "go"
      refine ⟨D, zs, rfl, .inl ⟨SqL.of hzs, fun l hl' => ?_⟩⟩
      exact q _ _ (sm.trans (same_upd hl')) ((hz.mono fun x a h => NumV.kt h (Kt.of (same_upd hl'))).sq (by rw [List.length_map]; exact hlx) upd_same)
theorem ok__law_added {f : Addr} {fd : FuncData} (F : FnP K "_law_added" s__law_added f fd)
    {f__law_plus : Addr} {fd__law_plus : FuncData} (F__law_plus : FnP K "_law_plus" s__law_plus f__law_plus fd__law_plus) (b__law_plus : Binds K fd__law_plus ["_law_g", "_law_x", "_law_y"] []) (g__law_plus : mg "_law_plus" = some (.ref f__law_plus)) (G__law_plus : FnOk P w K mg base CX0 3 f__law_plus fd__law_plus ["_law_g", "_law_x", "_law_y"] (sp__law_plus K)) (m_tuple : mg "tuple" = none) (m_zip : mg "zip" = none) :
    FnOk P w K mg base CX0 4 f fd ["_law_g", "_law_row_here", "_law_other"] (sp__law_added K) := by
  refine F.ok sc__law_added (fun vs H Q E h => ?_) (fun cdv A outer s H vs Q E hr h => ?_)
  · obtain ⟨g, x, y, rx, ry, rfl, hg0, hg, hx, hy, hl, hn, hgx, hgy, q⟩ := h
    rfl
  · obtain ⟨g, x, y, rx, ry, rfl, hg0, hg, hx, hy, hl, hn, hgx, hgy, q⟩ := h
    refine ⟨_, PSs.nox (pss_one (ps_ret (pe_callTy call_tuple_of (by rfl) m_tuple (by decide +kernel) (pa_cons (pe_lc (own := [("_law_one", 3), ("_law_two", 4)]) (g := gTup K 2 (gCons (gName 3) (gCons (gName 4) (gNil)))) (tt := tYes) (by rfl) sc__law_added.nd (RZ.pi_zipA (by rfl) m_zip (pa_cons (pv 1) (pa_cons (pv 2) pa_nil))) (blkOk_by (own := [("_law_one", 3), ("_law_two", 4)]) (N := ["_law_g", "_law_row_here", "_law_other", "_law_one", "_law_two"]) (sc := defScope s__law_added) (by decide +kernel)) (fun _ _ _ _ _ => (pg_tup rfl (pgs_cons (pg_name (i := 3) sc__law_added.nd rfl (.inl rfl)) (pgs_cons (pg_name (i := 4) sc__law_added.nd rfl (.inl rfl)) pgs_nil)))) (fun _ _ _ _ _ => pts_nil) (fun _ _ _ _ _ => (pe_call G__law_plus hr (by rfl) g__law_plus F__law_plus.kp b__law_plus .nil pass0 (pa_cons (pv 0) (pa_cons (pv 3) (pa_cons (pv 4) pa_nil)))))) pa_nil)))), ?_⟩
    obtain ⟨px, xs, rfl, hpx, hlx, hxs⟩ := hx
    obtain ⟨py, ys, rfl, hpy, hly, hys⟩ := hy
    walk_at "go"
    refine ⟨px, py, xs, ys, rfl, .inr ⟨SqT.of hpx, SqT.of hpy, fun D hD => ?_⟩⟩
    refine lc_it (walk_zipT (xs := xs) (ys := ys) (n := rx.length) (by omega)) (fun i H' => Same H H' ∧ ∃ zs : List V, H' D = some (.lst zs) ∧ Acc NumV H' zs (List.zipWith (plusF g) rx ry) i) ⟨Same.updD (Same.refl H) hD, [], upd_same, Acc.nil⟩ (fun i H' _ hP => ⟨SqT.of (hP.1 _ _ hpx), SqT.of (hP.1 _ _ hpy)⟩) (fun i v H1 H2 hi hP hY => ?_) (fun H' hP => ?_)
    · obtain ⟨sm, zs, hzs, hz⟩ := hP
      obtain ⟨T, u, v', rfl, hT, rfl, hu, hv⟩ := hY
      have s2 : Same H1 (upd H1 T (.tup [u, v'])) := same_upd hT
      have hTT : (upd H1 T (.tup [u, v'])) T = some (.tup [u, v']) := upd_same
      generalize upd H1 T (.tup [u, v']) = H2 at s2 hTT ⊢
      have ga : rx[i]? = some (rx[i]'(by omega)) := List.getElem?_eq_getElem (by omega)
      have gc : ry[i]? = some (ry[i]'(by omega)) := List.getElem?_eq_getElem (by omega)
      have na := hgx _ (List.getElem_mem (show i < rx.length by omega))
      have nc := hgy _ (List.getElem_mem (show i < ry.length by omega))
      walk_at "go"
      refine ⟨rfl, ?_⟩
      walk_at "go"
      have s02 := sm.trans s2
      refine ⟨g, u, v', _, _, rfl, hg0, hg, (hxs i u _ hu ga).kt (Kt.of s02), (hys i v' _ hv gc).kt (Kt.of s02), na, nc, fun p3 H3 hp3 s3 h3 => ?_⟩
      have h3D := s3 _ _ (s2 _ _ hzs)
      have kt : Kt H1 (upd H3 D (.lst (zs ++ [V.ref p3]))) := (Kt.of (s2.trans s3)).trans (Kt.updL h3D)
      refine ⟨zs, h3D, small1000 (by rw [hz.1]; omega), Same.updD (s02.trans s3) hD, _, upd_same, ?_⟩
      exact (hz.mono fun x a h => NumV.kt h kt).snoc (a := plusF g (rx[i]'(by omega)) (ry[i]'(by omega))) (by rw [List.getElem?_zipWith, ga, gc]) ⟨p3, rfl, Kt.updL h3D _ _ h3⟩
    · obtain ⟨sm, zs, hzs, hz⟩ := hP
      walk_at "go"
      refine ⟨D, zs, rfl, .inl ⟨SqL.of hzs, fun l hl' => ?_⟩⟩
      exact q _ _ (sm.trans (same_upd hl')) ((hz.mono fun x a h => NumV.kt h (Kt.of (same_upd hl'))).sq (by rw [List.length_zipWith]; omega) upd_same)
theorem ok__law_other_than_nought {f : Addr} {fd : FuncData} (F : FnP K "_law_other_than_nought" s__law_other_than_nought f fd)
    {f__law_number : Addr} {fd__law_number : FuncData} (F__law_number : FnP K "_law_number" s__law_number f__law_number fd__law_number) (b__law_number : Binds K fd__law_number ["_law_bag_here", "_law_g"] []) (g__law_number : mg "_law_number" = some (.ref f__law_number)) (G__law_number : FnOk P w K mg base CX0 3 f__law_number fd__law_number ["_law_bag_here", "_law_g"] (sp__law_number K)) (m_int : mg "int" = none) :
    FnOk P w K mg base CX0 4 f fd ["_law_bag_here", "_law_g"] (sp__law_other_than_nought K) := by
  refine F.ok sc__law_other_than_nought (fun vs H Q E h => ?_) (fun cdv A outer s H vs Q E hr h => ?_)
  · obtain ⟨b, g, rfl, hgr, hb, q⟩ := h
    rfl
  · obtain ⟨b, g, rfl, hgr, hb, q⟩ := h
    refine ⟨_, PSs.nox (pss_cons (ps_set (i := 2) sc__law_other_than_nought.nd rfl (.inl rfl) (pe_call G__law_number hr (by rfl) g__law_number F__law_number.kp b__law_number .nil pass0 (pa_cons (pv 0) (pa_cons (pv 1) pa_nil))))
        (pss_one (ps_ret (pe_ix ix_list (pe_lst (pa_cons (pv 2) (pa_cons (pe_tup (pa_cons pe_int (pa_cons pe_int pa_nil))) pa_nil))) (pe_callTy call_int1 (by rfl) m_int (by decide +kernel) (pa_cons (pe_cmpR (op_eqD hr.units) (pv 2) (pe_tup (pa_cons pe_int (pa_cons pe_int pa_nil))) (nomark _)) pa_nil)) (fun _ _ => rfl))))), ?_⟩
    have hg3 := hgr.three
    walk_at "go"
    refine ⟨b, g, rfl, hgr, hb, fun H1 v a hv hng ta m1 hb1 => ?_⟩
    obtain ⟨pv', rfl, hpv⟩ := hv
    walk_at "go"
    refine w_new (by simp) fun p2 H2 hp2 s2 h2 => ?_
    walk_at "go"
    refine w_new (by simp) fun p3 H3 hp3 s3 h3 => ?_
    walk_at "go"
    refine w_new (by simp) fun p4 H4 hp4 s4 h4 => ?_
    have s24 := s2.trans (s3.trans s4)
    have hpv4 := s24 _ _ hpv
    refine w_eqNum ⟨pv', rfl, hpv4⟩ (b := (0, 1)) ⟨p4, rfl, h4⟩ ?_
    walk_at "go"
    refine .inr ⟨_, rfl, ?_⟩
    refine w_ixL (s4 _ _ h3) pick_two ?_
    by_cases e : a = (0, 1)
    · rw [decide_eq_true e, if_pos rfl]
      exact q _ _ (1, 1) ⟨p2, rfl, s4 _ _ (s3 _ _ h2)⟩ ⟨by decide, by decide, by decide, hg3.imp id fun h => ⟨h.1, h.2, rfl⟩⟩ ((tn_one hgr.two).mono (by decide)) (by decide) (m1.trans (Mv.same s24)) (hb1.same s24)
    · rw [decide_eq_false e, if_neg Bool.false_ne_true]
      exact q _ _ a ⟨pv', rfl, hpv4⟩ hng ta (fun z => e (ta.zero.mp z)) (m1.trans (Mv.same s24)) (hb1.same s24)
theorem ok__law_row {f : Addr} {fd : FuncData} (F : FnP K "_law_row" s__law_row f fd)
    {f__law_number : Addr} {fd__law_number : FuncData} (F__law_number : FnP K "_law_number" s__law_number f__law_number fd__law_number) (b__law_number : Binds K fd__law_number ["_law_bag_here", "_law_g"] []) (g__law_number : mg "_law_number" = some (.ref f__law_number)) (G__law_number : FnOk P w K mg base CX0 3 f__law_number fd__law_number ["_law_bag_here", "_law_g"] (sp__law_number K)) (m_tuple : mg "tuple" = none) (m_range : mg "range" = none) :
    FnOk P w K mg base CX0 4 f fd ["_law_bag_here", "_law_g", "_law_many"] (sp__law_row K) := by
  refine F.ok sc__law_row (fun vs H Q E h => ?_) (fun cdv A outer s H vs Q E hr h => ?_)
  · obtain ⟨b, g, m, rfl, hgr, hm0, hm, hb, q⟩ := h
    rfl
  · obtain ⟨b, g, m, rfl, hgr, hm0, hm, hb, q⟩ := h
    refine ⟨_, PSs.nox (pss_one (ps_ret (pe_callTy call_tuple_of (by rfl) m_tuple (by decide +kernel) (pa_cons (pe_lc (own := [("_law_k", 3)]) (g := gName 3) (tt := tYes) (by rfl) sc__law_row.nd (pi_range1 (by rfl) m_range (pa_cons (pv 2) pa_nil)) (blkOk_by (own := [("_law_k", 3)]) (N := ["_law_bag_here", "_law_g", "_law_many", "_law_k"]) (sc := defScope s__law_row) (by decide +kernel)) (fun _ _ _ _ _ => (pg_name (i := 3) sc__law_row.nd rfl (.inl rfl))) (fun _ _ _ _ _ => pts_nil) (fun _ _ _ _ _ => (pe_call G__law_number hr (by rfl) g__law_number F__law_number.kp b__law_number .nil pass0 (pa_cons (pv 0) (pa_cons (pv 1) pa_nil))))) pa_nil)))), ?_⟩
    walk_at "go"
    refine ⟨by omega, by omega, fun D hD => ?_⟩
    have nD := bag_ne hb hD
    refine lc_range (fun i H' => Mv b H H' ∧ Bag H' b ∧ ∃ (xs : List V) (r : List (Int × Int)), H' D = some (.lst xs) ∧ r.length = i ∧ Acc NumV H' xs r i ∧ ∀ a ∈ r, NG g 0 a ∧ TN g 7 a) ⟨(Mv.refl b H).updD hD, hb.upd nD, [], [], upd_same, rfl, Acc.nil, fun x hx => nomatch hx⟩ (fun i H' hi hP => ?_) (fun H' hP => ?_)
    · obtain ⟨mv, hbi, xs, r, hxs, hl, hx, ht⟩ := hP
      walk_at "go"
      refine ⟨rfl, ?_⟩
      walk_at "go"
      refine ⟨b, g, rfl, hgr, hbi, fun H2 v a hv hng ha m2 hb2 => ?_⟩
      have h2D := m2 _ _ nD hxs
      refine ⟨xs, h2D, small1000 (by rw [hx.1]; omega), (mv.trans m2).updD hD, hb2.upd nD, xs ++ [v], r ++ [a], upd_same, by rw [List.length_append, hl]; rfl, acc_app (hx.mono fun x a h => (h.kt (m2.kt hbi)).kt (Kt.updL h2D)) hl (hv.kt (Kt.updL h2D)), fun x hx' => ?_⟩
      rcases List.mem_append.mp hx' with h | h
      · exact ht x h
      · rw [List.mem_singleton.mp h]
        exact ⟨hng, ha⟩
    · obtain ⟨mv, hbi, xs, r, hxs, hl, hx, ht⟩ := hP
      walk_at "go"
      refine ⟨D, xs, rfl, .inl ⟨SqL.of hxs, fun l hl' => ?_⟩⟩
      exact q _ _ r ((hx.mono fun x a h => NumV.kt h (Kt.of (same_upd hl'))).sq hl.symm upd_same) hl ht (mv.trans (Mv.same (same_upd hl'))) (hbi.same (same_upd hl'))
theorem ok_is_form_table {f : Addr} {fd : FuncData} (F : FnP K "is_form_table" s_is_form_table f fd)
    {f_is_table : Addr} {fd_is_table : FuncData} (F_is_table : FnP K "is_table" s_is_table f_is_table fd_is_table) (b_is_table : Binds K fd_is_table ["ground", "thing", "high", "wide"] []) (g_is_table : mg "is_table" = some (.ref f_is_table)) (G_is_table : FnOk P w K mg base CX0 4 f_is_table fd_is_table ["ground", "thing", "high", "wide"] (sp_is_table K))
    {f_turned : Addr} {fd_turned : FuncData} (F_turned : FnP K "turned" s_turned f_turned fd_turned) (b_turned : Binds K fd_turned ["table"] []) (g_turned : mg "turned" = some (.ref f_turned)) (G_turned : FnOk P w K mg base CX0 1 f_turned fd_turned ["table"] (sp_turned K))
    {f_determinant : Addr} {fd_determinant : FuncData} (F_determinant : FnP K "determinant" s_determinant f_determinant fd_determinant) (b_determinant : Binds K fd_determinant ["ground", "table"] []) (g_determinant : mg "determinant" = some (.ref f_determinant)) (G_determinant : FnOk P w K mg base CX0 3 f_determinant fd_determinant ["ground", "table"] (sp_determinant K)) {t_MOST_LETTERS : Tok} (mg_MOST_LETTERS : mg "MOST_LETTERS" = some (.int 5 t_MOST_LETTERS)) {t_MOST_LETTERS_ON_A_WHEEL : Tok} (mg_MOST_LETTERS_ON_A_WHEEL : mg "MOST_LETTERS_ON_A_WHEEL" = some (.int 4 t_MOST_LETTERS_ON_A_WHEEL)) (m_len : mg "len" = none) (m_isinstance : mg "isinstance" = none) (m_tuple : mg "tuple" = none) :
    FnOk P w K mg base CX0 5 f fd ["ground", "thing"] (sp_is_form_table K) := by
  refine F.ok sc_is_form_table (fun vs H Q E h => ?_) (fun cdv A outer s H vs Q E hr h => ?_)
  · obtain ⟨g, v, t, m, D, M, a, F', R, W, rfl, hg, hv, hf, hm1, hm, hmw, hD0, hD, hM, ha4, ha, q⟩ := h
    rfl
  · obtain ⟨g, v, t, m, D, M, a, F', R, W, rfl, hg, hv, hf, hm1, hm, hmw, hD0, hD, hM, ha4, ha, q⟩ := h
    refine ⟨_, PSs.nox (pss_cons (ps_if (pt_not (pt_val (pe_callB call_isi (by rfl) m_isinstance (by decide +kernel) (pa_cons (pv 1) (pa_cons (pe_bltn (v := .ty "tuple") (by rfl) m_tuple (by decide +kernel) rfl) pa_nil))))) (pss_one (ps_ret pe_bl)) pss_nil)
        (pss_cons (ps_set (i := 2) sc_is_form_table.nd rfl (.inl rfl) (pe_callB call_len_seq (by rfl) m_len (by decide +kernel) (pa_cons (pv 1) pa_nil)))
        (pss_cons (ps_set (i := 3) sc_is_form_table.nd rfl (.inl rfl) (pe_ifExp (pt_cmpR op_eq (pv 0) pe_int (nomark _)) (pe_glob (v := .int 5) (by rfl) mg_MOST_LETTERS ⟨_, rfl⟩) (pe_glob (v := .int 4) (by rfl) mg_MOST_LETTERS_ON_A_WHEEL ⟨_, rfl⟩)))
        (pss_cons (ps_if (PW.pt (pw_or (pt_not (pt_chain op_le op_le pe_int (pv 2) (pv 3))) (pw_or1 (pt_not (pt_val (pe_call G_is_table hr (by rfl) g_is_table F_is_table.kp b_is_table .nil pass0 (pa_cons (pv 0) (pa_cons (pv 1) (pa_cons (pv 2) (pa_cons (pv 2) pa_nil)))))))))) (pss_one (ps_ret pe_bl)) pss_nil)
        (pss_one (ps_ret (pe_and (pe_cmpR (op_eqD hr.units) (pe_call G_turned (hr.mono (by decide)) (by rfl) g_turned F_turned.kp b_turned .nil pass0 (pa_cons (pv 1) pa_nil)) (pv 1) (nomark _)) (pe_one (pe_cmpR op_ne (pe_ix ix_tup (pe_call G_determinant (hr.mono (by decide)) (by rfl) g_determinant F_determinant.kp b_determinant .nil pass0 (pa_cons (pv 0) (pa_cons (pv 1) pa_nil))) pe_int (fun _ _ => rfl)) pe_int (nomark _)))))))))), ?_⟩
    have htl := hf.len
    obtain ⟨p, xs, rfl, hp, hlx, hxs⟩ := id hv
    have hrow : ∀ r ∈ t, r.length = m ∧ ∀ c ∈ r, TN g (a + 1) c := fun r hr' => ⟨(hf.row r hr').1, (hf.row r hr').tn hg (by omega) hD0 (pw_lt hD (by omega)) (pw_lt hM (by omega))⟩
    walk_at "go"
    refine w_isT hp ?_
    walk_at "go"
    refine iteF ?_
    walk_at "go"
    refine ⟨p, xs, rfl, .inr (SqT.of hp), ?_⟩
    walk_at "go"
    refine w_ite (fun hc => ?_) (fun hc => ?_)
    all_goals
      walk_at "go"
      refine w_ite (fun h1 => ?_) (fun h1 => absurd (show (1 : Int) ≤ (xs.length : Int) by omega) h1)
      walk_at "go"
      refine w_iteN (fun h2 => absurd ?_ h2) (fun h2 => ?_)
      · omega
      walk_at "go"
      refine ⟨g, .ref p, (xs.length : Int), (xs.length : Int), a + 1, 0, rfl, tabV_tb hv (by omega) (fun r hr' => ⟨by rw [(hrow r hr').1]; omega, (hrow r hr').2⟩), fun H1 s1 => ?_⟩
      rw [tab_true hv (by omega) (fun r hr' => ⟨by rw [(hrow r hr').1]; omega, fun c hc => ((hrow r hr').2 c hc).num⟩)]
      walk_at "go"
      refine iteF ?_
      walk_at "go"
      have hv1 := TabV.kt hv (Kt.of s1)
      refine ⟨.ref p, t, m, rfl, hv1, by omega, by omega, fun r hr' => (hrow r hr').1, by omega, fun v2 H2 s2 h2 => ?_⟩
      walk_at "go"
      refine w_eqTab h2 (TabV.kt hv1 (Kt.of s2)) (hf.turn hg) ?_
      walk_at "go"
      refine ⟨g, .ref p, t, m, 4200, a + 1, 2 ^ a, F', R, W, rfl, hg, TabV.kt hv1 (Kt.of s2), htl, hrow, hm1, by omega, by omega, Nat.le_trans (Nat.mul_le_mul (show a + 1 ≤ 801 by omega) hm) (by decide), by omega, fun r hr' => wr_tz hg (hf.row r hr').2 hD0 hD hM (Nat.le_trans (show 13 ≤ 2 ^ 4 by decide) (Nat.pow_le_pow_right (by decide) ha4)), Nat.pow_pos (by decide), ift_sz hm ha, by decide, by decide, fun v3 H3 d s3 h3 td ed => ?_⟩
      obtain ⟨p3, rfl, hp3⟩ := h3
      walk_at "go"
      have hd0 : d.1 ≠ 0 := fun z => hf.det (by rw [← ed]; exact (e_zero hg td).mpr z)
      rw [decide_eq_false hd0]
      exact q _ (s1.trans (s2.trans s3))
theorem ok_products {f : Addr} {fd : FuncData} (F : FnP K "products" s_products f fd)
    {f_product : Addr} {fd_product : FuncData} (F_product : FnP K "product" s_product f_product fd_product) (b_product : Binds K fd_product ["ground", "one", "other"] []) (g_product : mg "product" = some (.ref f_product)) (G_product : FnOk P w K mg base CX0 4 f_product fd_product ["ground", "one", "other"] (sp_product K))
    {f_turned : Addr} {fd_turned : FuncData} (F_turned : FnP K "turned" s_turned f_turned fd_turned) (b_turned : Binds K fd_turned ["table"] []) (g_turned : mg "turned" = some (.ref f_turned)) (G_turned : FnOk P w K mg base CX0 1 f_turned fd_turned ["table"] (sp_turned K)) (CF : FormC K) :
    FnOk P w K mg base CX0 5 f fd ["form", "rows", "others"] (sp_products K) := by
  refine F.ok sc_products (fun vs H Q E h => ?_) (fun cdv A outer s H vs Q E hr h => ?_)
  · obtain ⟨g, f, tv, x, y, t, rs, ss, m, Dt, Dr, Ds, Mt, Mr, Ms, k, F', R, W, rfl, hg, hf, ht, hx, hy, htl, hm1, hm, hrl, hsl1, hsl, htz, hrz, hsz, hDt, hDr, hDs, bDt, bDr, bDs, bDD, bMt, bMr, bMs, bMM, hk4, hk, q⟩ := h
    rfl
  · obtain ⟨g, f, tv, x, y, t, rs, ss, m, Dt, Dr, Ds, Mt, Mr, Ms, k, F', R, W, rfl, hg, hf, ht, hx, hy, htl, hm1, hm, hrl, hsl1, hsl, htz, hrz, hsz, hDt, hDr, hDs, bDt, bDr, bDs, bDD, bMt, bMr, bMs, bMM, hk4, hk, q⟩ := h
    refine ⟨_, PSs.nox (pss_one (ps_ret (pe_call G_product hr (by rfl) g_product F_product.kp b_product .nil pass0 (pa_cons (pe_fld (pv 0) rfl) (pa_cons (pe_call G_product hr (by rfl) g_product F_product.kp b_product .nil pass0 (pa_cons (pe_fld (pv 0) rfl) (pa_cons (pv 1) (pa_cons (pe_fld (pv 0) rfl) pa_nil)))) (pa_cons (pe_call G_turned (hr.mono (by decide)) (by rfl) g_turned F_turned.kp b_turned .nil pass0 (pa_cons (pv 2) pa_nil)) pa_nil)))))), ?_⟩
    have hg3 : g = 0 ∨ (3 ≤ g ∧ g ≤ 13) := by unfold Gr5 at hg; omega
    have hkm : k * m ≤ 4000 := Nat.le_trans (Nat.mul_le_mul hk hm) (by decide)
    have ok : ∀ {D : Int} {M n : Nat} {r : List (Int × Int)}, RZ g D M n r → D ≠ 0 → D.natAbs < 2 ^ k → M < 2 ^ k → r.length = n ∧ ∀ c ∈ r, OkN g k c := fun h h0 h1 h2 => ⟨h.1, fun c hc => ((h.2 c hc).tn hg hk4 h0 h1 h2).okn hg⟩
    walk_at "go"
    refine w_gnd CF hf ?_
    walk_at "go"
    refine w_gnd CF hf ?_
    walk_at "go"
    refine w_tab CF hf ?_
    walk_at "go"
    refine ⟨g, x, tv, rs, t, m, m, k, rfl, hg3, hx, ht, fun r hr' => ok (hrz r hr') hDr bDr bMr, htl, fun r hr' => ok (htz r hr') hDt bDt bMt, by omega, by omega, by omega, by omega, by omega, hkm, hk, fun v1 H1 s1 h1 => ?_⟩
    walk_at "go"
    refine ⟨y, ss, m, rfl, TabV.kt hy (Kt.of s1), by omega, by omega, fun r hr' => (hsz r hr').1, by omega, fun v2 H2 s2 h2 => ?_⟩
    obtain ⟨pz, pe⟩ := prod_tz2 (V := W) hg htl hrz htz
    have hss := rz_turn2 rfl hsz
    walk_at "go"
    refine ⟨g, v1, v2, _, turnF m ss, m, ss.length, k, rfl, hg3, TabV.kt h1 (Kt.of s2), h2, fun r hr' => ok (pz r hr') (Int.mul_ne_zero hDr hDt) bDD bMM, turn_len, fun r hr' => ok (hss r hr') hDs bDs bMs, by omega, by omega, by omega, by rw [List.length_map]; omega, by omega, hkm, hk, fun v3 H3 s3 h3 => ?_⟩
    obtain ⟨a1, a2, a3⟩ := prods_tz (V := W) hg htl hrz htz hsz rfl
    exact q _ _ _ (s1.trans (s2.trans s3)) h3 a1 a2 a3
theorem ok__law_through {f : Addr} {fd : FuncData} (F : FnP K "_law_through" s__law_through f fd)
    {f__law_added : Addr} {fd__law_added : FuncData} (F__law_added : FnP K "_law_added" s__law_added f__law_added fd__law_added) (b__law_added : Binds K fd__law_added ["_law_g", "_law_row_here", "_law_other"] []) (g__law_added : mg "_law_added" = some (.ref f__law_added)) (G__law_added : FnOk P w K mg base CX0 4 f__law_added fd__law_added ["_law_g", "_law_row_here", "_law_other"] (sp__law_added K))
    {f__law_scaled : Addr} {fd__law_scaled : FuncData} (F__law_scaled : FnP K "_law_scaled" s__law_scaled f__law_scaled fd__law_scaled) (b__law_scaled : Binds K fd__law_scaled ["_law_g", "_law_row_here", "_law_x"] []) (g__law_scaled : mg "_law_scaled" = some (.ref f__law_scaled)) (G__law_scaled : FnOk P w K mg base CX0 4 f__law_scaled fd__law_scaled ["_law_g", "_law_row_here", "_law_x"] (sp__law_scaled K)) (m_tuple : mg "tuple" = none) (m_zip : mg "zip" = none) (m_len : mg "len" = none) :
    FnOk P w K mg base CX0 5 f fd ["_law_g", "_law_row_here", "_law_table"] (sp__law_through K) := by
  refine F.ok sc__law_through (fun vs H Q E h => ?_) (fun cdv A outer s H vs Q E hr h => ?_)
  · obtain ⟨g, x, y, r, t, n, m, Dr, Dt, Mr, Mt, k, F', R, W, rfl, hg, hx, hy, htr, htl, hm1, hm, hn, ht, hDr, hDt, hD, hMr, hMt, hM, hk4, hk, q⟩ := h
    rfl
  · obtain ⟨g, x, y, r, t, n, m, Dr, Dt, Mr, Mt, k, F', R, W, rfl, hg, hx, hy, htr, htl, hm1, hm, hn, ht, hDr, hDt, hD, hMr, hMt, hM, hk4, hk, q⟩ := h
    refine ⟨_, PSs.nox (pss_cons (ps_set (i := 3) sc__law_through.nd rfl (.inl rfl) (pe_callTy call_tuple_of (by rfl) m_tuple (by decide +kernel) (pa_cons (pe_op op_rep (pe_lst (pa_cons (pe_tup (pa_cons pe_int (pa_cons pe_int pa_nil))) pa_nil)) (pe_callB call_len_seq (by rfl) m_len (by decide +kernel) (pa_cons (pe_ix ix_tup (pv 2) pe_int (fun _ _ => rfl)) pa_nil))) pa_nil)))
        (pss_cons (ps_for PassesOwn.never rfl (RZ.pi_zipA (by rfl) m_zip (pa_cons (pv 1) (pa_cons (pv 2) pa_nil))) (pg_tup rfl (pgs_cons (pg_name (i := 4) sc__law_through.nd rfl (.inl rfl)) (pgs_cons (pg_name (i := 5) sc__law_through.nd rfl (.inl rfl)) pgs_nil))) (pss_one (ps_set (i := 3) sc__law_through.nd rfl (.inl rfl) (pe_call G__law_added hr (by rfl) g__law_added F__law_added.kp b__law_added .nil pass0 (pa_cons (pv 0) (pa_cons (pv 3) (pa_cons (pe_call G__law_scaled hr (by rfl) g__law_scaled F__law_scaled.kp b__law_scaled .nil pass0 (pa_cons (pv 0) (pa_cons (pv 5) (pa_cons (pv 4) pa_nil)))) pa_nil)))))))
        (pss_one (ps_ret (pv 3))))), ?_⟩
    have ⟨hg0, hg13⟩ := grb hg
    have hDD : Dt * Dr ≠ 0 := Int.mul_ne_zero hDt hDr
    have hDrk : Dr.natAbs < 2 ^ k := by
      rw [Int.natAbs_mul] at hD
      exact Nat.lt_of_le_of_lt (Nat.le_mul_of_pos_left _ (by omega)) hD
    have hDtk : Dt.natAbs < 2 ^ k := by
      rw [Int.natAbs_mul] at hD
      exact Nat.lt_of_le_of_lt (Nat.le_mul_of_pos_right _ (by omega)) hD
    obtain ⟨px, xs, rfl, hpx, hlx, hxs⟩ := hx
    obtain ⟨py, ys, rfl, hpy, hly, hys⟩ := hy
    have hrl := htr.1
    have gt0 : t[0]? = some (t[0]'(by omega)) := List.getElem?_eq_getElem _
    have gy0 : ys[0]? = some (ys[0]'(by omega)) := List.getElem?_eq_getElem _
    obtain ⟨p0, xs0, e0, hp0, hl0, _⟩ := hys 0 _ _ gy0 gt0
    have hr0 := (ht _ (List.mem_of_getElem? gt0)).1
    rw [e0] at gy0
    walk_at "go"
    refine w_new (by simp) fun u H1 hu s1 h1 => ?_
    walk_at "go"
    refine w_new (by simp) fun l1 H2 hl1 s2 h2 => ?_
    walk_at "go"
    refine w_ixT (s2 _ _ (s1 _ _ hpy)) (atI_nat (j := 0) gy0) ?_
    walk_at "go"
    refine ⟨p0, xs0, rfl, .inr (SqT.of (s2 _ _ (s1 _ _ hp0))), ?_⟩
    rw [show xs0.length = n by omega]
    walk_at "go"
    refine w_rep h2 (by omega) (by omega) (by simp) ?_
    refine w_newO fun l3 H3 hl3 s3 h3 => ?_
    walk_at "go"
    refine ⟨_, _, rfl, .inl ⟨SqL.of h3, fun l4 hl4' => ?_⟩⟩
    rw [Int.toNat_natCast]
    have s4 := same_upd (o := HO.tup (List.replicate n [V.ref u]).flatten) hl4'
    have h4 : (upd H3 l4 (.tup (List.replicate n [V.ref u]).flatten)) l4 = some (.tup (List.replicate n [V.ref u]).flatten) := upd_same
    generalize upd H3 l4 (.tup (List.replicate n [V.ref u]).flatten) = H4 at s4 h4 ⊢
    have s04 := s1.trans (s2.trans (s3.trans s4))
    have hz4 := row_zeros (s4 _ _ (s3 _ _ (s2 _ _ h1))) h4
    walk_at "go"
    refine ⟨px, py, xs, ys, rfl, .inr ⟨SqT.of (s04 _ _ hpx), SqT.of (s04 _ _ hpy), ?_⟩⟩
    refine for_it (walk_zipT (xs := xs) (ys := ys) (n := m) (by omega)) (fun i σ H' => ∃ (fv : V) (w : List (Int × Int)), (∃ y4 y5, σ = [some (.int g), some (.ref px), some (.ref py), some fv, y4, y5]) ∧ Same H H' ∧ RowV H' fv w ∧ RZ g (Dt * Dr) (i * (Mt * Mr)) n w ∧ er W w = fun j => SF (fun l => er W r l * ((t.map (er W)).getD l zr) j) i) ⟨_, _, ⟨_, _, rfl⟩, s04, hz4, rz_zero hg, er_zeros n⟩ (fun i σ H' _ hP => ?_) (fun i v σ Ha Hb hi hP hY => ?_) (fun σ H' hP => ?_)
    · obtain ⟨fv, w, _, sm, _⟩ := hP
      exact ⟨SqT.of (sm _ _ hpx), SqT.of (sm _ _ hpy)⟩
    · obtain ⟨fv, w, ⟨y4, y5, rfl⟩, sm, hw, hwz, her⟩ := hP
      obtain ⟨T, u1, v', rfl, hT, rfl, hu1, hv1⟩ := hY
      have sT : Same Ha (upd Ha T (.tup [u1, v'])) := same_upd hT
      have hTT : (upd Ha T (.tup [u1, v'])) T = some (.tup [u1, v']) := upd_same
      generalize upd Ha T (.tup [u1, v']) = H5 at sT hTT ⊢
      have s05 := sm.trans sT
      have gr : r[i]? = some (r[i]'(by omega)) := List.getElem?_eq_getElem _
      have gt1 : t[i]? = some (t[i]'(by omega)) := List.getElem?_eq_getElem _
      have tr := htr.2 _ (List.getElem_mem (show i < r.length by omega))
      have tt := ht _ (List.mem_of_getElem? gt1)
      have him : i * (Mt * Mr) ≤ (m + 1) * (Mt * Mr) := Nat.mul_le_mul_right _ (by omega)
      have h1m : 1 * (Mt * Mr) ≤ (m + 1) * (Mt * Mr) := Nat.mul_le_mul_right _ (by omega)
      have hsc := rz_times hg tt tr
      walk_at "go"
      refine ⟨g, v', u1, _, _, rfl, hg0, hg13, RowV.kt (hys i v' _ hv1 gt1) (Kt.of s05), (hxs i u1 _ hu1 gr).kt (Kt.of s05), by rw [tt.1]; omega, tt.be hg hk4 hk hDt hDtk hMt, (tr.tn hg hk4 hDr hDrk hMr).be hk, fun v6 H6 s6 h6 => ?_⟩
      refine ⟨g, fv, v6, w, _, rfl, hg0, hg13, RowV.kt hw (Kt.of (sT.trans s6)), h6, by rw [hwz.1, hsc.1], by rw [hwz.1]; omega, hwz.be hg hk4 hk hDD hD (by omega), hsc.be hg hk4 hk hDD hD (by omega), fun v7 H7 s7 h7 => ?_⟩
      walk_at "go"
      refine ⟨v7, _, ⟨_, _, rfl⟩, s05.trans (s6.trans s7), h7, ?_, ?_⟩
      · rw [Nat.succ_mul]
        exact rz_plus hg hwz hsc
      · rw [er_plus hg hwz hsc, her, er_times hg tt tr]
        funext j
        show SF (fun l => er W r l * ((t.map (er W)).getD l zr) j) i + W.e (r[i]'(by omega)) * er W (t[i]'(by omega)) j = SF (fun l => er W r l * ((t.map (er W)).getD l zr) j) i + er W r i * ((t.map (er W)).getD i zr) j
        have e1 : (t.map (er W)).getD i zr = er W (t[i]'(by omega)) := by
          rw [List.getD_eq_getElem?_getD, List.getElem?_map, gt1]
          rfl
        rw [e1, er_at (show i < r.length by omega)]
    · obtain ⟨fv, w, ⟨y4, y5, rfl⟩, sm, hw, hwz, her⟩ := hP
      walk_at "go"
      refine q _ _ w sm hw hwz ?_
      rw [her]
      funext j
      show _ = SF (fun l => er W r l * ((t.map (er W)).getD l zr) j) (t.map (er W)).length
      rw [List.length_map, htl]
theorem ok_Form___init__ {f : Addr} {fd : FuncData} (F : FunD K "__init__" "Form.__init__" (defArgs s_Form___init__) (defBody s_Form___init__) (defScope s_Form___init__) [.int 0] [] f fd)
    {f_is_ground : Addr} {fd_is_ground : FuncData} (F_is_ground : FnP K "is_ground" s_is_ground f_is_ground fd_is_ground) (b_is_ground : Binds K fd_is_ground ["thing"] []) (g_is_ground : mg "is_ground" = some (.ref f_is_ground)) (G_is_ground : FnOk P w K mg base CX0 2 f_is_ground fd_is_ground ["thing"] (sp_is_ground K))
    {f_is_form_table : Addr} {fd_is_form_table : FuncData} (F_is_form_table : FnP K "is_form_table" s_is_form_table f_is_form_table fd_is_form_table) (b_is_form_table : Binds K fd_is_form_table ["ground", "thing"] []) (g_is_form_table : mg "is_form_table" = some (.ref f_is_form_table)) (G_is_form_table : FnOk P w K mg base CX0 5 f_is_form_table fd_is_form_table ["ground", "thing"] (sp_is_form_table K)) (CF : FormC K) :
    FnOk P w K mg base CX0 6 f fd ["self", "table", "ground"] (sp_Form___init__ K) := by
  refine F.ok sc_Form___init__ (fun vs H Q E h => ?_) (fun cdv A outer s H vs Q E hr h => ?_)
  · obtain ⟨x, dx, tv, g, t, m, D, M, a, F', R, W, rfl, hx, hg, ht, hf, hm1, hm, hmw, hD0, hD, hM, ha4, ha, q⟩ := h
    rfl
  · obtain ⟨x, dx, tv, g, t, m, D, M, a, F', R, W, rfl, hx, hg, ht, hf, hm1, hm, hmw, hD0, hD, hM, ha4, ha, q⟩ := h
    refine ⟨_, PSs.nox (pss_cons (ps_if (pt_not (pt_val (pe_call G_is_ground (hr.mono (by decide)) (by rfl) g_is_ground F_is_ground.kp b_is_ground .nil pass0 (pa_cons (pv 2) pa_nil)))) (pss_one ps_never) pss_nil)
        (pss_cons (ps_if (pt_not (pt_val (pe_call G_is_form_table hr (by rfl) g_is_form_table F_is_form_table.kp b_is_form_table .nil pass0 (pa_cons (pv 2) (pa_cons (pv 1) pa_nil))))) (pss_one ps_never) pss_nil)
        (pss_cons (ps_fld (pv 0) (pv 1) rfl)
        (pss_one (ps_fld (pv 0) (pv 2) rfl))))), ?_⟩
    have hgr : grdB (.int g) = true := by
      unfold Gr5 at hg
      rcases hg with rfl | rfl | rfl | rfl | rfl | rfl <;> rfl
    walk_at "go"
    refine ⟨g, rfl, ?_⟩
    rw [hgr]
    walk_at "go"
    refine iteF ?_
    walk_at "go"
    refine ⟨g, tv, t, m, D, M, a, F', R, W, rfl, hg, ht, hf, hm1, hm, hmw, hD0, hD, hM, ha4, ha, fun H1 s1 => ?_⟩
    walk_at "go"
    refine iteF ?_
    walk_at "go"
    refine ⟨x, _, dx, [], rfl, s1 _ _ hx, CF.c, CF.nt, by decide, ?_⟩
    walk_at "go"
    refine ⟨x, _, dx, _, rfl, upd_same, CF.c, CF.ng, (show 1 < 1000 by decide), ?_⟩
    exact q _ (fun b o n h => by rw [upd_ne n, upd_ne n]; exact s1 _ _ h) (by rw [upd_same]; rfl)
theorem ok_worth_of {f : Addr} {fd : FuncData} (F : FnP K "worth_of" s_worth_of f fd)
    {f_products : Addr} {fd_products : FuncData} (F_products : FnP K "products" s_products f_products fd_products) (b_products : Binds K fd_products ["form", "rows", "others"] []) (g_products : mg "products" = some (.ref f_products)) (G_products : FnOk P w K mg base CX0 5 f_products fd_products ["form", "rows", "others"] (sp_products K)) :
    FnOk P w K mg base CX0 6 f fd ["form", "row"] (sp_worth_of K) := by
  refine F.ok sc_worth_of (fun vs H Q E h => ?_) (fun cdv A outer s H vs Q E hr h => ?_)
  · obtain ⟨g, f, tv, y, t, r, m, Dt, Dr, Mt, Mr, k, F', R, W, rfl, hg, hf, ht, hy, htl, hm1, hm, htz, hrz, hDt, hDr, bDt, bDr, bDD, bMt, bMr, bMM, hk4, hk, q⟩ := h
    rfl
  · obtain ⟨g, f, tv, y, t, r, m, Dt, Dr, Mt, Mr, k, F', R, W, rfl, hg, hf, ht, hy, htl, hm1, hm, htz, hrz, hDt, hDr, bDt, bDr, bDD, bMt, bMr, bMM, hk4, hk, q⟩ := h
    refine ⟨_, PSs.nox (pss_one (ps_ret (pe_ix ix_tup (pe_ix ix_tup (pe_call G_products hr (by rfl) g_products F_products.kp b_products .nil pass0 (pa_cons (pv 0) (pa_cons (pe_tup (pa_cons (pv 1) pa_nil)) (pa_cons (pe_tup (pa_cons (pv 1) pa_nil)) pa_nil)))) pe_int (fun _ _ => rfl)) pe_int (fun _ _ => rfl)))), ?_⟩
    walk_at "go"
    refine w_new (by simp) fun p1 H1 hp1 s1 h1 => ?_
    walk_at "go"
    refine w_new (by simp) fun p2 H2 hp2 s2 h2 => ?_
    walk_at "go"
    have s12 := s1.trans s2
    have hz1 : ∀ q ∈ [r], RZ g Dr Mr m q := fun q hq => by rw [List.mem_singleton.mp hq]; exact hrz
    refine ⟨g, f, tv, .ref p1, .ref p2, t, [r], [r], m, Dt, Dr, Dr, Mt, Mr, Mr, k, F', R, W, rfl, hg, hf.sm s12, TabV.kt ht (Kt.of s12), sqv1 (s2 _ _ h1) (RowV.kt hy (Kt.of s12)), sqv1 h2 (RowV.kt hy (Kt.of s12)), htl, hm1, hm, (show 1 ≤ 10 by decide), (show 1 ≤ 1 by decide), (show 1 ≤ 10 by decide), htz, hz1, hz1, hDt, hDr, hDr, bDt, bDr, bDr, bDD, bMt, bMr, bMr, bMM, hk4, hk, fun v3 H3 T s3 h3 hTl hTz hTe => ?_⟩
    obtain ⟨p3, xs3, rfl, hp3, hl3, hx3⟩ := h3
    have hTl1 : T.length = 1 := hTl
    have gt0 : T[0]? = some (T[0]'(by omega)) := List.getElem?_eq_getElem _
    have gx0 : xs3[0]? = some (xs3[0]'(by omega)) := List.getElem?_eq_getElem _
    have hT0 := hTz _ (List.getElem_mem (show 0 < T.length by omega))
    have hT0l : (T[0]'(by omega)).length = 1 := hT0.1
    obtain ⟨p4, xs4, e4, hp4, hl4, hx4⟩ := hx3 0 _ _ gx0 gt0
    have gt1 : (T[0]'(by omega))[0]? = some ((T[0]'(by omega))[0]'(by omega)) := List.getElem?_eq_getElem _
    have gx1 : xs4[0]? = some (xs4[0]'(by omega)) := List.getElem?_eq_getElem _
    walk_at "go"
    refine w_ixT hp3 (atI_nat (j := 0) gx0) ?_
    rw [e4]
    walk_at "go"
    refine w_ixT hp4 (atI_nat (j := 0) gx1) ?_
    refine q _ _ _ (s12.trans s3) (hx4 0 _ _ gx1 gt1) (hT0.2 _ (List.getElem_mem _)) ?_
    have := hTe 0 0 r r _ rfl rfl gt0
    rw [← this, er_at (show 0 < (T[0]'(by omega)).length by omega)]
theorem ok__law_product {f : Addr} {fd : FuncData} (F : FnP K "_law_product" s__law_product f fd)
    {f__law_through : Addr} {fd__law_through : FuncData} (F__law_through : FnP K "_law_through" s__law_through f__law_through fd__law_through) (b__law_through : Binds K fd__law_through ["_law_g", "_law_row_here", "_law_table"] []) (g__law_through : mg "_law_through" = some (.ref f__law_through)) (G__law_through : FnOk P w K mg base CX0 5 f__law_through fd__law_through ["_law_g", "_law_row_here", "_law_table"] (sp__law_through K)) (m_tuple : mg "tuple" = none) :
    FnOk P w K mg base CX0 6 f fd ["_law_g", "_law_one", "_law_other"] (sp__law_product K) := by
  refine F.ok sc__law_product (fun vs H Q E h => ?_) (fun cdv A outer s H vs Q E hr h => ?_)
  · obtain ⟨g, x, y, ss, t, n, m, Dr, Dt, Mr, Mt, k, F', R, W, rfl, hg, hx, hy, hss, hsl, htl, hm1, hm, hn, ht, hDr, hDt, hD, hMr, hMt, hM, hk4, hk, q⟩ := h
    rfl
  · obtain ⟨g, x, y, ss, t, n, m, Dr, Dt, Mr, Mt, k, F', R, W, rfl, hg, hx, hy, hss, hsl, htl, hm1, hm, hn, ht, hDr, hDt, hD, hMr, hMt, hM, hk4, hk, q⟩ := h
    refine ⟨_, PSs.nox (pss_one (ps_ret (pe_callTy call_tuple_of (by rfl) m_tuple (by decide +kernel) (pa_cons (pe_lc (own := [("_law_row_here", 3)]) (g := gName 3) (tt := tYes) (by rfl) sc__law_product.nd (pi_tup (pv 1)) (blkOk_by (own := [("_law_row_here", 3)]) (N := ["_law_g", "_law_one", "_law_other", "_law_row_here"]) (sc := defScope s__law_product) (by decide +kernel)) (fun _ _ _ _ _ => (pg_name (i := 3) sc__law_product.nd rfl (.inl rfl))) (fun _ _ _ _ _ => pts_nil) (fun _ _ _ _ _ => (pe_call G__law_through hr (by rfl) g__law_through F__law_through.kp b__law_through .nil pass0 (pa_cons (pv 0) (pa_cons (pv 3) (pa_cons (pv 2) pa_nil)))))) pa_nil)))), ?_⟩
    obtain ⟨px, xs, rfl, hpx, hlx, hxs⟩ := hx
    walk_at "go"
    refine ⟨px, rfl, ⟨xs, SqT.of hpx⟩, fun D hDn => ?_⟩
    refine lc_tup (xs := xs) (fun i H' => Same H H' ∧ ∃ zs T, H' D = some (.lst zs) ∧ T.length = i ∧ Acc RowV H' zs T i ∧ (∀ r ∈ T, RZ g (Dt * Dr) (m * (Mt * Mr)) n r) ∧ T.map (er W) = ((ss.take i).map (er W)).map (thr (t.map (er W)))) ⟨Same.updD (Same.refl H) hDn, [], [], upd_same, rfl, Acc.nil, fun r hr => (by cases hr), rfl⟩ (fun i H' _ hP => SqT.of (hP.1 _ _ hpx)) (fun i x H1 hxi hP => ?_) (fun H' hP => ?_)
    · obtain ⟨sm, zs, T, hzs, hTl, hz, hTz, hTe⟩ := hP
      have hi : i < ss.length := by
        have := (List.getElem?_eq_some_iff.mp hxi).1
        omega
      have gs : ss[i]? = some ss[i] := List.getElem?_eq_getElem hi
      walk_at "go"
      refine ⟨rfl, ?_⟩
      walk_at "go"
      refine ⟨g, x, y, ss[i], t, n, m, Dr, Dt, Mr, Mt, k, F', R, W, rfl, hg, RowV.kt (hxs i x _ hxi gs) (Kt.of sm), TabV.kt hy (Kt.of sm), hss _ (List.getElem_mem hi), htl, hm1, hm, hn, ht, hDr, hDt, hD, hMr, hMt, hM, hk4, hk, fun v3 H3 w s3 h3 hwz hwe => ?_⟩
      have h3D := s3 _ _ hzs
      have kt : Kt H1 (upd H3 D (.lst (zs ++ [v3]))) := (Kt.of s3).trans (Kt.updL h3D)
      refine ⟨zs, h3D, small1000 (by rw [hz.1]; omega), Same.updD (sm.trans s3) hDn, _, T ++ [w], upd_same, by rw [List.length_append, hTl]; rfl, acc_app (hz.mono fun x a h => RowV.kt h kt) hTl (RowV.kt h3 (Kt.updL h3D)), fun r hr => ?_, ?_⟩
      · rcases List.mem_append.mp hr with h | h
        · exact hTz r h
        · rw [List.mem_singleton.mp h]
          exact hwz
      · rw [List.map_append, hTe, List.take_add_one, gs, Option.toList_some, List.map_append, List.map_append]
        show _ ++ [er W w] = _ ++ [thr (t.map (er W)) (er W ss[i])]
        rw [hwe]
    · obtain ⟨sm, zs, T, hzs, hTl, hz, hTz, hTe⟩ := hP
      rw [List.take_of_length_le (show ss.length ≤ xs.length by omega)] at hTe
      walk_at "go"
      refine ⟨_, _, rfl, .inl ⟨SqL.of hzs, fun l hl' => ?_⟩⟩
      exact q _ _ T (sm.trans (same_upd hl')) ((hz.mono fun x a h => RowV.kt h (Kt.of (same_upd hl'))).sq hTl.symm upd_same) (by omega) hTz hTe
theorem ok__law_pair {f : Addr} {fd : FuncData} (F : FnP K "_law_pair" s__law_pair f fd)
    {f__law_sum : Addr} {fd__law_sum : FuncData} (F__law_sum : FnP K "_law_sum" s__law_sum f__law_sum fd__law_sum) (b__law_sum : Binds K fd__law_sum ["_law_g", "_law_some"] []) (g__law_sum : mg "_law_sum" = some (.ref f__law_sum)) (G__law_sum : FnOk P w K mg base CX0 4 f__law_sum fd__law_sum ["_law_g", "_law_some"] (sp__law_sum K))
    {f__law_times : Addr} {fd__law_times : FuncData} (F__law_times : FnP K "_law_times" s__law_times f__law_times fd__law_times) (b__law_times : Binds K fd__law_times ["_law_g", "_law_x", "_law_y"] []) (g__law_times : mg "_law_times" = some (.ref f__law_times)) (G__law_times : FnOk P w K mg base CX0 3 f__law_times fd__law_times ["_law_g", "_law_x", "_law_y"] (sp__law_times K))
    {f__law_through : Addr} {fd__law_through : FuncData} (F__law_through : FnP K "_law_through" s__law_through f__law_through fd__law_through) (b__law_through : Binds K fd__law_through ["_law_g", "_law_row_here", "_law_table"] []) (g__law_through : mg "_law_through" = some (.ref f__law_through)) (G__law_through : FnOk P w K mg base CX0 5 f__law_through fd__law_through ["_law_g", "_law_row_here", "_law_table"] (sp__law_through K)) (m_zip : mg "zip" = none) :
    FnOk P w K mg base CX0 6 f fd ["_law_g", "_law_table", "_law_row_here", "_law_other"] (sp__law_pair K) := by
  refine F.ok sc__law_pair (fun vs H Q E h => ?_) (fun cdv A outer s H vs Q E hr h => ?_)
  · obtain ⟨g, x, y, z, t, r, s', m, Dt, Dr, Ds, Mt, Mr, Ms, k, F', R, W, rfl, hg, hx, hy, hz, htl, hm1, hm, ht, htr, hts, hDt, hDr, hDs, hD, hMt, hMr, hMs, hM1, hM2, hk4, hk, q⟩ := h
    rfl
  · obtain ⟨g, x, y, z, t, r, s', m, Dt, Dr, Ds, Mt, Mr, Ms, k, F', R, W, rfl, hg, hx, hy, hz, htl, hm1, hm, ht, htr, hts, hDt, hDr, hDs, hD, hMt, hMr, hMs, hM1, hM2, hk4, hk, q⟩ := h
    refine ⟨_, PSs.nox (pss_one (ps_ret (pe_call G__law_sum (hr.mono (by decide)) (by rfl) g__law_sum F__law_sum.kp b__law_sum .nil pass0 (pa_cons (pv 0) (pa_cons (pe_lc (own := [("_law_x", 4), ("_law_y", 5)]) (g := gTup K 2 (gCons (gName 4) (gCons (gName 5) (gNil)))) (tt := tYes) (by rfl) sc__law_pair.nd (RZ.pi_zipA (by rfl) m_zip (pa_cons (pe_call G__law_through hr (by rfl) g__law_through F__law_through.kp b__law_through .nil pass0 (pa_cons (pv 0) (pa_cons (pv 2) (pa_cons (pv 1) pa_nil)))) (pa_cons (pv 3) pa_nil))) (blkOk_by (own := [("_law_x", 4), ("_law_y", 5)]) (N := ["_law_g", "_law_table", "_law_row_here", "_law_other", "_law_x", "_law_y"]) (sc := defScope s__law_pair) (by decide +kernel)) (fun _ _ _ _ _ => (pg_tup rfl (pgs_cons (pg_name (i := 4) sc__law_pair.nd rfl (.inl rfl)) (pgs_cons (pg_name (i := 5) sc__law_pair.nd rfl (.inl rfl)) pgs_nil)))) (fun _ _ _ _ _ => pts_nil) (fun _ _ _ _ _ => (pe_call G__law_times (hr.mono (by decide)) (by rfl) g__law_times F__law_times.kp b__law_times .nil pass0 (pa_cons (pv 0) (pa_cons (pv 4) (pa_cons (pv 5) pa_nil)))))) pa_nil))))), ?_⟩
    have ⟨hg0, hg13⟩ := grb hg
    have hD2 : (Dt * Dr).natAbs < 2 ^ k := by
      rw [Int.natAbs_mul] at hD
      exact Nat.lt_of_le_of_lt (Nat.le_mul_of_pos_right _ (by omega)) hD
    have hDsk : Ds.natAbs < 2 ^ k := by
      rw [Int.natAbs_mul] at hD
      refine Nat.lt_of_le_of_lt (Nat.le_mul_of_pos_left _ ?_) hD
      have := Int.mul_ne_zero hDt hDr
      omega
    have hDD := Int.mul_ne_zero hDt hDr
    have hm1k : m * (Mt * Mr) < 2 ^ k := Nat.lt_of_le_of_lt (Nat.mul_le_mul_right _ (by omega)) hM1
    walk_at "go"
    refine ⟨g, y, x, r, t, m, m, Dr, Dt, Mr, Mt, k, F', R, W, rfl, hg, hy, hx, htr, htl, hm1, hm, hm, ht, hDr, hDt, hD2, hMr, hMt, hM1, hk4, hk, fun v1 H1 w s1 h1 hwz hwe => ?_⟩
    obtain ⟨px, xs, rfl, hpx, hlx, hxs⟩ := h1
    obtain ⟨py, ys, rfl, hpy, hly, hys⟩ := RowV.kt hz (Kt.of s1)
    have hwl := hwz.1
    have hsl := hts.1
    walk_at "go"
    refine ⟨px, py, xs, ys, rfl, .inr ⟨SqT.of hpx, SqT.of hpy, fun D hDn => ?_⟩⟩
    refine lc_it (walk_zipT (xs := xs) (ys := ys) (n := m) (by omega)) (fun i H' => Same H1 H' ∧ ∃ zs : List V, H' D = some (.lst zs) ∧ Acc NumV H' zs (List.zipWith (timesF g) w s') i) ⟨Same.updD (Same.refl H1) hDn, [], upd_same, Acc.nil⟩ (fun i H' _ hP => ⟨SqT.of (hP.1 _ _ hpx), SqT.of (hP.1 _ _ hpy)⟩) (fun i v Ha Hb hi hP hY => ?_) (fun H' hP => ?_)
    · obtain ⟨sm, zs, hzs, hz⟩ := hP
      obtain ⟨T, u, v', rfl, hT, rfl, hu, hv⟩ := hY
      have s2 : Same Ha (upd Ha T (.tup [u, v'])) := same_upd hT
      have hTT : (upd Ha T (.tup [u, v'])) T = some (.tup [u, v']) := upd_same
      generalize upd Ha T (.tup [u, v']) = H2 at s2 hTT ⊢
      have ga : w[i]? = some (w[i]'(by omega)) := List.getElem?_eq_getElem _
      have gc : s'[i]? = some (s'[i]'(by omega)) := List.getElem?_eq_getElem _
      have na := hwz.2 _ (List.getElem_mem (show i < w.length by omega))
      have nc := hts.2 _ (List.getElem_mem (show i < s'.length by omega))
      walk_at "go"
      refine ⟨rfl, ?_⟩
      walk_at "go"
      have s02 := sm.trans s2
      refine ⟨g, u, v', _, _, rfl, hg0, hg13, (hxs i u _ hu ga).kt (Kt.of s02), (hys i v' _ hv gc).kt (Kt.of s02), (na.tn hg hk4 hDD hD2 hm1k).be hk, (nc.tn hg hk4 hDs hDsk hMs).be hk, fun p3 H3 hp3 s3 h3 => ?_⟩
      have h3D := s3 _ _ (s2 _ _ hzs)
      have kt : Kt Ha (upd H3 D (.lst (zs ++ [V.ref p3]))) := (Kt.of (s2.trans s3)).trans (Kt.updL h3D)
      refine ⟨zs, h3D, small1000 (by rw [hz.1]; omega), Same.updD (s02.trans s3) hDn, _, upd_same, ?_⟩
      exact (hz.mono fun x a h => NumV.kt h kt).snoc (a := timesF g (w[i]'(by omega)) (s'[i]'(by omega))) (by rw [List.getElem?_zipWith, ga, gc]) ⟨p3, rfl, Kt.updL h3D _ _ h3⟩
    · obtain ⟨sm, zs, hzs, hz⟩ := hP
      have hzl : (List.zipWith (timesF g) w s').length = m := by rw [List.length_zipWith]; omega
      walk_at "go"
      refine ⟨g, D, zs, List.zipWith (timesF g) w s', Dt * Dr * Ds, m * (Mt * Mr) * Ms, k, F', R, W, rfl, hg, hzs, by rw [hzl]; exact hz, fun a ha => ?_, Int.mul_ne_zero hDD hDs, hD, by rw [hzl]; exact hM2, hk4, hk, fun v4 H4 d s4 h4 td ed => ?_⟩
      · obtain ⟨x, hx', rfl⟩ := List.mem_iff_getElem.mp ha
        rw [List.length_zipWith] at hx'
        rw [List.getElem_zipWith]
        exact (hwz.2 _ (List.getElem_mem _)).times hg (hts.2 _ (List.getElem_mem _))
      · rw [hzl] at td ed
        refine q _ _ d (s1.trans (sm.trans s4)) h4 td ?_
        rw [ed]
        show _ = SF (fun j => thr (t.map (er W)) (er W r) j * er W s' j) m
        refine SF_congr fun i hi => ?_
        have h1 : i < w.length := by omega
        have h2 : i < s'.length := by omega
        obtain ⟨⟨l, _, hl⟩, _⟩ := hwz.2 _ (List.getElem_mem h1)
        obtain ⟨⟨l', _, hl'⟩, _⟩ := hts.2 _ (List.getElem_mem h2)
        have e1 : (List.zipWith (timesF g) w s').getD i (0, 1) = timesF g w[i] s'[i] := by
          rw [List.getD_eq_getElem?_getD, List.getElem?_zipWith, List.getElem?_eq_getElem h1, List.getElem?_eq_getElem h2]
          rfl
        rw [e1, W.times hg hl hl', ← hwe, er_at h1, er_at h2]
theorem ok_want_worths {f : Addr} {fd : FuncData} (F : FnP K "want_worths" s_want_worths f fd)
    {f_worth_of : Addr} {fd_worth_of : FuncData} (F_worth_of : FnP K "worth_of" s_worth_of f_worth_of fd_worth_of) (b_worth_of : Binds K fd_worth_of ["form", "row"] []) (g_worth_of : mg "worth_of" = some (.ref f_worth_of)) (G_worth_of : FnOk P w K mg base CX0 6 f_worth_of fd_worth_of ["form", "row"] (sp_worth_of K)) (R_NoWorth : RaiseC K mg "NoWorth") :
    FnOk P w K mg base (L2N.CX P w) 7 f fd ["form", "rows"] (sp_want_worths K) := by
  refine F.ok sc_want_worths (fun vs H Q E h => ?_) (fun cdv A outer s H vs Q E hr h => ?_)
  · obtain ⟨g, f, tv, L, xs, t, rs, m, F', R, W, rfl, hg, hf, ht, hL, hacc, hft, hrs, q, qe⟩ := h
    rfl
  · obtain ⟨g, f, tv, L, xs, t, rs, m, F', R, W, rfl, hg, hf, ht, hL, hacc, hft, hrs, q, qe⟩ := h
    refine ⟨_, id (pss_one (ps_for PassesOwn.leaving rfl (pi_list (pv 1)) (pg_name (i := 2) sc_want_worths.nd rfl (.inl rfl)) (pss_one (ps_if (pt_cmpR op_eq (pe_ix ix_tup (pe_call G_worth_of hr (by rfl) g_worth_of F_worth_of.kp b_worth_of .nil pass0 (pa_cons (pv 0) (pa_cons (pv 2) pa_nil))) pe_int (fun _ _ => rfl)) pe_int (nomark _)) (pss_one (L2N.ps_raise rfl (L2N.takes_of rfl rfl rfl rfl) (L2N.pmk_own PySem.F.excBase_ValueError R_NoWorth.e R_NoWorth.g R_NoWorth.k (raises_own R_NoWorth.b R_NoWorth.t) rfl))) pss_nil)))), ?_⟩
    obtain ⟨htl, hm1, hm, htz⟩ := hft
    have hm8 := pw_five hm
    walk_at "go"
    refine ⟨L, rfl, ⟨xs, SqL.of hL⟩, ?_⟩
    refine for_list (xs := xs) (fun i σ H' => (∃ y2, σ = [some f, some (.ref L), y2]) ∧ Same H H' ∧ ∀ r ∈ rs.take i, bil (t.map (er W)) m (er W r) (er W r) ≠ 0) ⟨⟨_, rfl⟩, Same.refl H, fun r hr' => by simp at hr'⟩ (fun i σ H' _ hP => SqL.of (hP.2.1 _ _ hL)) (fun i x σ H' hxi hP => ?_) (fun σ H' hP => ?_)
    · obtain ⟨⟨y2, rfl⟩, sm, hall⟩ := hP
      have hi : i < rs.length := by
        have := (List.getElem?_eq_some_iff.mp hxi).1
        have := hacc.1
        omega
      have gr : rs[i]? = some rs[i] := List.getElem?_eq_getElem hi
      have z1 := hrs _ (List.getElem_mem hi)
      have hx := RowV.kt (hacc.2 i x _ hxi gr) (Kt.of sm)
      walk_at "go"
      refine ⟨g, f, tv, x, t, rs[i], m, 2520, 2520, 16128000000000, 322560, 130, F', R, W, rfl, hg, hf.sm sm, TabV.kt ht (Kt.of sm), hx, htl, hm1, hm, htz, z1, by decide, by decide, by decide, by decide, by decide, by decide, by decide, pw_lt (pw_mul hm8.1 (pw_mul bMr bMt)) (by decide), by decide, by decide, fun v1 H1 d s1 h1 td ed => ?_⟩
      obtain ⟨p1, rfl, hp1⟩ := h1
      obtain ⟨⟨l, _, hl⟩, _⟩ := td
      walk_at "go"
      refine w_ite (fun hd => ?_) (fun hd => ?_)
      · walk_at "go"
        exact qe ⟨_, List.getElem_mem hi, ed.symm.trans ((e_zero hg hl).mpr hd)⟩ _ (sm.trans s1)
      · walk_at "go"
        refine ⟨⟨_, rfl⟩, sm.trans s1, fun r hr' => ?_⟩
        rw [List.take_add_one, gr] at hr'
        rcases List.mem_append.mp hr' with h | h
        · exact hall r h
        · rw [List.mem_singleton.mp h]
          exact fun z => hd ((e_zero hg hl).mp (ed.trans z))
    · obtain ⟨⟨y2, rfl⟩, sm, hall⟩ := hP
      rw [List.take_of_length_le (by rw [hacc.1]; exact Nat.le_refl _)] at hall
      exact q hall _ sm
theorem ok_leading_mirrors {f : Addr} {fd : FuncData} (F : FnP K "leading_mirrors" s_leading_mirrors f fd)
    {f_row_less : Addr} {fd_row_less : FuncData} (F_row_less : FnP K "row_less" s_row_less f_row_less fd_row_less) (b_row_less : Binds K fd_row_less ["ground", "row", "other"] []) (g_row_less : mg "row_less" = some (.ref f_row_less)) (G_row_less : FnOk P w K mg base CX0 4 f_row_less fd_row_less ["ground", "row", "other"] (sp_row_less K))
    {f_row_plus : Addr} {fd_row_plus : FuncData} (F_row_plus : FnP K "row_plus" s_row_plus f_row_plus fd_row_plus) (b_row_plus : Binds K fd_row_plus ["ground", "row", "other"] []) (g_row_plus : mg "row_plus" = some (.ref f_row_plus)) (G_row_plus : FnOk P w K mg base CX0 4 f_row_plus fd_row_plus ["ground", "row", "other"] (sp_row_plus K))
    {f_worth_of : Addr} {fd_worth_of : FuncData} (F_worth_of : FnP K "worth_of" s_worth_of f_worth_of fd_worth_of) (b_worth_of : Binds K fd_worth_of ["form", "row"] []) (g_worth_of : mg "worth_of" = some (.ref f_worth_of)) (G_worth_of : FnOk P w K mg base CX0 6 f_worth_of fd_worth_of ["form", "row"] (sp_worth_of K)) (CF : FormC K) :
    FnOk P w K mg base CX0 7 f fd ["form", "row", "other"] (sp_leading_mirrors K) := by
  refine F.ok sc_leading_mirrors (fun vs H Q E h => ?_) (fun cdv A outer s H vs Q E hr h => ?_)
  · obtain ⟨g, f, tv, x, y, t, r, s', m, Dt, D, Mt, M, k, F', R, W, rfl, hg, hf, ht, hx, hy, htl, hm1, hm, htz, hrz, hsz, hDt, hD, bDt, bD, bDD, bMt, bMM, bM2, hk4, hk, q⟩ := h
    rfl
  · obtain ⟨g, f, tv, x, y, t, r, s', m, Dt, D, Mt, M, k, F', R, W, rfl, hg, hf, ht, hx, hy, htl, hm1, hm, htz, hrz, hsz, hDt, hD, bDt, bD, bDD, bMt, bMM, bM2, hk4, hk, q⟩ := h
    refine ⟨_, PSs.nox (pss_cons (ps_if (pt_cmpR (op_eqD hr.units) (pv 1) (pv 2) (nomark _)) (pss_one (ps_ret (pe_lst pa_nil))) pss_nil)
        (pss_cons (ps_set (i := 3) sc_leading_mirrors.nd rfl (.inl rfl) (pe_call G_row_less (hr.mono (by decide)) (by rfl) g_row_less F_row_less.kp b_row_less .nil pass0 (pa_cons (pe_fld (pv 0) rfl) (pa_cons (pv 1) (pa_cons (pv 2) pa_nil)))))
        (pss_cons (ps_if (pt_cmpR op_ne (pe_ix ix_tup (pe_call G_worth_of hr (by rfl) g_worth_of F_worth_of.kp b_worth_of .nil pass0 (pa_cons (pv 0) (pa_cons (pv 3) pa_nil))) pe_int (fun _ _ => rfl)) pe_int (nomark _)) (pss_one (ps_ret (pe_lst (pa_cons (pv 3) pa_nil)))) pss_nil)
        (pss_one (ps_ret (pe_lst (pa_cons (pe_call G_row_plus (hr.mono (by decide)) (by rfl) g_row_plus F_row_plus.kp b_row_plus .nil pass0 (pa_cons (pe_fld (pv 0) rfl) (pa_cons (pv 1) (pa_cons (pv 2) pa_nil)))) (pa_cons (pv 2) pa_nil)))))))), ?_⟩
    have tr := hrz.tn hg hk4 hD bD (by omega)
    have ts := hsz.tn hg hk4 hD bD (by omega)
    walk_at "go"
    refine w_eqRowB hx hy ?_
    walk_at "go"
    refine w_ite (fun hc => ?_) (fun hc => ?_)
    · walk_at "go"
      refine w_new (by simp) fun L H1 hL s1 h1 => ?_
      exact q _ L [] [] s1 hL h1 Acc.nil ⟨fun _ => rfl, fun h => absurd hc h, fun h => absurd hc h⟩
    · walk_at "go"
      refine w_gnd CF hf ?_
      walk_at "go"
      refine ⟨g, x, y, r, s', k, rfl, hg, hx, hy, by rw [hrz.1, hsz.1], by rw [hrz.1]; omega, tr, ts, hk4, by omega, fun v1 H1 s1 h1 => ?_⟩
      have gz := rz_less hg hrz hsz
      walk_at "go"
      refine ⟨g, f, tv, v1, t, _, m, Dt, D, Mt, M + M, k, F', R, W, rfl, hg, hf.sm s1, TabV.kt ht (Kt.of s1), h1, htl, hm1, hm, htz, gz, hDt, hD, bDt, bD, bDD, bMt, bMM, bM2, hk4, hk, fun v2 H2 d s2 h2 td ed => ?_⟩
      obtain ⟨p2, rfl, hp2⟩ := h2
      obtain ⟨⟨l, _, hl⟩, _⟩ := td
      walk_at "go"
      refine w_iteN (fun hd => ?_) (fun hd => ?_)
      · walk_at "go"
        refine w_new (by simp) fun L H3 hL s3 h3 => ?_
        exact q _ L [v1] [_] (s1.trans (s2.trans s3)) ((s1.trans s2).free hL) h3 (acc_one (RowV.kt h1 (Kt.of (s2.trans s3)))) ⟨fun h => absurd h hc, fun _ _ => rfl, fun _ h => absurd ((e_zero hg hl).mp (ed.trans h)) hd⟩
      · walk_at "go"
        refine w_gnd CF ((hf.sm s1).sm s2) ?_
        walk_at "go"
        have s12 := s1.trans s2
        refine ⟨g, x, y, r, s', k, rfl, hg, RowV.kt hx (Kt.of s12), RowV.kt hy (Kt.of s12), by rw [hrz.1, hsz.1], by rw [hrz.1]; omega, tr, ts, hk4, by omega, fun v3 H3 s3 h3 => ?_⟩
        walk_at "go"
        refine w_new (by simp) fun L H4 hL s4 h4 => ?_
        exact q _ L [v3, y] [_, s'] (s12.trans (s3.trans s4)) ((s12.trans s3).free hL) h4 (acc_cat (acc_one (RowV.kt h3 (Kt.of s4))) (acc_one (RowV.kt hy (Kt.of (s12.trans (s3.trans s4)))))) ⟨fun h => absurd h hc, fun _ h => absurd (ed.symm.trans ((e_zero hg hl).mpr hd)) h, fun _ _ => rfl⟩
theorem ok__law_worth {f : Addr} {fd : FuncData} (F : FnP K "_law_worth" s__law_worth f fd)
    {f__law_pair : Addr} {fd__law_pair : FuncData} (F__law_pair : FnP K "_law_pair" s__law_pair f__law_pair fd__law_pair) (b__law_pair : Binds K fd__law_pair ["_law_g", "_law_table", "_law_row_here", "_law_other"] []) (g__law_pair : mg "_law_pair" = some (.ref f__law_pair)) (G__law_pair : FnOk P w K mg base CX0 6 f__law_pair fd__law_pair ["_law_g", "_law_table", "_law_row_here", "_law_other"] (sp__law_pair K)) :
    FnOk P w K mg base CX0 7 f fd ["_law_g", "_law_table", "_law_row_here"] (sp__law_worth K) := by
  refine F.ok sc__law_worth (fun vs H Q E h => ?_) (fun cdv A outer s H vs Q E hr h => ?_)
  · obtain ⟨g, x, y, t, r, m, Dt, Dr, Mt, Mr, k, F', R, W, rfl, hg, hx, hy, htl, hm1, hm, ht, htr, hDt, hDr, hD, hMt, hMr, hM1, hM2, hk4, hk, q⟩ := h
    rfl
  · obtain ⟨g, x, y, t, r, m, Dt, Dr, Mt, Mr, k, F', R, W, rfl, hg, hx, hy, htl, hm1, hm, ht, htr, hDt, hDr, hD, hMt, hMr, hM1, hM2, hk4, hk, q⟩ := h
    refine ⟨_, PSs.nox (pss_one (ps_ret (pe_call G__law_pair hr (by rfl) g__law_pair F__law_pair.kp b__law_pair .nil pass0 (pa_cons (pv 0) (pa_cons (pv 1) (pa_cons (pv 2) (pa_cons (pv 2) pa_nil))))))), ?_⟩
    walk_at "go"
    exact ⟨g, x, y, y, t, r, r, m, Dt, Dr, Dr, Mt, Mr, Mr, k, F', R, W, rfl, hg, hx, hy, hy, htl, hm1, hm, ht, htr, htr, hDt, hDr, hDr, hD, hMt, hMr, hMr, hM1, hM2, hk4, hk, q⟩
theorem ok__law_changed {f : Addr} {fd : FuncData} (F : FnP K "_law_changed" s__law_changed f fd)
    {f__law_take : Addr} {fd__law_take : FuncData} (F__law_take : FnP K "_law_take" s__law_take f__law_take fd__law_take) (b__law_take : Binds K fd__law_take ["_law_bag_here", "_law_many"] []) (g__law_take : mg "_law_take" = some (.ref f__law_take)) (G__law_take : FnOk P w K mg base CX0 1 f__law_take fd__law_take ["_law_bag_here", "_law_many"] (sp__law_take K))
    {f__law_product : Addr} {fd__law_product : FuncData} (F__law_product : FnP K "_law_product" s__law_product f__law_product fd__law_product) (b__law_product : Binds K fd__law_product ["_law_g", "_law_one", "_law_other"] []) (g__law_product : mg "_law_product" = some (.ref f__law_product)) (G__law_product : FnOk P w K mg base CX0 6 f__law_product fd__law_product ["_law_g", "_law_one", "_law_other"] (sp__law_product K))
    {f__law_turned : Addr} {fd__law_turned : FuncData} (F__law_turned : FnP K "_law_turned" s__law_turned f__law_turned fd__law_turned) (b__law_turned : Binds K fd__law_turned ["_law_table"] []) (g__law_turned : mg "_law_turned" = some (.ref f__law_turned)) (G__law_turned : FnOk P w K mg base CX0 1 f__law_turned fd__law_turned ["_law_table"] (sp__law_turned K))
    {f__law_minus : Addr} {fd__law_minus : FuncData} (F__law_minus : FnP K "_law_minus" s__law_minus f__law_minus fd__law_minus) (b__law_minus : Binds K fd__law_minus ["_law_g", "_law_x"] []) (g__law_minus : mg "_law_minus" = some (.ref f__law_minus)) (G__law_minus : FnOk P w K mg base CX0 3 f__law_minus fd__law_minus ["_law_g", "_law_x"] (sp__law_minus K))
    {f__law_low : Addr} {fd__law_low : FuncData} (F__law_low : FnP K "_law_low" s__law_low f__law_low fd__law_low) (b__law_low : Binds K fd__law_low ["_law_g", "_law_up", "_law_down"] []) (g__law_low : mg "_law_low" = some (.ref f__law_low)) (G__law_low : FnOk P w K mg base CX0 2 f__law_low fd__law_low ["_law_g", "_law_up", "_law_down"] (sp__law_low K))
    {f__law_ones : Addr} {fd__law_ones : FuncData} (F__law_ones : FnP K "_law_ones" s__law_ones f__law_ones fd__law_ones) (b__law_ones : Binds K fd__law_ones ["_law_many"] []) (g__law_ones : mg "_law_ones" = some (.ref f__law_ones)) (G__law_ones : FnOk P w K mg base CX0 1 f__law_ones fd__law_ones ["_law_many"] (sp__law_ones K)) (m_len : mg "len" = none) (m_range : mg "range" = none) (m_tuple : mg "tuple" = none) (m_list : mg "list" = none) :
    FnOk P w K mg base CX0 7 f fd ["_law_bag_here", "_law_g", "_law_table"] (sp__law_changed K) := by
  refine F.ok sc__law_changed (fun vs H Q E h => ?_) (fun cdv A outer s H vs Q E hr h => ?_)
  · obtain ⟨b, g, x, t, m, F', R, W, rfl, hgr, hb, hx, hf, hm1, hm, q⟩ := h
    rfl
  · obtain ⟨b, g, x, t, m, F', R, W, rfl, hgr, hb, hx, hf, hm1, hm, q⟩ := h
    refine ⟨_, PSs.nox (pss_cons (ps_set (i := 3) sc__law_changed.nd rfl (.inl rfl) (pe_callB call_len_seq (by rfl) m_len (by decide +kernel) (pa_cons (pv 2) pa_nil)))
        (pss_cons (ps_for PassesOwn.never rfl (pi_range1 (by rfl) m_range (pa_cons (pe_ifExp (pt_cmpR op_gt (pv 3) pe_int (nomark _)) (pe_call G__law_take (hr.mono (by decide)) (by rfl) g__law_take F__law_take.kp b__law_take .nil pass0 (pa_cons (pv 0) (pa_cons pe_int pa_nil))) pe_int) pa_nil)) (pg_name (i := 4) sc__law_changed.nd rfl (.inl rfl)) (pss_cons (ps_set (i := 5) sc__law_changed.nd rfl (.inl rfl) (pe_call G__law_take (hr.mono (by decide)) (by rfl) g__law_take F__law_take.kp b__law_take .nil pass0 (pa_cons (pv 0) (pa_cons (pv 3) pa_nil))))
        (pss_cons (ps_set (i := 6) sc__law_changed.nd rfl (.inl rfl) (pe_op op_modN (pe_op op_add (pe_op op_add (pv 5) pe_int) (pe_call G__law_take (hr.mono (by decide)) (by rfl) g__law_take F__law_take.kp b__law_take .nil pass0 (pa_cons (pv 0) (pa_cons (pe_op op_sub (pv 3) pe_int) pa_nil)))) (pv 3)))
        (pss_cons (ps_set (i := 7) sc__law_changed.nd rfl (.inl rfl) (pe_ix ix_list (pe_lst (pa_cons (pe_tup (pa_cons pe_int (pa_cons pe_int pa_nil))) (pa_cons (pe_call G__law_minus (hr.mono (by decide)) (by rfl) g__law_minus F__law_minus.kp b__law_minus .nil pass0 (pa_cons (pv 1) (pa_cons (pe_tup (pa_cons pe_int (pa_cons pe_int pa_nil))) pa_nil))) (pa_cons (pe_call G__law_low (hr.mono (by decide)) (by rfl) g__law_low F__law_low.kp b__law_low .nil pass0 (pa_cons (pv 1) (pa_cons pe_int (pa_cons pe_int pa_nil)))) pa_nil)))) (pe_call G__law_take (hr.mono (by decide)) (by rfl) g__law_take F__law_take.kp b__law_take .nil pass0 (pa_cons (pv 0) (pa_cons pe_int pa_nil))) (fun _ _ => rfl)))
        (pss_cons (ps_setLc (i := 8) (own := [("_law_row_here", 10)]) (g := gName 10) (tt := tYes) (by rfl) sc__law_changed.nd rfl rfl (sw_true rfl rfl rfl (by decide +kernel)) (pi_tup (pe_call G__law_ones (hr.mono (by decide)) (by rfl) g__law_ones F__law_ones.kp b__law_ones .nil pass0 (pa_cons (pv 3) pa_nil))) (blkOk_by (own := [("_law_row_here", 10)]) (N := ["_law_bag_here", "_law_g", "_law_table", "_law_many", "_law_turn", "_law_i", "_law_j", "_law_x", "_law_letters_here", "_law_step", "_law_row_here"]) (sc := defScope s__law_changed) (by decide +kernel)) (fun _ _ _ _ _ => (pg_name (i := 10) sc__law_changed.nd rfl (.inl rfl))) (fun _ _ _ _ _ => pts_nil) (fun _ _ _ _ _ => (pe_callTy (r := fun xs H Q => ∃ p ys, xs = [V.ref p] ∧ (SqL K H p ys ∨ SqT K H p ys) ∧ ∀ l : Addr, H l = none → Q (V.ref l) (upd H l (HO.lst ys))) call_list_of (by rfl) m_list (by decide +kernel) (pa_cons (pv 10) pa_nil))))
        (pss_cons (ps_asg (pv 7) (pg_sub (pe_ix ix_list (pv 8) (pv 5) (fun _ _ => rfl)) (pv 6) set_list))
        (pss_cons (ps_set (i := 9) sc__law_changed.nd rfl (.inl rfl) (pe_callTy call_tuple_of (by rfl) m_tuple (by decide +kernel) (pa_cons (pe_lc (own := [("_law_row_here", 10)]) (g := gName 10) (tt := tYes) (by rfl) sc__law_changed.nd (pi_list (pv 8)) (blkOk_by (own := [("_law_row_here", 10)]) (N := ["_law_bag_here", "_law_g", "_law_table", "_law_many", "_law_turn", "_law_i", "_law_j", "_law_x", "_law_letters_here", "_law_step", "_law_row_here"]) (sc := defScope s__law_changed) (by decide +kernel)) (fun _ _ _ _ _ => (pg_name (i := 10) sc__law_changed.nd rfl (.inl rfl))) (fun _ _ _ _ _ => pts_nil) (fun _ _ _ _ _ => (pe_callTy (r := rTupOf K) call_tupOf (by rfl) m_tuple (by decide +kernel) (pa_cons (pv 10) pa_nil)))) pa_nil)))
        (pss_one (ps_set (i := 2) sc__law_changed.nd rfl (.inl rfl) (pe_call G__law_product hr (by rfl) g__law_product F__law_product.kp b__law_product .nil pass0 (pa_cons (pv 1) (pa_cons (pe_call G__law_product hr (by rfl) g__law_product F__law_product.kp b__law_product .nil pass0 (pa_cons (pv 1) (pa_cons (pv 9) (pa_cons (pv 2) pa_nil)))) (pa_cons (pe_call G__law_turned (hr.mono (by decide)) (by rfl) g__law_turned F__law_turned.kp b__law_turned .nil pass0 (pa_cons (pv 9) pa_nil)) pa_nil)))))))))))))
        (pss_one (ps_ret (pv 2))))), ?_⟩
    have hg := hgr.two
    have ⟨hg0, hg13⟩ := hgr.bd
    obtain ⟨p, xs, rfl, hp, hlx, hxs⟩ := hx
    have htl := hf.len
    have htx : xs.length = m := by omega
    have hbp : Kt H H := fun _ _ h => h
    walk_at "go"
    refine ⟨p, xs, rfl, .inr (SqT.of hp), ?_⟩
    walk_at "go"
    have hx0 : TabV H (.ref p) t := ⟨p, xs, rfl, hp, hlx, hxs⟩
    have main : ∀ (n : Nat) (H1 : Hp), n ≤ 4 → (n = 0 ∨ 2 ≤ m) → Mv b H H1 → Bag H1 b → TabV H1 (.ref p) t → ∀ (D' : Ends) (q' : ∀ (H' : Hp) (v : V) (T : List (List (Int × Int))) (y4 y5 y6 y7 y8 y9 y10 : Option V), TabV H' v T → FrmT W 2520 16128000000000 m T → Mv b H H' → Bag H' b → D'.nx [some (.ref b), some (.int g), some v, some (.int (m : Int)), y4, y5, y6, y7, y8, y9, y10] H'), True := fun _ _ _ _ _ _ _ _ _ => trivial
    clear main
    refine w_ite (fun hc => ?_) (fun hc => ?_)
    · walk_at "go"
      refine ⟨b, 5, rfl, by decide, by decide, hb, fun H1 dn h10 h11 m1 hb1 => ?_⟩
      walk_at "go"
      refine ⟨by omega, by omega, ?_⟩
      refine for_range (fun i σ H' => ∃ (tv : V) (T : List (List (Int × Int))), (∃ y4 y5 y6 y7 y8 y9 y10, σ = [some (.ref b), some (.int g), some tv, some (.int (xs.length : Int)), y4, y5, y6, y7, y8, y9, y10]) ∧ Mv b H H' ∧ Bag H' b ∧ TabV H' tv T ∧ FrmT W 2520 (161280 * 100 ^ i) m T) ⟨.ref p, t, ⟨_, _, _, _, _, _, _, rfl⟩, m1, hb1, TabV.kt hx0 (m1.kt hb), hf⟩ (fun i σ H' hi hP => ?_) (fun σ H' hP => ?_)
      · obtain ⟨tv, T, ⟨y4, y5, y6, y7, y8, y9, y10, rfl⟩, mv, hbi, hT, hfT⟩ := hP
        have hi4 : i < 4 := by omega
        have hMi : 161280 * 100 ^ i ≤ 161280000000 := by
          have : 100 ^ i ≤ 100 ^ 3 := Nat.pow_le_pow_right (by decide) (by omega)
          omega
        walk_at "go"
        refine ⟨b, xs.length, rfl, by omega, by omega, hbi, fun H2 di h20 h21 m2 hb2 => ?_⟩
        walk_at "go"
        refine ⟨b, (xs.length : Int) - 1, rfl, by omega, by omega, hb2, fun H3 dj h30 h31 m3 hb3 => ?_⟩
        walk_at "go"
        refine w_I (by omega) ?_
        walk_at "go"
        obtain ⟨ni, eni⟩ : ∃ ni : Nat, di = (ni : Int) := ⟨di.toNat, by omega⟩
        have hj0 : 0 ≤ (di + 1 + dj).fmod (xs.length : Int) ∧ (di + 1 + dj).fmod (xs.length : Int) < (xs.length : Int) ∧ (di + 1 + dj).fmod (xs.length : Int) ≠ di := by
          rw [fmod_pos _ (by omega)]
          refine ⟨Int.emod_nonneg _ (by omega), Int.emod_lt_of_pos _ (by omega), fun z => ?_⟩
          by_cases hlt : di + 1 + dj < (xs.length : Int)
          · rw [Int.emod_eq_of_lt (by omega) hlt] at z
            omega
          · have e : (di + 1 + dj) % (xs.length : Int) = di + 1 + dj - (xs.length : Int) := by
              rw [← Int.sub_emod_right, Int.emod_eq_of_lt (by omega) (by omega)]
            omega
        generalize (di + 1 + dj).fmod (xs.length : Int) = nj' at hj0 ⊢
        obtain ⟨nj, enj⟩ : ∃ nj : Nat, nj' = (nj : Int) := ⟨nj'.toNat, by omega⟩
        subst eni enj
        have hni : ni < m := by omega
        have hnj : nj < m := by omega
        have hij : ni ≠ nj := by omega
        have m03 := mv.trans (m2.trans m3)
        have kt3 : Kt H' H3 := (m2.kt hbi).trans (m3.kt hb2)
        have hT3 := TabV.kt hT kt3
        refine w_new (by simp) fun o4 H4 ho4 s4 h4 => ?_
        walk_at "go"
        refine w_new (by simp) fun o5 H5 ho5 s5 h5 => ?_
        refine ⟨g, .ref o5, (1, 1), rfl, hg0, hg13, ⟨o5, rfl, h5⟩, by show (1 : Int).natAbs < 2 ^ 8000; exact Nat.lt_of_lt_of_le (show 1 < 2 ^ 1 by decide) (Nat.pow_le_pow_right (by decide) (by decide)), by decide, fun p6 H6 hp6 s6 h6 => ?_⟩
        walk_at "go"
        refine ⟨g, 2, 1, rfl, hg0, hg13, by decide, by exact Nat.lt_of_lt_of_le (show (1 : Int).natAbs < 2 ^ 1 by decide) (Nat.pow_le_pow_right (by decide) (by decide)), fun p7 H7 hp7 s7 h7 => ?_⟩
        walk_at "go"
        refine w_new (by simp) fun p8 H8 hp8 s8 h8 => ?_
        have s38 := s4.trans (s5.trans (s6.trans (s7.trans s8)))
        walk_at "go"
        refine ⟨b, 3, rfl, by decide, by decide, hb3.same s38, fun H9 d9 h90 h91 m9 hb9 => ?_⟩
        have nb8 : p8 ≠ b := bag_ne (hb3.same (s4.trans (s5.trans (s6.trans s7)))) hp8
        obtain ⟨xv, exv, hxv⟩ := pick3 (x := V.ref o4) (y := V.ref p6) (z := V.ref p7) h90 h91
        refine w_ixL (m9 _ _ nb8 h8) exv ?_
        have kt89 : Kt H8 H9 := m9.kt (hb3.same s38)
        obtain ⟨xa, hxa, hxz, hxt⟩ : ∃ xa, NumV H9 xv xa ∧ TZ g 1 2 xa ∧ True := by
          rcases hxv with rfl | rfl | rfl
          · exact ⟨(1, 1), ⟨o4, rfl, kt89 _ _ (s8 _ _ (s7 _ _ (s6 _ _ (s5 _ _ h4))))⟩, (TZ.one hg).mono (by decide), trivial⟩
          · exact ⟨_, ⟨p6, rfl, kt89 _ _ (s8 _ _ (s7 _ _ h6))⟩, ((TZ.one hg).minus hg).mono (by decide), trivial⟩
          · exact ⟨_, ⟨p7, rfl, kt89 _ _ (s8 _ _ h7)⟩, tz_low1 hg 2 (by decide), trivial⟩
        have kt39 : Kt H3 H9 := (Kt.of s38).trans kt89
        have m09 := m03.trans ((Mv.same s38).trans m9)
        walk_at "go"
        refine ⟨m, by rw [htx]; rfl, by omega, fun v10 H10 s10 h10 => ?_⟩
        obtain ⟨p10, x10, rfl, hp10, hl10, ha10⟩ := sqv_acc h10
        have hol : (onesF m).length = m := by unfold onesF; rw [List.length_map, List.length_range]
        walk_at "go"
        refine ⟨p10, rfl, ⟨_, SqT.of hp10⟩, fun D hD => ?_⟩
        refine lc_tup (xs := x10) (fun j H' => Same H10 H' ∧ ∃ zs, H' D = some (.lst zs) ∧ zs.Nodup ∧ (∀ v ∈ zs, v ≠ .ref D) ∧ (∀ p, V.ref p ∈ zs → H10 p = none) ∧ Acc LRow H' zs (onesF m) j) ⟨Same.updD (Same.refl H10) hD, [], upd_same, List.nodup_nil, fun v hv => (by cases hv), fun v hv => (by cases hv), Acc.nil⟩ (fun j H' _ hP => SqT.of (hP.1 _ _ hp10)) (fun j y H11 hyj hP => ?_) (fun H11 hP => ?_)
        · obtain ⟨sm11, zs, hD11, hnd, hnD, hfz, hz11⟩ := hP
          have hj : j < (onesF m).length := by
            have := (List.getElem?_eq_some_iff.mp hyj).1
            omega
          have go1 : (onesF m)[j]? = some (onesF m)[j] := List.getElem?_eq_getElem hj
          obtain ⟨pw, ws, rfl, hpw, hwl, hwa⟩ := sqv_acc (RowV.kt (ha10.2 j y _ hyj go1) (Kt.of sm11))
          walk_at "go"
          refine ⟨rfl, ?_⟩
          walk_at "go"
          refine ⟨_, _, rfl, .inr (SqT.of hpw), fun L12 hL12 => ?_⟩
          have s12 := same_upd (o := HO.lst ws) hL12
          have h12 : (upd H11 L12 (.lst ws)) L12 = some (.lst ws) := upd_same
          generalize upd H11 L12 (.lst ws) = H12 at s12 h12 ⊢
          have hD12 := s12 _ _ hD11
          have nLD : V.ref L12 ≠ V.ref D := fun z => by
            cases z
            rw [hD11] at hL12
            cases hL12
          refine ⟨zs, hD12, small1000 (by rw [hz11.1]; omega), Same.updD (sm11.trans s12) hD, _, upd_same, ?_, fun v hv => ?_, fun p' hp' => ?_, ?_⟩
          · rw [List.nodup_append]
            refine ⟨hnd, List.nodup_cons.mpr ⟨fun z => (by cases z), List.nodup_nil⟩, fun v hv v' hv' e => ?_⟩
            rw [List.mem_singleton.mp hv'] at e
            subst e
            obtain ⟨a, ha⟩ := List.getElem?_of_mem hv
            have hal := (List.getElem?_eq_some_iff.mp ha).1
            rw [hz11.1] at hal
            obtain ⟨pz, xz, ez, hpz, _⟩ := hz11.2 a _ _ ha (List.getElem?_eq_getElem (show a < (onesF m).length by omega))
            cases ez
            rw [hpz] at hL12
            cases hL12
          · rcases List.mem_append.mp hv with h | h
            · exact hnD v h
            · rw [List.mem_singleton.mp h]
              exact nLD
          · rcases List.mem_append.mp hp' with h | h
            · exact hfz p' h
            · cases List.mem_singleton.mp h
              exact sm11.free hL12
          · have mono : ∀ v r, v ∈ zs → LRow H11 v r → LRow (upd H12 D (.lst (zs ++ [V.ref L12]))) v r := fun v r hv h => (h.sm s12).upd hD12 (hnD v hv)
            have hz12 : Acc LRow (upd H12 D (.lst (zs ++ [V.ref L12]))) zs (onesF m) j := ⟨hz11.1, fun a v r e1 e2 => mono v r (List.mem_of_getElem? e1) (hz11.2 a v r e1 e2)⟩
            refine hz12.snoc go1 (LRow.upd ⟨L12, ws, rfl, h12, ?_⟩ hD12 nLD)
            exact hwa.mono fun x a h => NumV.kt h (Kt.of s12)
        · obtain ⟨sm11, zs, hD11, hnd, hnD, hfz, hz11⟩ := hP
          have hxl10 : x10.length = m := by omega
          rw [hxl10] at hz11
          have hzl : zs.length = m := hz11.1
          have gz : zs[ni]? = some (zs[ni]'(by omega)) := List.getElem?_eq_getElem _
          obtain ⟨pi, xi, epi, hpi, hai⟩ := hz11.2 ni _ _ gz (ones_get hni)
          rw [epi] at gz
          have hxil : xi.length = m := by rw [hai.1, List.length_map, List.length_range]
          walk_at "go"
          refine w_ixL hD11 (atI_nat gz) ?_
          walk_at "go"
          refine w_setL hpi (by rw [hxil]; exact ixN_nat hnj) ?_
          have npD : pi ≠ D := fun e => hnD _ (List.mem_of_getElem? gz) (by rw [e])
          have hD12 : (upd H11 pi (.lst (xi.set nj xv))) D = some (.lst zs) := by rw [upd_ne (Ne.symm npD)]; exact hD11
          have k10 : Kt H9 H11 := Kt.of (s10.trans sm11)
          have hxa12 : NumV (upd H11 pi (.lst (xi.set nj xv))) xv xa := (hxa.kt k10).kt (Kt.updL hpi)
          have hfr10 := hfz pi (List.mem_of_getElem? gz)
          have s12 : Same H10 (upd H11 pi (.lst (xi.set nj xv))) := Same.updD sm11 hfr10
          have hacc12 : Acc LRow (upd H11 pi (.lst (xi.set nj xv))) zs ((onesF m).set ni (((List.range m).map fun c => ((if ni = c then 1 else 0 : Int), (1 : Int))).set nj xa)) m := by
            refine ⟨hzl, fun a v r e1 e2 => ?_⟩
            rw [List.getElem?_set] at e2
            by_cases ea : ni = a
            · subst ea
              rw [if_pos rfl, if_pos (by rw [hol]; exact hni)] at e2
              cases Option.some.inj e2
              cases Option.some.inj (gz.symm.trans e1)
              refine ⟨pi, xi.set nj xv, rfl, upd_same, ?_⟩
              refine ⟨by rw [List.length_set, List.length_set]; exact hai.1, fun c y d f1 f2 => ?_⟩
              rw [List.getElem?_set] at f1 f2
              by_cases ec : nj = c
              · rw [if_pos ec] at f1 f2
                split at f1
                · cases Option.some.inj f1
                  split at f2
                  · cases Option.some.inj f2
                    exact hxa12
                  · cases f2
                · cases f1
              · rw [if_neg ec] at f1 f2
                exact (hai.2 c y d f1 f2).kt (Kt.updL hpi)
            · rw [if_neg ea] at e2
              refine (hz11.2 a v r e1 e2).upd hpi fun e => ?_
              have h1 := (List.getElem?_eq_some_iff.mp e1)
              have h2 := (List.getElem?_eq_some_iff.mp gz)
              exact ea ((List.getElem_inj hnd).mp (h2.2.trans (e.symm.trans h1.2.symm)))
          generalize upd H11 pi (.lst (xi.set nj xv)) = H12 at hD12 hxa12 s12 hacc12 ⊢
          have hPl : ((onesF m).set ni (((List.range m).map fun c => ((if ni = c then 1 else 0 : Int), (1 : Int))).set nj xa)).length = m := by rw [List.length_set]; exact hol
          have hPz : ∀ r ∈ (onesF m).set ni (((List.range m).map fun c => ((if ni = c then 1 else 0 : Int), (1 : Int))).set nj xa), RZ g 1 2 m r := fun r hr => by
            have ones : ∀ r ∈ onesF m, RZ g 1 2 m r := fun r hr => ⟨(rz_ones hg r hr).1, fun a ha => ((rz_ones hg r hr).2 a ha).mono (by decide)⟩
            rcases List.mem_or_eq_of_mem_set hr with h | h
            · exact ones r h
            · subst h
              refine ⟨by rw [List.length_set, List.length_map, List.length_range], fun a ha => ?_⟩
              rcases List.mem_or_eq_of_mem_set ha with h | h
              · exact ((rz_onesrow hg (m := m) (k := ni)).2 a h).mono (by decide)
              · rw [h]
                exact hxz
          have hPe := er_step (V := W) hni hnj hij xa
          generalize (onesF m).set ni (((List.range m).map fun c => ((if ni = c then 1 else 0 : Int), (1 : Int))).set nj xa) = P at hacc12 hPl hPz hPe
          walk_at "go"
          refine ⟨D, rfl, ⟨_, SqL.of hD12⟩, fun D2 hD2 => ?_⟩
          refine lc_list (xs := zs) (fun j H' => Same H12 H' ∧ ∃ ws, H' D2 = some (.lst ws) ∧ Acc RowV H' ws P j) ⟨Same.updD (Same.refl H12) hD2, [], upd_same, Acc.nil⟩ (fun j H' _ hP => SqL.of (hP.1 _ _ hD12)) (fun j y H13 hyj hP => ?_) (fun H13 hP => ?_)
          · obtain ⟨sm13, ws, hD13, hw13⟩ := hP
            have hj : j < P.length := by
              have := (List.getElem?_eq_some_iff.mp hyj).1
              omega
            have gP : P[j]? = some P[j] := List.getElem?_eq_getElem hj
            obtain ⟨pw, vs, rfl, hpw, hva⟩ := (hacc12.2 j y _ hyj gP).sm sm13
            walk_at "go"
            refine ⟨rfl, ?_⟩
            walk_at "go"
            refine ⟨_, _, rfl, .inl ⟨SqL.of hpw, fun l14 hl14 => ?_⟩⟩
            have s14 := same_upd (o := HO.tup vs) hl14
            have hD14 := s14 _ _ hD13
            have kt : Kt H13 (upd (upd H13 l14 (.tup vs)) D2 (.lst (ws ++ [V.ref l14]))) := (Kt.of s14).trans (Kt.updL hD14)
            refine ⟨ws, hD14, small1000 (by rw [hw13.1]; omega), Same.updD (sm13.trans s14) hD2, _, upd_same, ?_⟩
            exact (hw13.mono fun x a h => RowV.kt h kt).snoc gP (RowV.kt (acc_sqv upd_same (hva.mono fun x a h => NumV.kt h (Kt.of s14))) (Kt.updL hD14))
          · obtain ⟨sm13, ws, hD13, hw13⟩ := hP
            rw [hzl] at hw13
            walk_at "go"
            refine ⟨_, _, rfl, .inl ⟨SqL.of hD13, fun l14 hl14 => ?_⟩⟩
            have s14 := same_upd (o := HO.tup ws) hl14
            have h14 : (upd H13 l14 (.tup ws)) l14 = some (.tup ws) := upd_same
            generalize upd H13 l14 (.tup ws) = H14 at s14 h14 ⊢
            have hPv : TabV H14 (.ref l14) P := (hw13.mono fun x a h => RowV.kt h (Kt.of s14)).sq hPl.symm h14
            have s914 := s10.trans (s12.trans (sm13.trans s14))
            have hT14 : TabV H14 tv T := TabV.kt hT3 (kt39.trans (Kt.of s914))
            have hdP : Fr.dC (P.map (er W)) (List.range m) ≠ 0 := by
              rw [hPe, det_elem hni hnj hij]
              exact W.ne
            have hmm : m * m ≤ 25 := Nat.mul_le_mul hm hm
            have hbig : m * (161280 * 100 ^ i * 2) ≤ 5 * (161280000000 * 2) := Nat.mul_le_mul hm (Nat.mul_le_mul_right _ hMi)
            have hbig2 : m * (2 * (m * (161280 * 100 ^ i * 2))) ≤ 5 * (2 * (5 * (161280000000 * 2))) := Nat.mul_le_mul hm (Nat.mul_le_mul_left _ hbig)
            walk_at "go"
            refine ⟨g, .ref l14, tv, P, T, m, m, 1, 2520, 2, 161280 * 100 ^ i, 100, F', R, W, rfl, hg, hPv, hT14, hPz, by omega, hfT.len, hm1, by omega, by omega, hfT.row, by decide, by decide, by decide, by decide, by omega, ?_, by decide, by decide, fun v15 H15 T1 s15 h15 hT1l hT1z hT1e => ?_⟩
            · have : (m + 1) * (161280 * 100 ^ i * 2) ≤ 6 * (161280000000 * 2) := Nat.mul_le_mul (by omega) (Nat.mul_le_mul_right _ hMi)
              omega
            have hPv15 := TabV.kt hPv (Kt.of s15)
            walk_at "go"
            refine ⟨.ref l14, P, m, rfl, hPv15, by omega, by omega, fun r hr => (hPz r hr).1, by omega, fun v16 H16 s16 h16 => ?_⟩
            walk_at "go"
            have hQz : ∀ r ∈ turnF m P, RZ g 1 2 m r := fun r hr => by
              unfold turnF at hr
              obtain ⟨c, hc, rfl⟩ := List.mem_map.mp hr
              refine ⟨by rw [List.length_map]; exact hPl, fun a ha => ?_⟩
              obtain ⟨row, hrow, rfl⟩ := List.mem_map.mp ha
              have hrz := hPz row hrow
              have hcl : c < row.length := by rw [hrz.1]; exact List.mem_range.mp hc
              rw [List.getD_eq_getElem?_getD, List.getElem?_eq_getElem hcl]
              exact hrz.2 _ (List.getElem_mem hcl)
            refine ⟨g, v15, v16, T1, turnF m P, m, m, 2520 * 1, 1, m * (161280 * 100 ^ i * 2), 2, 100, F', R, W, rfl, hg, TabV.kt h15 (Kt.of s16), h16, hT1z, by omega, by unfold turnF; rw [List.length_map, List.length_range], hm1, by omega, by omega, hQz, by decide, by decide, by decide, by omega, by decide, ?_, by decide, by decide, fun v17 H17 T2 s17 h17 hT2l hT2z hT2e => ?_⟩
            · have : (m + 1) * (2 * (m * (161280 * 100 ^ i * 2))) ≤ 6 * (2 * (5 * (161280000000 * 2))) := Nat.mul_le_mul (by omega) (Nat.mul_le_mul_left _ hbig)
              omega
            walk_at "go"
            have s917 := s914.trans (s15.trans (s16.trans s17))
            refine ⟨v17, T2, ⟨_, _, _, _, _, _, _, rfl⟩, m09.trans (Mv.same s917), hb9.same s917, h17, ?_⟩
            refine hfT.step hg hPl hdP (fun r hr => (hPz r hr).1) hT1e hT2e (by omega) fun r hr => ⟨(hT2z r hr).1, fun a ha => ?_⟩
            have tz := (hT2z r hr).2 a ha
            rw [show ((1 : Int) * (2520 * 1)) = 2520 by decide] at tz
            refine tz.mono ?_
            have e1 : m * (2 * (m * (161280 * 100 ^ i * 2))) = m * m * 4 * (161280 * 100 ^ i) := by
              generalize 161280 * 100 ^ i = X
              rw [Nat.mul_left_comm 2 m, ← Nat.mul_assoc m m, Nat.mul_comm X 2, ← Nat.mul_assoc 2 2, ← Nat.mul_assoc]
            rw [e1, Nat.pow_succ]
            have : m * m * 4 * (161280 * 100 ^ i) ≤ 100 * (161280 * 100 ^ i) := Nat.mul_le_mul_right _ (by omega)
            omega
      · obtain ⟨tv, T, ⟨y4, y5, y6, y7, y8, y9, y10, rfl⟩, mv, hbi, hT, hfT⟩ := hP
        walk_at "go"
        exact q _ _ T hT (frm_mono hfT (pow100 (by omega))) mv hbi
    · walk_at "go"
      refine ⟨by decide, by decide, ?_⟩
      refine for_range (fun i σ H' => H' = H ∧ ∃ y3 y4 y5 y6 y7 y8 y9 y10, σ = [some (.ref b), some (.int g), some (.ref p), y3, y4, y5, y6, y7, y8, y9, y10]) ⟨rfl, _, _, _, _, _, _, _, _, rfl⟩ (fun i σ H' hi hP => absurd hi (Nat.not_lt_zero _)) (fun σ H' hP => ?_)
      obtain ⟨rfl, y3, y4, y5, y6, y7, y8, y9, y10, rfl⟩ := hP
      walk_at "go"
      exact q _ _ t hx0 (frm_mono hf (by decide)) (Mv.refl b _) hb
theorem ok_leading {f : Addr} {fd : FuncData} (F : FnP K "leading" s_leading f fd)
    {f_want_rows : Addr} {fd_want_rows : FuncData} (F_want_rows : FnP K "want_rows" s_want_rows f_want_rows fd_want_rows) (b_want_rows : Binds K fd_want_rows ["form", "things"] []) (g_want_rows : mg "want_rows" = some (.ref f_want_rows)) (G_want_rows : FnOk P w K mg base (L2N.CX P w) 4 f_want_rows fd_want_rows ["form", "things"] (sp_want_rows K))
    {f_want_worths : Addr} {fd_want_worths : FuncData} (F_want_worths : FnP K "want_worths" s_want_worths f_want_worths fd_want_worths) (b_want_worths : Binds K fd_want_worths ["form", "rows"] []) (g_want_worths : mg "want_worths" = some (.ref f_want_worths)) (G_want_worths : FnOk P w K mg base (L2N.CX P w) 7 f_want_worths fd_want_worths ["form", "rows"] (sp_want_worths K))
    {f_leading_mirrors : Addr} {fd_leading_mirrors : FuncData} (F_leading_mirrors : FnP K "leading_mirrors" s_leading_mirrors f_leading_mirrors fd_leading_mirrors) (b_leading_mirrors : Binds K fd_leading_mirrors ["form", "row", "other"] []) (g_leading_mirrors : mg "leading_mirrors" = some (.ref f_leading_mirrors)) (G_leading_mirrors : FnOk P w K mg base CX0 7 f_leading_mirrors fd_leading_mirrors ["form", "row", "other"] (sp_leading_mirrors K))
    {f_worth_of : Addr} {fd_worth_of : FuncData} (F_worth_of : FnP K "worth_of" s_worth_of f_worth_of fd_worth_of) (b_worth_of : Binds K fd_worth_of ["form", "row"] []) (g_worth_of : mg "worth_of" = some (.ref f_worth_of)) (G_worth_of : FnOk P w K mg base CX0 6 f_worth_of fd_worth_of ["form", "row"] (sp_worth_of K)) (R_NoPlace : RaiseC K mg "NoPlace") :
    FnOk P w K mg base (L2N.CX P w) 8 f fd ["form", "row", "other"] (sp_leading K) := by
  refine F.ok sc_leading (fun vs H Q E h => ?_) (fun cdv A outer s H vs Q E hr h => ?_)
  · obtain ⟨g, f, tv, x, y, t, m, F', R, W, rfl, hg, hf, ht, hft, hx, hy, q1, q2, q3, q4⟩ := h
    rfl
  · obtain ⟨g, f, tv, x, y, t, m, F', R, W, rfl, hg, hf, ht, hft, hx, hy, q1, q2, q3, q4⟩ := h
    refine ⟨_, id (pss_cons (ps_expr (pe_callS G_want_rows (hr.mono (by decide)) (by rfl) g_want_rows F_want_rows.kp b_want_rows (fun σ => L2N.passAt (L2N.takes_of rfl rfl rfl rfl) σ) (pa_cons (pv 0) (pa_cons (pe_lst (pa_cons (pv 1) (pa_cons (pv 2) pa_nil))) pa_nil))))
        (pss_cons (ps_expr (pe_callS G_want_worths hr (by rfl) g_want_worths F_want_worths.kp b_want_worths (fun σ => L2N.passAt (L2N.takes_of rfl rfl rfl rfl) σ) (pa_cons (pv 0) (pa_cons (pe_lst (pa_cons (pv 1) (pa_cons (pv 2) pa_nil))) pa_nil))))
        (pss_cons (ps_if (pt_cmpR (op_neD hr.units) (pe_call G_worth_of (hr.mono (by decide)) (by rfl) g_worth_of F_worth_of.kp b_worth_of .nil pass0 (pa_cons (pv 0) (pa_cons (pv 1) pa_nil))) (pe_call G_worth_of (hr.mono (by decide)) (by rfl) g_worth_of F_worth_of.kp b_worth_of .nil pass0 (pa_cons (pv 0) (pa_cons (pv 2) pa_nil))) (nomark _)) (pss_one (L2N.ps_raise rfl (L2N.takes_of rfl rfl rfl rfl) (L2N.pmk_own PySem.F.excBase_ValueError R_NoPlace.e R_NoPlace.g R_NoPlace.k (raises_own R_NoPlace.b R_NoPlace.t) rfl))) pss_nil)
        (pss_one (ps_ret (pe_call G_leading_mirrors hr (by rfl) g_leading_mirrors F_leading_mirrors.kp b_leading_mirrors .nil pass0 (pa_cons (pv 0) (pa_cons (pv 1) (pa_cons (pv 2) pa_nil))))))))), ?_⟩
    have hm8 := pw_five hft.2.2.1
    have ⟨htl, hm1, hm, htz⟩ := hft
    have mem2 : ∀ {P : V → Prop}, P x → P y → ∀ v ∈ [x, y], P v := fun h1 h2 v hv => by
      rcases List.mem_cons.mp hv with rfl | hv
      · exact h1
      · rw [List.mem_singleton.mp hv]
        exact h2
    walk_at "go"
    refine w_new (by simp) fun L1 H1 hL1 s1 h1 => ?_
    walk_at "go"
    have ktb : ∀ {v : V}, TB 200 2 H v → rowOf H1 g (m : Int) v = rowOf H g (m : Int) v := fun h => rowOf_tb h (Kd.of s1)
    refine ⟨f, tv, g, L1, [x, y], t, m, 200, rfl, hf.sm s1, TabV.kt ht (Kt.of s1), htl, h1, mem2 (hx.sm s1).1 (hy.sm s1).1, fun hall H2 s2 => ?_, fun hex H2 s2 => ?_⟩
    · have ex := hall x List.mem_cons_self
      have ey := hall y (List.mem_cons_of_mem _ List.mem_cons_self)
      rw [ktb hx.1] at ex
      rw [ktb hy.1] at ey
      obtain ⟨r, hr1, hr2⟩ := hx.2 ex
      obtain ⟨s', hs1, hs2⟩ := hy.2 ey
      have hrs : ∀ u ∈ [r, s'], BR g m u := fun u hu => by
        rcases List.mem_cons.mp hu with rfl | hu
        · exact hr2
        · rw [List.mem_singleton.mp hu]
          exact hs2
      walk_at "go"
      refine w_new (by simp) fun L3 H3 hL3 s3 h3 => ?_
      walk_at "go"
      have s13 := s1.trans (s2.trans s3)
      refine ⟨g, f, tv, L3, [x, y], t, [r, s'], m, F', R, W, rfl, hg, hf.sm s13, TabV.kt ht (Kt.of s13), h3, acc_cat (acc_one (RowV.kt hr1 (Kt.of s13))) (acc_one (RowV.kt hs1 (Kt.of s13))), hft, hrs, fun hw H4 s4 => ?_, fun hw H4 s4 => ?_⟩
      · have hw1 := hw r List.mem_cons_self
        have hw2 := hw s' (List.mem_cons_of_mem _ List.mem_cons_self)
        have s14 := s13.trans s4
        walk_at "go"
        refine ⟨g, f, tv, x, t, r, m, 2520, 2520, 16128000000000, 322560, 130, F', R, W, rfl, hg, hf.sm s14, TabV.kt ht (Kt.of s14), RowV.kt hr1 (Kt.of s14), htl, hm1, hm, htz, hr2, by decide, by decide, by decide, by decide, by decide, by decide, by decide, pw_lt (pw_mul hm8.1 (pw_mul bMr bMt)) (by decide), by decide, by decide, fun v5 H5 d5 s5 h5 td5 ed5 => ?_⟩
        have s15 := s14.trans s5
        walk_at "go"
        refine ⟨g, f, tv, y, t, s', m, 2520, 2520, 16128000000000, 322560, 130, F', R, W, rfl, hg, hf.sm s15, TabV.kt ht (Kt.of s15), RowV.kt hs1 (Kt.of s15), htl, hm1, hm, htz, hs2, by decide, by decide, by decide, by decide, by decide, by decide, by decide, pw_lt (pw_mul hm8.1 (pw_mul bMr bMt)) (by decide), by decide, by decide, fun v6 H6 d6 s6 h6 td6 ed6 => ?_⟩
        have s16 := s15.trans s6
        obtain ⟨⟨l5, _, hl5⟩, _⟩ := td5
        obtain ⟨⟨l6, _, hl6⟩, _⟩ := td6
        refine w_neNum (h5.kt (Kt.of s6)) h6 ?_
        by_cases e56 : d5 = d6
        · rw [decide_eq_true e56, Bool.not_true]
          have hwe : bil (t.map (er W)) m (er W r) (er W r) = bil (t.map (er W)) m (er W s') (er W s') := by rw [← ed5, ← ed6, e56]
          walk_at "go"
          refine ⟨g, f, tv, x, y, t, r, s', m, 2520, 2520, 16128000000000, 322560, 130, F', R, W, rfl, hg, hf.sm s16, TabV.kt ht (Kt.of s16), RowV.kt hr1 (Kt.of s16), RowV.kt hs1 (Kt.of s16), htl, hm1, hm, htz, hr2, hs2, by decide, by decide, by decide, by decide, by decide, by decide, by decide, pw_lt (pw_mul hm8.1 (pw_mul (show 322560 + 322560 ≤ 2 ^ 20 by decide) bMt)) (by decide), by decide, by decide, fun H7 L xs us s7 hL h7 ha hled => ?_⟩
          exact q4 r s' hr1 hs1 hr2 hs2 hw1 hwe _ _ (s16.trans s7)
        · rw [decide_eq_false e56, Bool.not_false]
          walk_at "go"
          exact q3 r s' hr1 hs1 hr2 hs2 hw1 hw2 (fun z => e56 (W.inj hg hl5 hl6 (by rw [ed5, ed6, z]))) _ s16
      · refine q2 r s' hr1 hs1 hr2 hs2 ?_ _ (s13.trans s4)
        obtain ⟨u, hu, hz⟩ := hw
        rcases List.mem_cons.mp hu with rfl | hu
        · exact .inl hz
        · rw [List.mem_singleton.mp hu] at hz
          exact .inr hz
    · refine q1 ?_ _ (s1.trans s2)
      obtain ⟨v, hv, e⟩ := hex
      rcases List.mem_cons.mp hv with rfl | hv
      · rw [ktb hx.1] at e
        exact .inl e
      · rw [List.mem_singleton.mp hv, ktb hy.1] at e
        exact .inr e
theorem ok_led {f : Addr} {fd : FuncData} (F : FnP K "led" s_led f fd)
    {f_want_rows : Addr} {fd_want_rows : FuncData} (F_want_rows : FnP K "want_rows" s_want_rows f_want_rows fd_want_rows) (b_want_rows : Binds K fd_want_rows ["form", "things"] []) (g_want_rows : mg "want_rows" = some (.ref f_want_rows)) (G_want_rows : FnOk P w K mg base (L2N.CX P w) 4 f_want_rows fd_want_rows ["form", "things"] (sp_want_rows K))
    {f_want_worths : Addr} {fd_want_worths : FuncData} (F_want_worths : FnP K "want_worths" s_want_worths f_want_worths fd_want_worths) (b_want_worths : Binds K fd_want_worths ["form", "rows"] []) (g_want_worths : mg "want_worths" = some (.ref f_want_worths)) (G_want_worths : FnOk P w K mg base (L2N.CX P w) 7 f_want_worths fd_want_worths ["form", "rows"] (sp_want_worths K))
    {f_root_or_none : Addr} {fd_root_or_none : FuncData} (F_root_or_none : FnP K "root_or_none" s_root_or_none f_root_or_none fd_root_or_none) (b_root_or_none : Binds K fd_root_or_none ["ground", "x"] []) (g_root_or_none : mg "root_or_none" = some (.ref f_root_or_none)) (G_root_or_none : FnOk P w K mg base CX0 3 f_root_or_none fd_root_or_none ["ground", "x"] (sp_root_or_none K))
    {f_over : Addr} {fd_over : FuncData} (F_over : FnP K "over" s_over f_over fd_over) (b_over : Binds K fd_over ["ground", "x", "y"] []) (g_over : mg "over" = some (.ref f_over)) (G_over : FnOk P w K mg base CX0 3 f_over fd_over ["ground", "x", "y"] (sp_over K))
    {f_leading_mirrors : Addr} {fd_leading_mirrors : FuncData} (F_leading_mirrors : FnP K "leading_mirrors" s_leading_mirrors f_leading_mirrors fd_leading_mirrors) (b_leading_mirrors : Binds K fd_leading_mirrors ["form", "row", "other"] []) (g_leading_mirrors : mg "leading_mirrors" = some (.ref f_leading_mirrors)) (G_leading_mirrors : FnOk P w K mg base CX0 7 f_leading_mirrors fd_leading_mirrors ["form", "row", "other"] (sp_leading_mirrors K))
    {f_worth_of : Addr} {fd_worth_of : FuncData} (F_worth_of : FnP K "worth_of" s_worth_of f_worth_of fd_worth_of) (b_worth_of : Binds K fd_worth_of ["form", "row"] []) (g_worth_of : mg "worth_of" = some (.ref f_worth_of)) (G_worth_of : FnOk P w K mg base CX0 6 f_worth_of fd_worth_of ["form", "row"] (sp_worth_of K))
    {f_row_times : Addr} {fd_row_times : FuncData} (F_row_times : FnP K "row_times" s_row_times f_row_times fd_row_times) (b_row_times : Binds K fd_row_times ["ground", "row", "factor"] []) (g_row_times : mg "row_times" = some (.ref f_row_times)) (G_row_times : FnOk P w K mg base CX0 4 f_row_times fd_row_times ["ground", "row", "factor"] (sp_row_times K)) (CF : FormC K) :
    FnOk P w K mg base (L2N.CX P w) 8 f fd ["form", "row", "other"] (sp_led K) := by
  refine F.ok sc_led (fun vs H Q E h => ?_) (fun cdv A outer s H vs Q E hr h => ?_)
  · obtain ⟨g, f, tv, x, y, t, m, F', R, W, rfl, hg, hf, ht, hft, hx, hy, q1, q2, q3⟩ := h
    rfl
  · obtain ⟨g, f, tv, x, y, t, m, F', R, W, rfl, hg, hf, ht, hft, hx, hy, q1, q2, q3⟩ := h
    refine ⟨_, id (pss_cons (ps_expr (pe_callS G_want_rows (hr.mono (by decide)) (by rfl) g_want_rows F_want_rows.kp b_want_rows (fun σ => L2N.passAt (L2N.takes_of rfl rfl rfl rfl) σ) (pa_cons (pv 0) (pa_cons (pe_lst (pa_cons (pv 1) (pa_cons (pv 2) pa_nil))) pa_nil))))
        (pss_cons (ps_expr (pe_callS G_want_worths hr (by rfl) g_want_worths F_want_worths.kp b_want_worths (fun σ => L2N.passAt (L2N.takes_of rfl rfl rfl rfl) σ) (pa_cons (pv 0) (pa_cons (pe_lst (pa_cons (pv 1) (pa_cons (pv 2) pa_nil))) pa_nil))))
        (pss_cons (ps_set (i := 3) sc_led.nd rfl (.inl rfl) (pe_call G_root_or_none (hr.mono (by decide)) (by rfl) g_root_or_none F_root_or_none.kp b_root_or_none .nil pass0 (pa_cons (pe_fld (pv 0) rfl) (pa_cons (pe_call G_over (hr.mono (by decide)) (by rfl) g_over F_over.kp b_over .nil pass0 (pa_cons (pe_fld (pv 0) rfl) (pa_cons (pe_call G_worth_of (hr.mono (by decide)) (by rfl) g_worth_of F_worth_of.kp b_worth_of .nil pass0 (pa_cons (pv 0) (pa_cons (pv 1) pa_nil))) (pa_cons (pe_call G_worth_of (hr.mono (by decide)) (by rfl) g_worth_of F_worth_of.kp b_worth_of .nil pass0 (pa_cons (pv 0) (pa_cons (pv 2) pa_nil))) pa_nil)))) pa_nil))))
        (pss_cons (ps_if (pt_cmpR op_isN (pv 3) pe_non (nomark _)) (pss_one (ps_ret pe_non)) pss_nil)
        (pss_one (ps_ret (pe_tup (pa_cons pe_str (pa_cons (pe_call G_leading_mirrors hr (by rfl) g_leading_mirrors F_leading_mirrors.kp b_leading_mirrors .nil pass0 (pa_cons (pv 0) (pa_cons (pv 1) (pa_cons (pe_call G_row_times (hr.mono (by decide)) (by rfl) g_row_times F_row_times.kp b_row_times .nil pass0 (pa_cons (pe_fld (pv 0) rfl) (pa_cons (pv 2) (pa_cons (pv 3) pa_nil)))) pa_nil)))) (pa_cons (pv 3) pa_nil)))))))))), ?_⟩
    have hm8 := pw_five hft.2.2.1
    have ⟨htl, hm1, hm, htz⟩ := hft
    have mem2 : ∀ {P : V → Prop}, P x → P y → ∀ v ∈ [x, y], P v := fun h1 h2 v hv => by
      rcases List.mem_cons.mp hv with rfl | hv
      · exact h1
      · rw [List.mem_singleton.mp hv]
        exact h2
    walk_at "go"
    refine w_new (by simp) fun L1 H1 hL1 s1 h1 => ?_
    walk_at "go"
    have ktb : ∀ {v : V}, TB 200 2 H v → rowOf H1 g (m : Int) v = rowOf H g (m : Int) v := fun h => rowOf_tb h (Kd.of s1)
    refine ⟨f, tv, g, L1, [x, y], t, m, 200, rfl, hf.sm s1, TabV.kt ht (Kt.of s1), htl, h1, mem2 (hx.sm s1).1 (hy.sm s1).1, fun hall H2 s2 => ?_, fun hex H2 s2 => ?_⟩
    · have ex := hall x List.mem_cons_self
      have ey := hall y (List.mem_cons_of_mem _ List.mem_cons_self)
      rw [ktb hx.1] at ex
      rw [ktb hy.1] at ey
      obtain ⟨r, hr1, hr2⟩ := hx.2 ex
      obtain ⟨s', hs1, hs2⟩ := hy.2 ey
      have hrs : ∀ u ∈ [r, s'], BR g m u := fun u hu => by
        rcases List.mem_cons.mp hu with rfl | hu
        · exact hr2
        · rw [List.mem_singleton.mp hu]
          exact hs2
      walk_at "go"
      refine w_new (by simp) fun L3 H3 hL3 s3 h3 => ?_
      walk_at "go"
      have s13 := s1.trans (s2.trans s3)
      refine ⟨g, f, tv, L3, [x, y], t, [r, s'], m, F', R, W, rfl, hg, hf.sm s13, TabV.kt ht (Kt.of s13), h3, acc_cat (acc_one (RowV.kt hr1 (Kt.of s13))) (acc_one (RowV.kt hs1 (Kt.of s13))), hft, hrs, fun hw H4 s4 => ?_, fun hw H4 s4 => ?_⟩
      · have hw1 := hw r List.mem_cons_self
        have hw2 := hw s' (List.mem_cons_of_mem _ List.mem_cons_self)
        have s14 := s13.trans s4
        walk_at "go"
        refine w_gnd CF (hf.sm s14) ?_
        walk_at "go"
        refine w_gnd CF (hf.sm s14) ?_
        walk_at "go"
        refine ⟨g, f, tv, x, t, r, m, 2520, 2520, 16128000000000, 322560, 130, F', R, W, rfl, hg, hf.sm s14, TabV.kt ht (Kt.of s14), RowV.kt hr1 (Kt.of s14), htl, hm1, hm, htz, hr2, by decide, by decide, by decide, by decide, by decide, by decide, by decide, pw_lt (pw_mul hm8.1 (pw_mul bMr bMt)) (by decide), by decide, by decide, fun v5 H5 d5 s5 h5 td5 ed5 => ?_⟩
        have s15 := s14.trans s5
        walk_at "go"
        refine ⟨g, f, tv, y, t, s', m, 2520, 2520, 16128000000000, 322560, 130, F', R, W, rfl, hg, hf.sm s15, TabV.kt ht (Kt.of s15), RowV.kt hs1 (Kt.of s15), htl, hm1, hm, htz, hs2, by decide, by decide, by decide, by decide, by decide, by decide, by decide, pw_lt (pw_mul hm8.1 (pw_mul bMr bMt)) (by decide), by decide, by decide, fun v6 H6 d6 s6 h6 td6 ed6 => ?_⟩
        have s16 := s15.trans s6
        have bw : m * (m * (322560 * 16128000000000) * 322560) < 2 ^ 90 := pw_lt (pw_mul hm8.1 (pw_mul (pw_mul hm8.1 (pw_mul bMr bMt)) bMr)) (by decide)
        have tn5 := td5.tn hg (k := 90) (by decide) (by decide) (by decide) bw
        have tn6 := td6.tn hg (k := 90) (by decide) (by decide) (by decide) bw
        have hd0 : d6.1 ≠ 0 := fun z => hw2 (by rw [← ed6]; exact (e_zero hg tn6).mpr z)
        walk_at "go"
        refine ⟨g, v5, v6, d5, d6, 90, 90, rfl, hg, h5.kt (Kt.of s6), h6, tn5, tn6, by decide, by decide, by decide, by decide, hd0, fun p7 H7 hp7 s7 h7 => ?_⟩
        have tn7 := tn_ovr hg tn5 tn6 (by decide) hd0
        have e7 : W.e (ovrF g d5 d6) * W.e d6 = W.e d5 := W.over hg tn5 tn6 hd0
        have s17 := s16.trans s7
        walk_at "go"
        refine ⟨g, .ref p7, _, 180, rfl, (grb hg).2, tn7, by decide, ⟨p7, rfl, h7⟩, fun H8 v8 s8 h8 => ?_⟩
        have s18 := s17.trans s8
        walk_at "go"
        cases hroot : rootV g (ovrF g d5 d6) with
        | none =>
          rw [hroot] at h8
          have e8 : v8 = .non := h8
          subst e8
          refine ⟨rfl, ?_⟩
          rw [decide_eq_true (rfl : V.non = V.non)]
          walk_at "go"
          exact q3 r s' hr1 hs1 hr2 hs2 hw1 hw2 _ _ s18
        | some c =>
          rw [hroot] at h8
          obtain ⟨p8, rfl, hp8⟩ : NumV H8 v8 c := h8
          obtain ⟨tc, ec⟩ := root_tn hg W (by decide) tn7 hroot
          have hcq : CQ W t m r s' c := ⟨tc, by rw [ec, ← ed6, e7, ed5]⟩
          obtain ⟨b1, b2⟩ := cq_small hg hft hr2 hs2 hw1 hw2 hcq
          have rz1 := rz_times hg hs2 (TZ.of hg tc (by decide))
          have rz2 := RZ.wide hr2 c.2
          have hp := tc.pos
          have hD0 : 2520 * c.2 ≠ 0 := Int.mul_ne_zero (by decide) (by omega)
          have bD : (2520 * c.2).natAbs ≤ 2 ^ 99 := pw_abs b2520 b2
          have rz1' := rz1.mono (pw_mul bMr b1)
          have rz2' := rz2.mono (pw_mul bMr b2)
          refine ⟨rfl, ?_⟩
          rw [decide_eq_false (show ¬ V.ref p8 = V.non from fun z => nomatch z)]
          walk_at "go"
          refine w_gnd CF (hf.sm s18) ?_
          walk_at "go"
          refine ⟨g, y, .ref p8, s', c, 20, 180, rfl, hg, RowV.kt hs1 (Kt.of s18), ⟨p8, rfl, hp8⟩, (BR.tn hg hs2).2, tc, by decide, by decide, by decide, by decide, by rw [hs2.1]; omega, fun v9 H9 s9 h9 => ?_⟩
          have s19 := s18.trans s9
          walk_at "go"
          refine ⟨g, f, tv, x, v9, t, r, _, m, 2520, 2520 * c.2, 16128000000000, 2 ^ (19 + 87), 200, F', R, W, rfl, hg, hf.sm s19, TabV.kt ht (Kt.of s19), RowV.kt hr1 (Kt.of s19), h9, htl, hm1, hm, htz, rz2', rz1', by decide, hD0, by decide, pw_lt bD (by decide), pw_lt (pw_abs bD b2520) (by decide), by decide, by decide, pw_lt (pw_mul hm8.1 (pw_mul (show 2 ^ (19 + 87) + 2 ^ (19 + 87) ≤ 2 ^ 107 by decide) bMt)) (by decide), by decide, by decide, fun H10 L xs us s10 hL h10 ha hled => ?_⟩
          walk_at "go"
          refine w_new (by simp) fun p11 H11 hp11 s11 h11 => ?_
          exact q3 r s' hr1 hs1 hr2 hs2 hw1 hw2 _ _ (s19.trans (s10.trans s11))
      · refine q2 r s' hr1 hs1 hr2 hs2 ?_ _ (s13.trans s4)
        obtain ⟨u, hu, hz⟩ := hw
        rcases List.mem_cons.mp hu with rfl | hu
        · exact .inl hz
        · rw [List.mem_singleton.mp hu] at hz
          exact .inr hz
    · refine q1 ?_ _ (s1.trans s2)
      obtain ⟨v, hv, e⟩ := hex
      rcases List.mem_cons.mp hv with rfl | hv
      · rw [ktb hx.1] at e
        exact .inl e
      · rw [List.mem_singleton.mp hv, ktb hy.1] at e
        exact .inr e
theorem ok__law_form {f : Addr} {fd : FuncData} (F : FnP K "_law_form" s__law_form f fd)
    {f__law_take : Addr} {fd__law_take : FuncData} (F__law_take : FnP K "_law_take" s__law_take f__law_take fd__law_take) (b__law_take : Binds K fd__law_take ["_law_bag_here", "_law_many"] []) (g__law_take : mg "_law_take" = some (.ref f__law_take)) (G__law_take : FnOk P w K mg base CX0 1 f__law_take fd__law_take ["_law_bag_here", "_law_many"] (sp__law_take K))
    {f__law_minus : Addr} {fd__law_minus : FuncData} (F__law_minus : FnP K "_law_minus" s__law_minus f__law_minus fd__law_minus) (b__law_minus : Binds K fd__law_minus ["_law_g", "_law_x"] []) (g__law_minus : mg "_law_minus" = some (.ref f__law_minus)) (G__law_minus : FnOk P w K mg base CX0 3 f__law_minus fd__law_minus ["_law_g", "_law_x"] (sp__law_minus K))
    {f__law_changed : Addr} {fd__law_changed : FuncData} (F__law_changed : FnP K "_law_changed" s__law_changed f__law_changed fd__law_changed) (b__law_changed : Binds K fd__law_changed ["_law_bag_here", "_law_g", "_law_table"] []) (g__law_changed : mg "_law_changed" = some (.ref f__law_changed)) (G__law_changed : FnOk P w K mg base CX0 7 f__law_changed fd__law_changed ["_law_bag_here", "_law_g", "_law_table"] (sp__law_changed K))
    {f__law_other_than_nought : Addr} {fd__law_other_than_nought : FuncData} (F__law_other_than_nought : FnP K "_law_other_than_nought" s__law_other_than_nought f__law_other_than_nought fd__law_other_than_nought) (b__law_other_than_nought : Binds K fd__law_other_than_nought ["_law_bag_here", "_law_g"] []) (g__law_other_than_nought : mg "_law_other_than_nought" = some (.ref f__law_other_than_nought)) (G__law_other_than_nought : FnOk P w K mg base CX0 4 f__law_other_than_nought fd__law_other_than_nought ["_law_bag_here", "_law_g"] (sp__law_other_than_nought K)) (m_tuple : mg "tuple" = none) (m_range : mg "range" = none) :
    FnOk P w K mg base CX0 8 f fd ["_law_bag_here", "_law_g", "_law_many"] (sp__law_form K) := by
  refine F.ok sc__law_form (fun vs H Q E h => ?_) (fun cdv A outer s H vs Q E hr h => ?_)
  · obtain ⟨b, g, m, F', R, W, rfl, hgr, hb, hm1, hm, q⟩ := h
    rfl
  · obtain ⟨b, g, m, F', R, W, rfl, hgr, hb, hm1, hm, q⟩ := h
    refine ⟨_, PSs.nox (pss_cons (ps_set (i := 3) sc__law_form.nd rfl (.inl rfl) (pe_call G__law_take (hr.mono (by decide)) (by rfl) g__law_take F__law_take.kp b__law_take .nil pass0 (pa_cons (pv 0) (pa_cons pe_int pa_nil))))
        (pss_cons (ps_set (i := 4) sc__law_form.nd rfl (.inr rfl) (pe_call G__law_minus (hr.mono (by decide)) (by rfl) g__law_minus F__law_minus.kp b__law_minus .nil pass0 (pa_cons (pv 1) (pa_cons (pe_tup (pa_cons pe_int (pa_cons pe_int pa_nil))) pa_nil))))
        (pss_cons (ps_set (i := 5) sc__law_form.nd rfl (.inr rfl) (pe_op op_rep (pe_lst (pa_cons (pe_tup (pa_cons pe_int (pa_cons pe_int pa_nil))) pa_nil)) (pv 2)))
        (pss_cons (ps_if (pt_cmpR op_eq (pv 3) pe_int (nomark _)) (pss_one (ps_set (i := 5) sc__law_form.nd rfl (.inr rfl) (pe_lc (own := [("_law_k", 7)]) (g := gName 7) (tt := tYes) (by rfl) sc__law_form.nd (pi_range1 (by rfl) m_range (pa_cons (pv 2) pa_nil)) (blkOk_by (own := [("_law_k", 7)]) (N := ["_law_bag_here", "_law_g", "_law_many", "_law_way", "_law_lack", "_law_row_here", "_law_table", "_law_k", "_law_i", "_law_j"]) (sc := defScope s__law_form) (by decide +kernel)) (fun _ _ _ _ _ => (pg_name (i := 7) sc__law_form.nd rfl (.inl rfl))) (fun _ _ _ _ _ => pts_nil) (fun _ _ _ _ _ => (pe_ix (r := rIxL K) ix_list (pe_lst (pa_cons (pe_tup (pa_cons pe_int (pa_cons pe_int pa_nil))) (pa_cons (pv 4) pa_nil))) (pe_op op_modN (pv 7) pe_int) (fun _ _ => rfl)))))) (pss_one (ps_if (pt_cmpR op_gt (pv 3) pe_int (nomark _)) (pss_one (ps_set (i := 5) sc__law_form.nd rfl (.inr rfl) (pe_lc (own := [("_law_k", 7)]) (g := gName 7) (tt := tYes) (by rfl) sc__law_form.nd (pi_range1 (by rfl) m_range (pa_cons (pv 2) pa_nil)) (blkOk_by (own := [("_law_k", 7)]) (N := ["_law_bag_here", "_law_g", "_law_many", "_law_way", "_law_lack", "_law_row_here", "_law_table", "_law_k", "_law_i", "_law_j"]) (sc := defScope s__law_form) (by decide +kernel)) (fun _ _ _ _ _ => (pg_name (i := 7) sc__law_form.nd rfl (.inl rfl))) (fun _ _ _ _ _ => pts_nil) (fun _ _ _ _ _ => (pe_call G__law_other_than_nought (hr.mono (by decide)) (by rfl) g__law_other_than_nought F__law_other_than_nought.kp b__law_other_than_nought .nil pass0 (pa_cons (pv 0) (pa_cons (pv 1) pa_nil))))))) pss_nil)))
        (pss_cons (ps_set (i := 6) sc__law_form.nd rfl (.inl rfl) (pe_callTy call_tuple_of (by rfl) m_tuple (by decide +kernel) (pa_cons (pe_lc (own := [("_law_i", 8)]) (g := gName 8) (tt := tYes) (by rfl) sc__law_form.nd (pi_range1 (by rfl) m_range (pa_cons (pv 2) pa_nil)) (blkOk_by (own := [("_law_i", 8)]) (N := ["_law_bag_here", "_law_g", "_law_many", "_law_way", "_law_lack", "_law_row_here", "_law_table", "_law_k", "_law_i", "_law_j"]) (sc := defScope s__law_form) (by decide +kernel)) (fun _ _ _ _ _ => (pg_name (i := 8) sc__law_form.nd rfl (.inr rfl))) (fun _ _ _ _ _ => pts_nil) (fun _ _ _ _ _ => (pe_callTy (r := rTupOf K) call_tupOf (by rfl) m_tuple (by decide +kernel) (pa_cons (pe_lc (own := [("_law_j", 9)]) (g := gName 9) (tt := tYes) (wi := iRng1 (tCons (tVar 2) tNil)) (by rfl) sc__law_form.nd (pi_range1 (by rfl) m_range (pa_cons (pv 2) pa_nil)) (blkOk_by (own := [("_law_j", 9)]) (N := ["_law_bag_here", "_law_g", "_law_many", "_law_way", "_law_lack", "_law_row_here", "_law_table", "_law_k", "_law_i", "_law_j"]) (sc := ({ kind := PySem.ScopeKind.function, names := [ (PySem.Str.ofString ".0", PySem.NameKind.local), (PySem.Str.ofString "_law_i", PySem.NameKind.cell), (PySem.Str.ofString "tuple", PySem.NameKind.globalImplicit), (PySem.Str.ofString "range", PySem.NameKind.globalImplicit), (PySem.Str.ofString "_law_many", PySem.NameKind.cell), (PySem.Str.ofString "_law_row_here", PySem.NameKind.cell)], isGenerator := false, isCoroutine := false, more := [] } : Scope)) (by decide +kernel)) (fun _ _ _ _ _ => (pg_name (i := 9) sc__law_form.nd rfl (.inl rfl))) (fun _ _ _ _ _ => pts_nil) (fun _ _ _ _ _ => (pe_ifExp (pt_cmpR op_eq (pv 8) (pv 9) (nomark _)) (pe_ix (r := rIxL K) ix_list (pv 5) (pv 8) (fun _ _ => rfl)) (pe_tup (pa_cons pe_int (pa_cons pe_int pa_nil)))))) pa_nil)))) pa_nil)))
        (pss_one (ps_ret (pe_ifExp (pt_cmpR op_eq (pv 3) pe_int (nomark _)) (pv 6) (pe_call G__law_changed hr (by rfl) g__law_changed F__law_changed.kp b__law_changed .nil pass0 (pa_cons (pv 0) (pa_cons (pv 1) (pa_cons (pv 6) pa_nil)))))))))))), ?_⟩
    have hg := hgr.two
    have ⟨hg0, hg13⟩ := hgr.bd
    walk_at "go"
    refine ⟨b, 4, rfl, by decide, by decide, hb, fun Ha wy ha0 ha1 ma hba => ?_⟩
    walk_at "go"
    refine w_new (by simp) fun o1 Hb ho1 sb hob => ?_
    refine ⟨g, .ref o1, (1, 1), rfl, hg0, hg13, ⟨o1, rfl, hob⟩, by show (1 : Int).natAbs < 2 ^ 8000; exact Nat.lt_of_lt_of_le (show 1 < 2 ^ 1 by decide) (Nat.pow_le_pow_right (by decide) (by decide)), by decide, fun p2 Hc hp2 sc hpc => ?_⟩
    walk_at "go"
    refine w_new (by simp) fun o3 Hd ho3 sd hod => ?_
    walk_at "go"
    refine w_new (by simp) fun o4 He ho4 se hoe => ?_
    walk_at "go"
    refine w_rep hoe (by omega) (by omega) (by simp) ?_
    refine w_newO fun L H1 hLn s5 hL => ?_
    rw [Int.toNat_natCast, rep_one] at hL
    have sa5 := sb.trans (sc.trans (sd.trans (se.trans s5)))
    have mvX := ma.trans (Mv.same sa5)
    have hbX := hba.same sa5
    have tlack : TN g 7 (minusF g (1, 1)) := (tn_minus hg (tn_one hg) (Nat.le_refl 4)).mono (by decide)
    have t1 : TN g 7 (1, 1) := (tn_one hg).mono (by decide)
    have h3' : H1 o3 = some (.tup [.int 1, .int 1]) := s5 _ _ (se _ _ hod)
    have h2' : H1 p2 = some (.tup [.int (minusF g (1, 1)).1, .int (minusF g (1, 1)).2]) := s5 _ _ (se _ _ (sd _ _ hpc))
    walk_at "go"
    refine w_ite (fun hc1 => ?_) (fun hc1 => ?_)
    · walk_at "go"
      refine ⟨by omega, by omega, fun D0 hD0 => ?_⟩
      refine lc_range (fun i H' => Same H1 H' ∧ ∃ (xs : List V) (d : List (Int × Int)), H' D0 = some (.lst xs) ∧ d.length = i ∧ Acc NumV H' xs d i ∧ ∀ a ∈ d, TZ g 2520 161280 a ∧ TN g 7 a ∧ a.1 ≠ 0) ⟨Same.updD (Same.refl H1) hD0, [], [], upd_same, rfl, Acc.nil, fun a ha => (by cases ha)⟩ (fun i H' hi hP => ?_) (fun H' hP => ?_)
      · obtain ⟨sm, xs, d, hD', hdl, hacc, hd⟩ := hP
        walk_at "go"
        refine ⟨rfl, ?_⟩
        walk_at "go"
        refine w_new (by simp) fun o6 H6 ho6 s6 h6 => ?_
        walk_at "go"
        refine w_new (by simp) fun o7 H7 ho7 s7 h7 => ?_
        walk_at "go"
        refine w_I (by decide) ?_
        have s67 := s6.trans s7
        obtain ⟨y, a, ey, hy, hya⟩ : ∃ y a, atI [V.ref o6, V.ref p2] ((0 + (i : Int)).fmod 2) = some y ∧ NumV H7 y a ∧ TZ g 2520 161280 a ∧ TN g 7 a ∧ a.1 ≠ 0 := by
          have hf : (0 + (i : Int)).fmod 2 = 0 ∨ (0 + (i : Int)).fmod 2 = 1 := by
            rw [fmod_pos _ (by decide)]
            omega
          rcases hf with e | e
          · rw [e]
            exact ⟨_, (1, 1), rfl, ⟨o6, rfl, s7 _ _ h6⟩, tz_oneW hg, t1, by decide⟩
          · rw [e]
            exact ⟨_, minusF g (1, 1), rfl, ⟨p2, rfl, s67 _ _ (sm _ _ h2')⟩, tz_lackW hg, tlack, lack_ne hg⟩
        refine w_ixL h7 ey ?_
        have h7D := s67 _ _ hD'
        have kt : Kt H' (upd H7 D0 (.lst (xs ++ [y]))) := (Kt.of s67).trans (Kt.updL h7D)
        refine ⟨xs, h7D, small1000 (by rw [hacc.1]; omega), Same.updD (sm.trans s67) hD0, _, d ++ [a], upd_same, by rw [List.length_append, hdl]; rfl, acc_app (hacc.mono fun x a h => NumV.kt h kt) hdl (hy.kt (Kt.updL h7D)), fun c hc => ?_⟩
        rcases List.mem_append.mp hc with h | h
        · exact hd c h
        · rw [List.mem_singleton.mp h]
          exact hya
      · obtain ⟨sm, xs, d, hL, hdl, hacc, hd⟩ := hP
        rw [Int.toNat_natCast] at hdl hacc
        have mvX := mvX.trans (Mv.same sm)
        have hbX := hbX.same sm
        have L := D0
        clear hD0
        revert sm hL hacc mvX hbX
        generalize H' = H1
        intro sm hL hacc mvX hbX
        have hxl : xs.length = m := hacc.1
        have hfrm := diag_frm hg W hdl hd
        walk_at "go"
        refine ⟨by omega, by omega, fun D hD => ?_⟩
        refine lc_range (fun i H' => Same H1 H' ∧ ∃ ys, H' D = some (.lst ys) ∧ Acc RowV H' ys (diagF d) i) ⟨Same.updD (Same.refl H1) hD, [], upd_same, Acc.nil⟩ (fun i H' hi hP => ?_) (fun H' hP => ?_)
        · obtain ⟨sm, ys, hD', hacc2⟩ := hP
          have hi' : i < m := by omega
          have hL' := sm _ _ hL
          have gx : xs[i]? = some (xs[i]'(by omega)) := List.getElem?_eq_getElem _
          have gd : d[i]? = some (d[i]'(by omega)) := List.getElem?_eq_getElem _
          have gdD : d.getD i (0, 1) = d[i]'(by omega) := by rw [List.getD_eq_getElem?_getD, gd]; rfl
          have hn := hacc.2 i _ _ gx gd
          walk_at "go"
          refine ⟨rfl, ?_⟩
          walk_at "go"
          refine ⟨by omega, by omega, fun D2 hD2 => ?_⟩
          refine lc_range (fun j H'' => Same H' H'' ∧ ∃ zs, H'' D2 = some (.lst zs) ∧ Acc NumV H'' zs ((List.range m).map fun j => if i = j then d.getD i (0, 1) else (0, 1)) j) ⟨Same.updD (Same.refl H') hD2, [], upd_same, Acc.nil⟩ (fun j H'' hj hP => ?_) (fun H'' hP => ?_)
          · obtain ⟨sm2, zs, hD2', hacc3⟩ := hP
            have hj' : j < m := by omega
            walk_at "go"
            refine ⟨rfl, ?_⟩
            walk_at "go"
            refine w_ite (fun hc => ?_) (fun hc => ?_)
            · walk_at "go"
              refine w_ixL (sm2 _ _ hL') (by rw [show (0 : Int) + (i : Int) = (i : Int) by omega]; exact atI_nat gx) ?_
              have kt : Kt H'' (upd H'' D2 (.lst (zs ++ [xs[i]'(by omega)]))) := Kt.updL hD2'
              refine ⟨zs, hD2', small1000 (by rw [hacc3.1]; omega), Same.updD sm2 hD2, _, upd_same, ?_⟩
              refine (hacc3.mono fun x a h => NumV.kt h kt).snoc (a := if i = j then d.getD i (0, 1) else (0, 1)) (by rw [List.getElem?_map, List.getElem?_range hj']; rfl) ?_
              rw [if_pos (show i = j by omega), gdD]
              exact (hn.kt (Kt.of (sm.trans sm2))).kt kt
            · walk_at "go"
              refine w_new (by simp) fun p3 H3 hp3 s3 h3 => ?_
              have h3D := s3 _ _ hD2'
              have kt : Kt H'' (upd H3 D2 (.lst (zs ++ [V.ref p3]))) := (Kt.of s3).trans (Kt.updL h3D)
              refine ⟨zs, h3D, small1000 (by rw [hacc3.1]; omega), Same.updD (sm2.trans s3) hD2, _, upd_same, ?_⟩
              refine (hacc3.mono fun x a h => NumV.kt h kt).snoc (a := if i = j then d.getD i (0, 1) else (0, 1)) (by rw [List.getElem?_map, List.getElem?_range hj']; rfl) ?_
              rw [if_neg (show ¬ i = j by omega)]
              exact ⟨p3, rfl, Kt.updL h3D _ _ h3⟩
          · obtain ⟨sm2, zs, hD2', hacc3⟩ := hP
            walk_at "go"
            refine ⟨_, _, rfl, .inl ⟨SqL.of hD2', fun l hl => ?_⟩⟩
            have s4 := same_upd (o := HO.tup zs) hl
            have h4D := s4 _ _ (sm2 _ _ hD')
            have kt : Kt H' (upd (upd H'' l (.tup zs)) D (.lst (ys ++ [V.ref l]))) := (Kt.of (sm2.trans s4)).trans (Kt.updL h4D)
            refine ⟨ys, h4D, small1000 (by rw [hacc2.1]; omega), Same.updD (sm.trans (sm2.trans s4)) hD, _, upd_same, ?_⟩
            refine (hacc2.mono fun x a h => RowV.kt h kt).snoc (a := (List.range m).map fun j => if i = j then d.getD i (0, 1) else (0, 1)) (by unfold diagF; rw [hdl, List.getElem?_map, List.getElem?_range hi']; rfl) ?_
            refine RowV.kt ((hacc3.mono fun x a h => NumV.kt h (Kt.of s4)).sq (p := l) ?_ upd_same) (Kt.updL h4D)
            rw [List.length_map, List.length_range]
            omega
        · obtain ⟨sm, ys, hD', hacc2⟩ := hP
          walk_at "go"
          refine ⟨_, _, rfl, .inl ⟨SqL.of hD', fun l hl => ?_⟩⟩
          have s4 := same_upd (o := HO.tup ys) hl
          have h4 : (upd H' l (.tup ys)) l = some (.tup ys) := upd_same
          generalize upd H' l (.tup ys) = H4 at s4 h4 ⊢
          have hTv : TabV H4 (.ref l) (diagF d) := (hacc2.mono fun x a h => RowV.kt h (Kt.of s4)).sq (by unfold diagF; rw [List.length_map, List.length_range, hdl]; omega) h4
          have s14 := sm.trans s4
          walk_at "go"
          refine w_ite (fun hc => ?_) (fun hc => ?_)
          · walk_at "go"
            exact q _ _ _ hTv (frm_mono hfrm (by decide)) (mvX.trans (Mv.same s14)) (hbX.same s14)
          · walk_at "go"
            refine ⟨b, g, .ref l, diagF d, m, F', R, W, rfl, hgr, hbX.same s14, hTv, hfrm, hm1, hm, fun H5 v5 T5 h5 hf5 m5 hb5 => ?_⟩
            exact q _ _ T5 h5 hf5 (mvX.trans ((Mv.same s14).trans m5)) hb5
    · walk_at "go"
      refine w_ite (fun hc2 => ?_) (fun hc2 => ?_)
      · walk_at "go"
        refine ⟨by omega, by omega, fun D0 hD0 => ?_⟩
        have nD := bag_ne hbX hD0
        have hD00 : H D0 = none := by
          cases e : H D0 with
          | none => rfl
          | some o => exact absurd (mvX _ _ nD e) (by rw [hD0]; exact fun z => (by cases z))
        refine lc_range (fun i H' => Mv b H H' ∧ Bag H' b ∧ ∃ (xs : List V) (d : List (Int × Int)), H' D0 = some (.lst xs) ∧ d.length = i ∧ Acc NumV H' xs d i ∧ ∀ a ∈ d, TZ g 2520 161280 a ∧ TN g 7 a ∧ a.1 ≠ 0) ⟨mvX.updD hD00, hbX.upd nD, [], [], upd_same, rfl, Acc.nil, fun a ha => (by cases ha)⟩ (fun i H' hi hP => ?_) (fun H' hP => ?_)
        · obtain ⟨mv, hbi, xs, d, hD', hdl, hacc, hd⟩ := hP
          walk_at "go"
          refine ⟨rfl, ?_⟩
          walk_at "go"
          refine ⟨b, g, rfl, hgr, hbi, fun H6 y a hy hng hta hne m6 hb6 => ?_⟩
          have h6D := m6 _ _ nD hD'
          have kt : Kt H' (upd H6 D0 (.lst (xs ++ [y]))) := (m6.kt hbi).trans (Kt.updL h6D)
          refine ⟨xs, h6D, small1000 (by rw [hacc.1]; omega), (mv.trans m6).updD hD00, hb6.upd nD, _, d ++ [a], upd_same, by rw [List.length_append, hdl]; rfl, acc_app (hacc.mono fun x a h => NumV.kt h kt) hdl (hy.kt (Kt.updL h6D)), fun c hc => ?_⟩
          rcases List.mem_append.mp hc with h | h
          · exact hd c h
          · rw [List.mem_singleton.mp h]
            exact ⟨ng_tz hg hng hta, hta, hne⟩
        · obtain ⟨mvX, hbX, xs, d, hL, hdl, hacc, hd⟩ := hP
          rw [Int.toNat_natCast] at hdl hacc
          clear hD0
          revert hL hacc mvX hbX
          generalize H' = H1
          intro mvX hbX hL hacc
          have hxl : xs.length = m := hacc.1
          have hfrm := diag_frm hg W hdl hd
          walk_at "go"
          refine ⟨by omega, by omega, fun D hD => ?_⟩
          refine lc_range (fun i H' => Same H1 H' ∧ ∃ ys, H' D = some (.lst ys) ∧ Acc RowV H' ys (diagF d) i) ⟨Same.updD (Same.refl H1) hD, [], upd_same, Acc.nil⟩ (fun i H' hi hP => ?_) (fun H' hP => ?_)
          · obtain ⟨sm, ys, hD', hacc2⟩ := hP
            have hi' : i < m := by omega
            have hL' := sm _ _ hL
            have gx : xs[i]? = some (xs[i]'(by omega)) := List.getElem?_eq_getElem _
            have gd : d[i]? = some (d[i]'(by omega)) := List.getElem?_eq_getElem _
            have gdD : d.getD i (0, 1) = d[i]'(by omega) := by rw [List.getD_eq_getElem?_getD, gd]; rfl
            have hn := hacc.2 i _ _ gx gd
            walk_at "go"
            refine ⟨rfl, ?_⟩
            walk_at "go"
            refine ⟨by omega, by omega, fun D2 hD2 => ?_⟩
            refine lc_range (fun j H'' => Same H' H'' ∧ ∃ zs, H'' D2 = some (.lst zs) ∧ Acc NumV H'' zs ((List.range m).map fun j => if i = j then d.getD i (0, 1) else (0, 1)) j) ⟨Same.updD (Same.refl H') hD2, [], upd_same, Acc.nil⟩ (fun j H'' hj hP => ?_) (fun H'' hP => ?_)
            · obtain ⟨sm2, zs, hD2', hacc3⟩ := hP
              have hj' : j < m := by omega
              walk_at "go"
              refine ⟨rfl, ?_⟩
              walk_at "go"
              refine w_ite (fun hc => ?_) (fun hc => ?_)
              · walk_at "go"
                refine w_ixL (sm2 _ _ hL') (by rw [show (0 : Int) + (i : Int) = (i : Int) by omega]; exact atI_nat gx) ?_
                have kt : Kt H'' (upd H'' D2 (.lst (zs ++ [xs[i]'(by omega)]))) := Kt.updL hD2'
                refine ⟨zs, hD2', small1000 (by rw [hacc3.1]; omega), Same.updD sm2 hD2, _, upd_same, ?_⟩
                refine (hacc3.mono fun x a h => NumV.kt h kt).snoc (a := if i = j then d.getD i (0, 1) else (0, 1)) (by rw [List.getElem?_map, List.getElem?_range hj']; rfl) ?_
                rw [if_pos (show i = j by omega), gdD]
                exact (hn.kt (Kt.of (sm.trans sm2))).kt kt
              · walk_at "go"
                refine w_new (by simp) fun p3 H3 hp3 s3 h3 => ?_
                have h3D := s3 _ _ hD2'
                have kt : Kt H'' (upd H3 D2 (.lst (zs ++ [V.ref p3]))) := (Kt.of s3).trans (Kt.updL h3D)
                refine ⟨zs, h3D, small1000 (by rw [hacc3.1]; omega), Same.updD (sm2.trans s3) hD2, _, upd_same, ?_⟩
                refine (hacc3.mono fun x a h => NumV.kt h kt).snoc (a := if i = j then d.getD i (0, 1) else (0, 1)) (by rw [List.getElem?_map, List.getElem?_range hj']; rfl) ?_
                rw [if_neg (show ¬ i = j by omega)]
                exact ⟨p3, rfl, Kt.updL h3D _ _ h3⟩
            · obtain ⟨sm2, zs, hD2', hacc3⟩ := hP
              walk_at "go"
              refine ⟨_, _, rfl, .inl ⟨SqL.of hD2', fun l hl => ?_⟩⟩
              have s4 := same_upd (o := HO.tup zs) hl
              have h4D := s4 _ _ (sm2 _ _ hD')
              have kt : Kt H' (upd (upd H'' l (.tup zs)) D (.lst (ys ++ [V.ref l]))) := (Kt.of (sm2.trans s4)).trans (Kt.updL h4D)
              refine ⟨ys, h4D, small1000 (by rw [hacc2.1]; omega), Same.updD (sm.trans (sm2.trans s4)) hD, _, upd_same, ?_⟩
              refine (hacc2.mono fun x a h => RowV.kt h kt).snoc (a := (List.range m).map fun j => if i = j then d.getD i (0, 1) else (0, 1)) (by unfold diagF; rw [hdl, List.getElem?_map, List.getElem?_range hi']; rfl) ?_
              refine RowV.kt ((hacc3.mono fun x a h => NumV.kt h (Kt.of s4)).sq (p := l) ?_ upd_same) (Kt.updL h4D)
              rw [List.length_map, List.length_range]
              omega
          · obtain ⟨sm, ys, hD', hacc2⟩ := hP
            walk_at "go"
            refine ⟨_, _, rfl, .inl ⟨SqL.of hD', fun l hl => ?_⟩⟩
            have s4 := same_upd (o := HO.tup ys) hl
            have h4 : (upd H' l (.tup ys)) l = some (.tup ys) := upd_same
            generalize upd H' l (.tup ys) = H4 at s4 h4 ⊢
            have hTv : TabV H4 (.ref l) (diagF d) := (hacc2.mono fun x a h => RowV.kt h (Kt.of s4)).sq (by unfold diagF; rw [List.length_map, List.length_range, hdl]; omega) h4
            have s14 := sm.trans s4
            walk_at "go"
            refine w_ite (fun hc => ?_) (fun hc => ?_)
            · walk_at "go"
              exact q _ _ _ hTv (frm_mono hfrm (by decide)) (mvX.trans (Mv.same s14)) (hbX.same s14)
            · walk_at "go"
              refine ⟨b, g, .ref l, diagF d, m, F', R, W, rfl, hgr, hbX.same s14, hTv, hfrm, hm1, hm, fun H5 v5 T5 h5 hf5 m5 hb5 => ?_⟩
              exact q _ _ T5 h5 hf5 (mvX.trans ((Mv.same s14).trans m5)) hb5
      · have hd : ∀ a ∈ List.replicate m ((1 : Int), (1 : Int)), TZ g 2520 161280 a ∧ TN g 7 a ∧ a.1 ≠ 0 := fun a ha => by
          rw [List.eq_of_mem_replicate ha]
          exact ⟨tz_oneW hg, t1, by decide⟩
        have hdl : (List.replicate m ((1 : Int), (1 : Int))).length = m := List.length_replicate
        have hacc : Acc NumV H1 (List.replicate m (V.ref o3)) (List.replicate m ((1 : Int), (1 : Int))) m := ⟨List.length_replicate, fun j x a e1 e2 => by
          rw [List.eq_of_mem_replicate (List.mem_of_getElem? e1), List.eq_of_mem_replicate (List.mem_of_getElem? e2)]
          exact ⟨o3, rfl, h3'⟩⟩
        generalize List.replicate m ((1 : Int), (1 : Int)) = d at hd hdl hacc
        generalize List.replicate m (V.ref o3) = xs at hL hacc
        have hxl : xs.length = m := hacc.1
        have hfrm := diag_frm hg W hdl hd
        walk_at "go"
        refine ⟨by omega, by omega, fun D hD => ?_⟩
        refine lc_range (fun i H' => Same H1 H' ∧ ∃ ys, H' D = some (.lst ys) ∧ Acc RowV H' ys (diagF d) i) ⟨Same.updD (Same.refl H1) hD, [], upd_same, Acc.nil⟩ (fun i H' hi hP => ?_) (fun H' hP => ?_)
        · obtain ⟨sm, ys, hD', hacc2⟩ := hP
          have hi' : i < m := by omega
          have hL' := sm _ _ hL
          have gx : xs[i]? = some (xs[i]'(by omega)) := List.getElem?_eq_getElem _
          have gd : d[i]? = some (d[i]'(by omega)) := List.getElem?_eq_getElem _
          have gdD : d.getD i (0, 1) = d[i]'(by omega) := by rw [List.getD_eq_getElem?_getD, gd]; rfl
          have hn := hacc.2 i _ _ gx gd
          walk_at "go"
          refine ⟨rfl, ?_⟩
          walk_at "go"
          refine ⟨by omega, by omega, fun D2 hD2 => ?_⟩
          refine lc_range (fun j H'' => Same H' H'' ∧ ∃ zs, H'' D2 = some (.lst zs) ∧ Acc NumV H'' zs ((List.range m).map fun j => if i = j then d.getD i (0, 1) else (0, 1)) j) ⟨Same.updD (Same.refl H') hD2, [], upd_same, Acc.nil⟩ (fun j H'' hj hP => ?_) (fun H'' hP => ?_)
          · obtain ⟨sm2, zs, hD2', hacc3⟩ := hP
            have hj' : j < m := by omega
            walk_at "go"
            refine ⟨rfl, ?_⟩
            walk_at "go"
            refine w_ite (fun hc => ?_) (fun hc => ?_)
            · walk_at "go"
              refine w_ixL (sm2 _ _ hL') (by rw [show (0 : Int) + (i : Int) = (i : Int) by omega]; exact atI_nat gx) ?_
              have kt : Kt H'' (upd H'' D2 (.lst (zs ++ [xs[i]'(by omega)]))) := Kt.updL hD2'
              refine ⟨zs, hD2', small1000 (by rw [hacc3.1]; omega), Same.updD sm2 hD2, _, upd_same, ?_⟩
              refine (hacc3.mono fun x a h => NumV.kt h kt).snoc (a := if i = j then d.getD i (0, 1) else (0, 1)) (by rw [List.getElem?_map, List.getElem?_range hj']; rfl) ?_
              rw [if_pos (show i = j by omega), gdD]
              exact (hn.kt (Kt.of (sm.trans sm2))).kt kt
            · walk_at "go"
              refine w_new (by simp) fun p3 H3 hp3 s3 h3 => ?_
              have h3D := s3 _ _ hD2'
              have kt : Kt H'' (upd H3 D2 (.lst (zs ++ [V.ref p3]))) := (Kt.of s3).trans (Kt.updL h3D)
              refine ⟨zs, h3D, small1000 (by rw [hacc3.1]; omega), Same.updD (sm2.trans s3) hD2, _, upd_same, ?_⟩
              refine (hacc3.mono fun x a h => NumV.kt h kt).snoc (a := if i = j then d.getD i (0, 1) else (0, 1)) (by rw [List.getElem?_map, List.getElem?_range hj']; rfl) ?_
              rw [if_neg (show ¬ i = j by omega)]
              exact ⟨p3, rfl, Kt.updL h3D _ _ h3⟩
          · obtain ⟨sm2, zs, hD2', hacc3⟩ := hP
            walk_at "go"
            refine ⟨_, _, rfl, .inl ⟨SqL.of hD2', fun l hl => ?_⟩⟩
            have s4 := same_upd (o := HO.tup zs) hl
            have h4D := s4 _ _ (sm2 _ _ hD')
            have kt : Kt H' (upd (upd H'' l (.tup zs)) D (.lst (ys ++ [V.ref l]))) := (Kt.of (sm2.trans s4)).trans (Kt.updL h4D)
            refine ⟨ys, h4D, small1000 (by rw [hacc2.1]; omega), Same.updD (sm.trans (sm2.trans s4)) hD, _, upd_same, ?_⟩
            refine (hacc2.mono fun x a h => RowV.kt h kt).snoc (a := (List.range m).map fun j => if i = j then d.getD i (0, 1) else (0, 1)) (by unfold diagF; rw [hdl, List.getElem?_map, List.getElem?_range hi']; rfl) ?_
            refine RowV.kt ((hacc3.mono fun x a h => NumV.kt h (Kt.of s4)).sq (p := l) ?_ upd_same) (Kt.updL h4D)
            rw [List.length_map, List.length_range]
            omega
        · obtain ⟨sm, ys, hD', hacc2⟩ := hP
          walk_at "go"
          refine ⟨_, _, rfl, .inl ⟨SqL.of hD', fun l hl => ?_⟩⟩
          have s4 := same_upd (o := HO.tup ys) hl
          have h4 : (upd H' l (.tup ys)) l = some (.tup ys) := upd_same
          generalize upd H' l (.tup ys) = H4 at s4 h4 ⊢
          have hTv : TabV H4 (.ref l) (diagF d) := (hacc2.mono fun x a h => RowV.kt h (Kt.of s4)).sq (by unfold diagF; rw [List.length_map, List.length_range, hdl]; omega) h4
          have s14 := sm.trans s4
          walk_at "go"
          refine w_ite (fun hc => ?_) (fun hc => ?_)
          · walk_at "go"
            exact q _ _ _ hTv (frm_mono hfrm (by decide)) (mvX.trans (Mv.same s14)) (hbX.same s14)
          · walk_at "go"
            refine ⟨b, g, .ref l, diagF d, m, F', R, W, rfl, hgr, hbX.same s14, hTv, hfrm, hm1, hm, fun H5 v5 T5 h5 hf5 m5 hb5 => ?_⟩
            exact q _ _ T5 h5 hf5 (mvX.trans ((Mv.same s14).trans m5)) hb5
theorem ok__law_with_worth {f : Addr} {fd : FuncData} (F : FnP K "_law_with_worth" s__law_with_worth f fd)
    {f__law_ones : Addr} {fd__law_ones : FuncData} (F__law_ones : FnP K "_law_ones" s__law_ones f__law_ones fd__law_ones) (b__law_ones : Binds K fd__law_ones ["_law_many"] []) (g__law_ones : mg "_law_ones" = some (.ref f__law_ones)) (G__law_ones : FnOk P w K mg base CX0 1 f__law_ones fd__law_ones ["_law_many"] (sp__law_ones K))
    {f__law_row : Addr} {fd__law_row : FuncData} (F__law_row : FnP K "_law_row" s__law_row f__law_row fd__law_row) (b__law_row : Binds K fd__law_row ["_law_bag_here", "_law_g", "_law_many"] []) (g__law_row : mg "_law_row" = some (.ref f__law_row)) (G__law_row : FnOk P w K mg base CX0 4 f__law_row fd__law_row ["_law_bag_here", "_law_g", "_law_many"] (sp__law_row K))
    {f__law_mixed : Addr} {fd__law_mixed : FuncData} (F__law_mixed : FnP K "_law_mixed" s__law_mixed f__law_mixed fd__law_mixed) (b__law_mixed : Binds K fd__law_mixed ["_law_bag_here", "_law_row_here"] []) (g__law_mixed : mg "_law_mixed" = some (.ref f__law_mixed)) (G__law_mixed : FnOk P w K mg base CX0 2 f__law_mixed fd__law_mixed ["_law_bag_here", "_law_row_here"] (sp__law_mixed K))
    {f__law_added : Addr} {fd__law_added : FuncData} (F__law_added : FnP K "_law_added" s__law_added f__law_added fd__law_added) (b__law_added : Binds K fd__law_added ["_law_g", "_law_row_here", "_law_other"] []) (g__law_added : mg "_law_added" = some (.ref f__law_added)) (G__law_added : FnOk P w K mg base CX0 4 f__law_added fd__law_added ["_law_g", "_law_row_here", "_law_other"] (sp__law_added K))
    {f__law_worth : Addr} {fd__law_worth : FuncData} (F__law_worth : FnP K "_law_worth" s__law_worth f__law_worth fd__law_worth) (b__law_worth : Binds K fd__law_worth ["_law_g", "_law_table", "_law_row_here"] []) (g__law_worth : mg "_law_worth" = some (.ref f__law_worth)) (G__law_worth : FnOk P w K mg base CX0 7 f__law_worth fd__law_worth ["_law_g", "_law_table", "_law_row_here"] (sp__law_worth K)) (m_len : mg "len" = none) (m_range : mg "range" = none) (m_list : mg "list" = none) :
    FnOk P w K mg base CX0 8 f fd ["_law_bag_here", "_law_g", "_law_table"] (sp__law_with_worth K) := by
  refine F.ok sc__law_with_worth (fun vs H Q E h => ?_) (fun cdv A outer s H vs Q E hr h => ?_)
  · obtain ⟨b, g, x, t, m, F', R, W, rfl, hgr, hb, hx, hf, hm1, hm, q⟩ := h
    rfl
  · obtain ⟨b, g, x, t, m, F', R, W, rfl, hgr, hb, hx, hf, hm1, hm, q⟩ := h
    refine ⟨_, PSs.nox (pss_cons (ps_set (i := 3) sc__law_with_worth.nd rfl (.inl rfl) (pe_callB call_len_seq (by rfl) m_len (by decide +kernel) (pa_cons (pv 2) pa_nil)))
        (pss_cons (ps_set (i := 4) sc__law_with_worth.nd rfl (.inr rfl) (pe_call G__law_ones (hr.mono (by decide)) (by rfl) g__law_ones F__law_ones.kp b__law_ones .nil pass0 (pa_cons (pv 3) pa_nil)))
        (pss_cons (ps_set (i := 5) sc__law_with_worth.nd rfl (.inl rfl) (pe_call G__law_row (hr.mono (by decide)) (by rfl) g__law_row F__law_row.kp b__law_row .nil pass0 (pa_cons (pv 0) (pa_cons (pv 1) (pa_cons (pv 3) pa_nil)))))
        (pss_cons (ps_set (i := 6) sc__law_with_worth.nd rfl (.inl rfl) (pe_op op_cat (pe_lst (pa_cons (pv 5) pa_nil)) (pe_call G__law_mixed (hr.mono (by decide)) (by rfl) g__law_mixed F__law_mixed.kp b__law_mixed .nil pass0 (pa_cons (pv 0) (pa_cons (pe_callTy call_list_of (by rfl) m_list (by decide +kernel) (pa_cons (pv 4) pa_nil)) pa_nil)))))
        (pss_cons (ps_for PassesOwn.never rfl (pi_range1 (by rfl) m_range (pa_cons (pv 3) pa_nil)) (pg_name (i := 7) sc__law_with_worth.nd rfl (.inr rfl)) (pss_one (ps_expr (pe_bm PySem.F.plainAttrs_list PySem.F.slot_list_extend PySem.F.type_list_extend mt_extend (pv 6) (pa_cons (pe_lc (own := [("_law_j", 9)]) (g := gName 9) (tt := tYes) (by rfl) sc__law_with_worth.nd (pi_range1 (by rfl) m_range (pa_cons (pv 7) pa_nil)) (blkOk_by (own := [("_law_j", 9)]) (N := ["_law_bag_here", "_law_g", "_law_table", "_law_many", "_law_letters_here", "_law_row_here", "_law_some", "_law_k", "_law_one", "_law_j"]) (sc := defScope s__law_with_worth) (by decide +kernel)) (fun _ _ _ _ _ => (pg_name (i := 9) sc__law_with_worth.nd rfl (.inl rfl))) (fun _ _ _ _ _ => pts_nil) (fun _ _ _ _ _ => (pe_call G__law_added (hr.mono (by decide)) (by rfl) g__law_added F__law_added.kp b__law_added .nil pass0 (pa_cons (pv 1) (pa_cons (pe_ix (r := rIxT K) ix_tup (pv 4) (pv 9) (fun _ _ => rfl)) (pa_cons (pe_ix (r := rIxT K) ix_tup (pv 4) (pv 7) (fun _ _ => rfl)) pa_nil)))))) pa_nil)))))
        (pss_one (ps_ret (pe_ix ix_list (pe_lc (own := [("_law_one", 8)]) (g := gName 8) (by rfl) sc__law_with_worth.nd (pi_list (pv 6)) (blkOk_by (own := [("_law_one", 8)]) (N := ["_law_bag_here", "_law_g", "_law_table", "_law_many", "_law_letters_here", "_law_row_here", "_law_some", "_law_k", "_law_one", "_law_j"]) (sc := defScope s__law_with_worth) (by decide +kernel)) (fun _ _ _ _ _ => (pg_name (i := 8) sc__law_with_worth.nd rfl (.inl rfl))) (fun _ _ _ _ _ => (pts_one (pt_cmpR (r := rNeD K) (op_neD hr.units) (pe_call G__law_worth hr (by rfl) g__law_worth F__law_worth.kp b__law_worth .nil pass0 (pa_cons (pv 1) (pa_cons (pv 2) (pa_cons (pv 8) pa_nil)))) (pe_tup (pa_cons pe_int (pa_cons pe_int pa_nil))) (nomark _)))) (fun _ _ _ _ _ => (pv 8))) pe_int (fun _ _ => rfl))))))))), ?_⟩
    have hg := hgr.two
    have ⟨hg0, hg13⟩ := hgr.bd
    obtain ⟨hb1, hb2, hb3, _, _, _⟩ := mir_b1 hm
    have htl := hf.len
    obtain ⟨px, xx, ex, hpx, hlx, _⟩ := sqv_acc hx
    subst ex
    have hol : (onesF m).length = m := by unfold onesF; rw [List.length_map, List.length_range]
    have rzW : ∀ r ∈ onesF m, RZ g 2520 161280 m r := fun r hr => ⟨(rz_ones hg r hr).1, fun a ha => by
      have := ((rz_ones hg r hr).2 a ha).wide 2520
      rw [show (1 : Int) * 2520 = 2520 from rfl] at this
      exact this.mono (by decide)⟩
    walk_at "go"
    refine ⟨px, xx, rfl, .inr (SqT.of hpx), ?_⟩
    walk_at "go"
    refine ⟨m, by rw [hlx, htl]; rfl, by omega, fun v1 H1 s1 h1 => ?_⟩
    obtain ⟨po, xo, rfl, hpo, hlo, hao⟩ := sqv_acc h1
    have hb1' := hb.same s1
    walk_at "go"
    refine ⟨b, g, (xx.length : Int), rfl, hgr, by omega, by omega, hb1', fun H2 v2 r2 h2 hr2l hr2 m2 hb2' => ?_⟩
    have hr2z : RZ g 2520 161280 m r2 := ⟨by rw [hr2l, Int.toNat_natCast]; omega, fun a ha => ng_tz hg (hr2 a ha).1 (hr2 a ha).2⟩
    have kt2 : Kt H1 H2 := m2.kt hb1'
    walk_at "go"
    refine w_new (by simp) fun L3 H3 hL3 s3 h3 => ?_
    walk_at "go"
    refine ⟨_, _, rfl, .inr (SqT.of (s3 _ _ (kt2 _ _ hpo))), fun L4 hL4 => ?_⟩
    have s4 := same_upd (o := HO.lst xo) hL4
    have h4 : (upd H3 L4 (.lst xo)) L4 = some (.lst xo) := upd_same
    generalize upd H3 L4 (.lst xo) = H4 at s4 h4 ⊢
    have hb4' := hb2'.same (s3.trans s4)
    have nL4 : L4 ≠ b := bag_ne (hb2'.same s3) hL4
    have nL3 : L3 ≠ b := bag_ne hb2' hL3
    refine ⟨b, L4, xo, rfl, hb4', h4, nL4, by omega, fun q5 H5 ys m5 hb5' h5 hq5 hyl hym => ?_⟩
    have kt25 : Kt H2 H5 := (Kt.of (s3.trans s4)).trans (m5.kt hb4')
    refine w_cat (m5 _ _ nL3 (s4 _ _ h3)) h5 (by rw [hyl, hlo, hol]; show 1 + m ≤ 1000; omega) ?_
    refine w_newO fun S H6 hSn s6 h6 => ?_
    have kt26 := kt25.trans (Kt.of s6)
    have kt16 := kt2.trans kt26
    have hmv6 : Mv b H H6 := (Mv.same s1).trans (m2.trans ((Mv.same (s3.trans s4)).trans (m5.trans (Mv.same s6))))
    have hb6' := hb5'.same s6
    have hao6 : Acc RowV H6 xo (onesF m) (onesF m).length := hao.mono fun x a h => RowV.kt h kt16
    obtain ⟨u, hu1, hu2, hu3, hu4⟩ := tab_mem hao6 (fun y hy => (hym y).mp hy)
    have nS : S ≠ b := bag_ne hb5' hSn
    have hSH : H S = none := by
      cases e : H S with
      | none => rfl
      | some o =>
        have := ((Mv.same s1).trans (m2.trans ((Mv.same (s3.trans s4)).trans m5))) _ _ nS e
        rw [hSn] at this
        cases this
    have hunits : ∀ i, i < m → ∃ r ∈ u, er W r = unit i := fun i hi => by
      have gx : xo[i]? = some (xo[i]'(by omega)) := List.getElem?_eq_getElem _
      exact ⟨_, hu4 _ _ ((hym _).mpr (List.mem_of_getElem? gx)) (hao6.2 i _ _ gx (ones_get hi)), er_onesrow hi⟩
    walk_at "go"
    refine ⟨by omega, by omega, ?_⟩
    refine for_range (fun k σ H' => (∃ y7 y8 y9, σ = [some (.ref b), some (.int g), some (.ref px), some (.int (xx.length : Int)), some (.ref po), some v2, some (.ref S), y7, y8, y9]) ∧ Kt H6 H' ∧ Mv b H H' ∧ Bag H' b ∧ ∃ (ss : List V) (us : List (List (Int × Int))), H' S = some (.lst ss) ∧ Acc RowV H' ss us us.length ∧ us.length ≤ 6 + 5 * k ∧ (∀ r ∈ us, RZ g 2520 161280 m r) ∧ (∀ i, i < m → ∃ r ∈ us, er W r = unit i) ∧ ∀ j l, j < l → l < k → ∃ r ∈ us, er W r = fun c => unit j c + unit l c) ?start (fun k σ H' hk hP => ?step) (fun σ H' hP => ?fin)
    case start =>
      refine ⟨⟨_, _, _, rfl⟩, fun _ _ h => h, hmv6, hb6', v2 :: ys, r2 :: u, h6, ?_, ?_, ?_, ?_, fun j l _ h => absurd h (Nat.not_lt_zero _)⟩
      · exact acc_cat (acc_one (RowV.kt h2 kt26)) hu1
      · rw [List.length_cons, hu2, hyl]
        omega
      · intro r hr'
        rcases List.mem_cons.mp hr' with h | h
        · rw [h]
          exact hr2z
        · exact rzW r (hu3 r h)
      · intro i hi
        obtain ⟨r, h7, h8⟩ := hunits i hi
        exact ⟨r, List.mem_cons_of_mem _ h7, h8⟩
    case step =>
      obtain ⟨⟨y7, y8, y9, rfl⟩, kt, mv, hbi, ss, us, hS, hsa, husl, husz, hu1', hu2'⟩ := hP
      have hkm : k < m := by omega
      have hpo' : H' po = some (.tup xo) := kt _ _ (kt16 _ _ hpo)
      have gk : xo[k]? = some (xo[k]'(by omega)) := List.getElem?_eq_getElem _
      have rk := RowV.kt (hao6.2 k _ _ gk (ones_get hkm)) kt
      have hn1 := rz_onesrow (g := g) (m := m) (k := k) hg
      have be1 : ∀ i, ∀ a ∈ ((List.range m).map fun j => ((if i = j then 1 else 0 : Int), (1 : Int))), PBe a := fun i => (rz_onesrow (g := g) (m := m) (k := i) hg).be hg (k := 130) (by decide) (by decide) (by decide) (by decide) (by decide)
      walk_at "go"
      refine ⟨.inl ⟨rfl, _, SqL.of hS⟩, ?_⟩
      walk_at "go"
      refine ⟨by omega, by omega, fun D hD => ?_⟩
      have nDS : S ≠ D := fresh_of hS hD
      refine lc_range (fun j H'' => Same H' H'' ∧ ∃ zs, H'' D = some (.lst zs) ∧ Acc RowV H'' zs ((List.range k).map fun j => List.zipWith (plusF g) ((List.range m).map fun c => ((if j = c then 1 else 0 : Int), (1 : Int))) ((List.range m).map fun c => ((if k = c then 1 else 0 : Int), (1 : Int)))) j) ⟨Same.updD (Same.refl H') hD, [], upd_same, Acc.nil⟩ (fun j H'' hj hP => ?_) (fun H'' hP => ?_)
      · obtain ⟨sm, zs, hD', hz⟩ := hP
        have hjk : j < k := by omega
        have gj : xo[j]? = some (xo[j]'(by omega)) := List.getElem?_eq_getElem _
        have rj := RowV.kt (hao6.2 j _ _ gj (ones_get (show j < m by omega))) kt
        walk_at "go"
        refine ⟨rfl, ?_⟩
        walk_at "go"
        refine w_ixT (sm _ _ hpo') (by rw [show (0 : Int) + (j : Int) = (j : Int) by omega]; exact atI_nat gj) ?_
        walk_at "go"
        refine w_ixT (sm _ _ hpo') (by rw [show (0 : Int) + (k : Int) = (k : Int) by omega]; exact atI_nat gk) ?_
        walk_at "go"
        refine ⟨g, _, _, _, _, rfl, hg0, hg13, RowV.kt rj (Kt.of sm), RowV.kt rk (Kt.of sm), by rw [List.length_map, List.length_map], by rw [List.length_map, List.length_range]; omega, be1 j, be1 k, fun v3 H3 s3' h3' => ?_⟩
        have h3D := s3' _ _ hD'
        have ktc : Kt H'' (upd H3 D (.lst (zs ++ [v3]))) := (Kt.of s3').trans (Kt.updL h3D)
        refine ⟨zs, h3D, small1000 (by rw [hz.1]; omega), Same.updD (sm.trans s3') hD, _, upd_same, ?_⟩
        exact (hz.mono fun x a h => RowV.kt h ktc).snoc (by rw [List.getElem?_map, List.getElem?_range hjk]; rfl) (RowV.kt h3' (Kt.updL h3D))
      · obtain ⟨sm, zs, hD', hz⟩ := hP
        have hzl : zs.length = k := by have := hz.1; omega
        have hS' := sm _ _ hS
        walk_at "go"
        refine ⟨S, D, ss, zs, rfl, rfl, hS', hD', Nat.le_of_lt (small1000 (by rw [hsa.1, hzl]; omega)), ?_⟩
        have ktc : Kt H' (upd H'' S (.lst (ss ++ zs))) := (Kt.of sm).trans (Kt.updL hS')
        have ktd : Kt H'' (upd H'' S (.lst (ss ++ zs))) := Kt.updL hS'
        have hlen : ((List.range k).map fun j => List.zipWith (plusF g) ((List.range m).map fun c => ((if j = c then 1 else 0 : Int), (1 : Int))) ((List.range m).map fun c => ((if k = c then 1 else 0 : Int), (1 : Int)))).length = k := by rw [List.length_map, List.length_range]
        refine ⟨⟨_, _, _, rfl⟩, kt.trans ktc, (mv.trans (Mv.same sm)).updD hSH, (hbi.same sm).upd nS, ss ++ zs, us ++ ((List.range k).map fun j => List.zipWith (plusF g) ((List.range m).map fun c => ((if j = c then 1 else 0 : Int), (1 : Int))) ((List.range m).map fun c => ((if k = c then 1 else 0 : Int), (1 : Int)))), upd_same, acc_cat (hsa.mono fun x a h => RowV.kt h ktc) ?_, ?_, ?_, ?_, ?_⟩
        · rw [hlen]
          exact ⟨hzl, fun j x a e1 e2 => RowV.kt (hz.2 j x a e1 e2) ktd⟩
        · rw [List.length_append, hlen]
          omega
        · intro r hr'
          rcases List.mem_append.mp hr' with h | h
          · exact husz r h
          · obtain ⟨j, hj, rfl⟩ := List.mem_map.mp h
            have hs := rz_plus hg (rz_onesrow (g := g) (m := m) (k := j) hg) hn1
            refine ⟨hs.1, fun a ha => ?_⟩
            have := (hs.2 a ha).wide 2520
            rw [show (1 : Int) * 2520 = 2520 from rfl] at this
            exact this.mono (by decide)
        · intro i hi
          obtain ⟨r, h7, h8⟩ := hu1' i hi
          exact ⟨r, List.mem_append_left _ h7, h8⟩
        · intro j l hjl hl
          by_cases e : l = k
          · subst e
            refine ⟨_, List.mem_append_right _ (List.mem_map.mpr ⟨j, List.mem_range.mpr hjl, rfl⟩), ?_⟩
            rw [er_plus hg (rz_onesrow (g := g) (m := m) (k := j) hg) hn1, er_onesrow (show j < m by omega), er_onesrow hkm]
          · obtain ⟨r, h7, h8⟩ := hu2' j l hjl (by omega)
            exact ⟨r, List.mem_append_left _ h7, h8⟩
    case fin =>
      obtain ⟨⟨y7, y8, y9, rfl⟩, kt, mv, hbi, ss, us, hS, hsa, husl, husz, hu1', hu2'⟩ := hP
      have hx6 : TabV H' (.ref px) t := TabV.kt hx ((Kt.of s1).trans (kt16.trans kt))
      have hsl : ss.length ≤ 31 := by
        rw [hsa.1]
        omega
      walk_at "go"
      refine ⟨S, rfl, ⟨_, SqL.of hS⟩, fun D hD => ?_⟩
      refine lc_list (xs := ss) (fun j H'' => Same H' H'' ∧ ∃ (zs : List V) (gs : List (List (Int × Int))), H'' D = some (.lst zs) ∧ Acc RowV H'' zs gs gs.length ∧ gs.length ≤ j ∧ (∀ r ∈ gs, r ∈ us ∧ bil (t.map (er W)) m (er W r) (er W r) ≠ 0) ∧ ∀ r ∈ us.take j, bil (t.map (er W)) m (er W r) (er W r) ≠ 0 → gs ≠ []) ⟨Same.updD (Same.refl H') hD, [], [], upd_same, Acc.nil, Nat.le_refl _, fun r hr' => (by cases hr'), fun r hr' => by simp at hr'⟩ (fun j H'' _ hP => SqL.of (hP.1 _ _ hS)) (fun j y H'' hyj hP => ?_) (fun H'' hP => ?_)
      · obtain ⟨sm, zs, gs, hD', hz, hgl, hgs, hne⟩ := hP
        have hj : j < us.length := by
          have := (List.getElem?_eq_some_iff.mp hyj).1
          rw [hsa.1] at this
          exact this
        have gu : us[j]? = some us[j] := List.getElem?_eq_getElem hj
        have hyr := RowV.kt (hsa.2 j y _ hyj gu) (Kt.of sm)
        have hrz := husz _ (List.getElem_mem hj)
        walk_at "go"
        refine ⟨rfl, ?_⟩
        walk_at "go"
        refine ⟨g, .ref px, y, t, us[j], m, 2520, 2520, 16128000000000, 161280, 130, F', R, W, rfl, hg, TabV.kt hx6 (Kt.of sm), hyr, htl, hm1, by omega, hf.row, hrz, by decide, by decide, by decide, by decide, by decide, hb1, hb2, by decide, by decide, fun v3 H3 w s3' h3' tw ew => ?_⟩
        have tnw := tw.tn hg (k := 130) (by decide) (by decide) (by decide) (by omega)
        walk_at "go"
        refine w_new (by simp) fun o4 H4 ho4 s4' h4' => ?_
        refine w_neNum (b := (0, 1)) (h3'.kt (Kt.of s4')) ⟨o4, rfl, h4'⟩ ?_
        have s34 := s3'.trans s4'
        by_cases e : w = (0, 1)
        · rw [decide_eq_true e, Bool.not_true]
          walk_at "go"
          refine ⟨sm.trans s34, zs, gs, s34 _ _ hD', hz.mono fun x a h => RowV.kt h (Kt.of s34), by omega, hgs, fun r hr' hb' => ?_⟩
          rw [List.take_add_one, gu] at hr'
          rcases List.mem_append.mp hr' with h | h
          · exact hne r h hb'
          · have er' : r = us[j] := List.mem_singleton.mp h
            refine absurd ?_ hb'
            rw [er', ← ew, e, W.zero]
        · rw [decide_eq_false e, Bool.not_false]
          walk_at "go"
          have h4D := s34 _ _ hD'
          have ktc : Kt H'' (upd H4 D (.lst (zs ++ [y]))) := (Kt.of s34).trans (Kt.updL h4D)
          refine ⟨zs, h4D, small1000 (by rw [hz.1]; omega), Same.updD (sm.trans s34) hD, _, gs ++ [us[j]], upd_same, acc_cat (hz.mono fun x a h => RowV.kt h ktc) (acc_one (RowV.kt hyr ktc)), by rw [List.length_append]; show gs.length + 1 ≤ j + 1; omega, fun r hr' => ?_, fun r _ _ => by simp⟩
          rcases List.mem_append.mp hr' with h | h
          · exact hgs r h
          · rw [List.mem_singleton.mp h]
            refine ⟨List.getElem_mem hj, ?_⟩
            rw [← ew]
            exact fun z => e (tnw.zero.mp ((e_zero hg tnw).mp z))
      · obtain ⟨sm, zs, gs, hD', hz, hgl, hgs, hne⟩ := hP
        rw [List.take_of_length_le (by rw [hsa.1]; exact Nat.le_refl _)] at hne
        have hgne : gs ≠ [] := fun e0 => by
          refine some_worth (by rw [List.length_map]; exact htl) hm1 hf.sym hf.det (two_ne hg W) (fun i hi => ?_) (fun j l hjl hl => ?_)
          · obtain ⟨r, h7, h8⟩ := hu1' i hi
            rw [← h8]
            exact Classical.byContradiction fun z => hne r h7 z e0
          · obtain ⟨r, h7, h8⟩ := hu2' j l hjl (by omega)
            rw [← h8]
            exact Classical.byContradiction fun z => hne r h7 z e0
        have hgp : 0 < gs.length := List.length_pos_iff.mpr hgne
        have gz : zs[0]? = some (zs[0]'(by rw [hz.1]; exact hgp)) := List.getElem?_eq_getElem _
        have gg : gs[0]? = some (gs[0]'hgp) := List.getElem?_eq_getElem _
        obtain ⟨h7, h8⟩ := hgs _ (List.mem_of_getElem? gg)
        walk_at "go"
        refine w_ixL hD' (atI_nat (j := 0) gz) ?_
        exact q _ _ _ (hz.2 0 _ _ gz gg) (husz _ h7) h8 (mv.trans (Mv.same sm)) (hbi.same sm)
theorem ok__law_due {f : Addr} {fd : FuncData} (F : FnP K "_law_due" s__law_due f fd)
    {f__law_worth : Addr} {fd__law_worth : FuncData} (F__law_worth : FnP K "_law_worth" s__law_worth f__law_worth fd__law_worth) (b__law_worth : Binds K fd__law_worth ["_law_g", "_law_table", "_law_row_here"] []) (g__law_worth : mg "_law_worth" = some (.ref f__law_worth)) (G__law_worth : FnOk P w K mg base CX0 7 f__law_worth fd__law_worth ["_law_g", "_law_table", "_law_row_here"] (sp__law_worth K))
    {f__law_is_row : Addr} {fd__law_is_row : FuncData} (F__law_is_row : FnP K "_law_is_row" s__law_is_row f__law_is_row fd__law_is_row) (b__law_is_row : Binds K fd__law_is_row ["_law_g", "_law_thing", "_law_many"] []) (g__law_is_row : mg "_law_is_row" = some (.ref f__law_is_row)) (G__law_is_row : FnOk P w K mg base CX0 3 f__law_is_row fd__law_is_row ["_law_g", "_law_thing", "_law_many"] (sp__law_is_row K)) (m_len : mg "len" = none) :
    FnOk P w K mg base CX0 8 f fd ["_law_g", "_law_table", "_law_row_here", "_law_other"] (sp__law_due K) := by
  refine F.ok sc__law_due (fun vs H Q E h => ?_) (fun cdv A outer s H vs Q E hr h => ?_)
  · obtain ⟨g, tv, x, y, t, m, F', R, W, rfl, hg, ht, hft, hx, hy, q1, q2, q3, q4⟩ := h
    rfl
  · obtain ⟨g, tv, x, y, t, m, F', R, W, rfl, hg, ht, hft, hx, hy, q1, q2, q3, q4⟩ := h
    refine ⟨_, PSs.nox (pss_cons (ps_if (PW.pt (pw_or (pt_not (pt_val (pe_call G__law_is_row (hr.mono (by decide)) (by rfl) g__law_is_row F__law_is_row.kp b__law_is_row .nil pass0 (pa_cons (pv 0) (pa_cons (pv 2) (pa_cons (pe_callB call_len_seq (by rfl) m_len (by decide +kernel) (pa_cons (pv 1) pa_nil)) pa_nil)))))) (pw_or1 (pt_not (pt_val (pe_call G__law_is_row (hr.mono (by decide)) (by rfl) g__law_is_row F__law_is_row.kp b__law_is_row .nil pass0 (pa_cons (pv 0) (pa_cons (pv 3) (pa_cons (pe_callB call_len_seq (by rfl) m_len (by decide +kernel) (pa_cons (pv 1) pa_nil)) pa_nil))))))))) (pss_one (ps_ret pe_str)) pss_nil)
        (pss_cons (ps_set (i := 4) sc__law_due.nd rfl (.inl rfl) (pe_lst (pa_cons (pe_call G__law_worth hr (by rfl) g__law_worth F__law_worth.kp b__law_worth .nil pass0 (pa_cons (pv 0) (pa_cons (pv 1) (pa_cons (pv 2) pa_nil)))) (pa_cons (pe_call G__law_worth hr (by rfl) g__law_worth F__law_worth.kp b__law_worth .nil pass0 (pa_cons (pv 0) (pa_cons (pv 1) (pa_cons (pv 3) pa_nil)))) pa_nil))))
        (pss_cons (ps_if (pt_cmpR (op_inD (units65 hr)) (pe_tup (pa_cons pe_int (pa_cons pe_int pa_nil))) (pv 4) (by rfl)) (pss_one (ps_ret pe_str)) pss_nil)
        (pss_one (ps_ret (pe_ifExp (pt_cmpR (op_eqD hr.units) (pe_ix ix_list (pv 4) pe_int (fun _ _ => rfl)) (pe_ix ix_list (pv 4) pe_int (fun _ _ => rfl)) (nomark _)) pe_non pe_str)))))), ?_⟩
    have ⟨htl, hm1, hm, htz⟩ := hft
    have hm8 := pw_five hm
    have hm9 : m + 1 ≤ 2 ^ 3 := (show m + 1 ≤ 8 by omega)
    have ⟨hg0, hg13⟩ := grb hg
    have ⟨p, ps, etv, hp, hlp, _⟩ := id ht
    subst etv
    have hpm : ((ps.length : Nat) : Int) = (m : Int) := by omega
    walk_at "go"
    refine ⟨p, ps, rfl, .inr (SqT.of hp), ?_⟩
    walk_at "go"
    refine ⟨g, x, (ps.length : Int), 200, 0, rfl, hg0, hx.1, fun H1 s1 => ?_⟩
    rw [hpm]
    cases ex : rowOf H g (m : Int) x with
    | false =>
      walk_at "go"
      exact q1 (.inl ex) _ s1
    | true =>
      walk_at "go"
      refine iteF ?_
      walk_at "go"
      refine ⟨p, ps, rfl, .inr (SqT.of (s1 _ _ hp)), ?_⟩
      walk_at "go"
      refine ⟨g, y, (ps.length : Int), 200, 0, rfl, hg0, (hy.sm s1).1, fun H2 s2 => ?_⟩
      have s12 := s1.trans s2
      rw [hpm, rowOf_tb hy.1 (Kd.of s1)]
      cases ey : rowOf H g (m : Int) y with
      | false =>
        walk_at "go"
        exact q1 (.inr ey) _ s12
      | true =>
        obtain ⟨r, hr1, hr2⟩ := hx.2 ex
        obtain ⟨s', hs1, hs2⟩ := hy.2 ey
        walk_at "go"
        refine iteF ?_
        walk_at "go"
        refine ⟨g, .ref p, x, t, r, m, 2520, 2520, 16128000000000, 322560, 130, F', R, W, rfl, hg, TabV.kt ht (Kt.of s12), RowV.kt hr1 (Kt.of s12), htl, hm1, by omega, htz, hr2, by decide, by decide, by decide, by decide, by decide, pw_lt (pw_mul hm9 (pw_mul bMt bMr)) (by decide), pw_lt (pw_mul hm9 (pw_mul (pw_mul hm8.1 (pw_mul bMt bMr)) bMr)) (by decide), by decide, by decide, fun v3 H3 d3 s3 h3 td3 ed3 => ?_⟩
        have s13 := s12.trans s3
        walk_at "go"
        refine ⟨g, .ref p, y, t, s', m, 2520, 2520, 16128000000000, 322560, 130, F', R, W, rfl, hg, TabV.kt ht (Kt.of s13), RowV.kt hs1 (Kt.of s13), htl, hm1, by omega, htz, hs2, by decide, by decide, by decide, by decide, by decide, pw_lt (pw_mul hm9 (pw_mul bMt bMr)) (by decide), pw_lt (pw_mul hm9 (pw_mul (pw_mul hm8.1 (pw_mul bMt bMr)) bMr)) (by decide), by decide, by decide, fun v4 H4 d4 s4 h4 td4 ed4 => ?_⟩
        have s14 := s13.trans s4
        obtain ⟨⟨l3, _, hl3⟩, _⟩ := td3
        obtain ⟨⟨l4, _, hl4⟩, _⟩ := td4
        have z3 := (e_zero (V := W) hg hl3).trans hl3.zero
        have z4 := (e_zero (V := W) hg hl4).trans hl4.zero
        rw [ed3] at z3
        rw [ed4] at z4
        walk_at "go"
        refine w_new (by simp) fun L H5 hL s5 h5 => ?_
        walk_at "go"
        refine w_new (by simp) fun p6 H6 hp6 s6 h6 => ?_
        have s46 := s5.trans s6
        have s16 := s14.trans s46
        have h36 := h3.kt (Kt.of (s4.trans s46))
        have h46 := h4.kt (Kt.of s46)
        walk_at "go"
        refine w_inNum (c := (0, 1)) ⟨p6, rfl, h6⟩ (s6 _ _ h5) h36 h46 ?_
        by_cases e3 : d3 = (0, 1)
        · rw [decide_eq_true e3, Bool.true_or]
          walk_at "go"
          exact q2 r s' hr1 hs1 hr2 hs2 (.inl (z3.mpr e3)) _ s16
        by_cases e4 : d4 = (0, 1)
        · rw [decide_eq_true e4, Bool.or_true]
          walk_at "go"
          exact q2 r s' hr1 hs1 hr2 hs2 (.inr (z4.mpr e4)) _ s16
        rw [decide_eq_false e3, decide_eq_false e4, Bool.or_false]
        walk_at "go"
        refine w_ixL (s6 _ _ h5) rfl ?_
        walk_at "go"
        refine w_ixL (s6 _ _ h5) rfl ?_
        refine w_eqNum h36 h46 ?_
        by_cases e34 : d3 = d4
        · rw [decide_eq_true e34]
          walk_at "go"
          exact q4 r s' hr1 hs1 hr2 hs2 (fun z => e3 (z3.mp z)) (fun z => e4 (z4.mp z)) (by rw [← ed3, ← ed4, e34]) _ s16
        · rw [decide_eq_false e34]
          walk_at "go"
          exact q3 r s' hr1 hs1 hr2 hs2 (fun z => e3 (z3.mp z)) (fun z => e4 (z4.mp z)) (fun z => e34 (W.inj hg hl3 hl4 (by rw [ed3, ed4, z]))) _ s16
theorem ok__law_is_refused {f : Addr} {fd : FuncData} (F : FnP K "_law_is_refused" s__law_is_refused f fd)
    {f__law_due : Addr} {fd__law_due : FuncData} (F__law_due : FnP K "_law_due" s__law_due f__law_due fd__law_due) (b__law_due : Binds K fd__law_due ["_law_g", "_law_table", "_law_row_here", "_law_other"] []) (g__law_due : mg "_law_due" = some (.ref f__law_due)) (G__law_due : FnOk P w K mg base CX0 8 f__law_due fd__law_due ["_law_g", "_law_table", "_law_row_here", "_law_other"] (sp__law_due K))
    {f__law_refusal : Addr} {fd__law_refusal : FuncData} (F__law_refusal : FnP K "_law_refusal" s__law_refusal f__law_refusal fd__law_refusal) (b__law_refusal : Binds K fd__law_refusal ["_law_deed"] []) (g__law_refusal : mg "_law_refusal" = some (.ref f__law_refusal))
    {f_leading : Addr} {fd_leading : FuncData} (F_leading : FnP K "leading" s_leading f_leading fd_leading) (b_leading : Binds K fd_leading ["form", "row", "other"] []) (g_leading : mg "leading" = some (.ref f_leading)) (G_leading : FnOk P w K mg base (L2N.CX P w) 8 f_leading fd_leading ["form", "row", "other"] (sp_leading K))
    {f_led : Addr} {fd_led : FuncData} (F_led : FnP K "led" s_led f_led fd_led) (b_led : Binds K fd_led ["form", "row", "other"] []) (g_led : mg "led" = some (.ref f_led)) (G_led : FnOk P w K mg base (L2N.CX P w) 8 f_led fd_led ["form", "row", "other"] (sp_led K))
    {c P' : Addr} (FC : CodeAt K f c) (TB : LamX.TabB base mg c P') (hmT : (P', ((envOfC "_law_is_refused" (defScope s__law_is_refused) 0 0 .none).qual ++ "<lambda>")) ∈ T) (hu : ∀ p ∈ T, p.1 = P' → p.2 = ((envOfC "_law_is_refused" (defScope s__law_is_refused) 0 0 .none).qual ++ "<lambda>"))  (MG : MirG K mg) (MC_NoRow : MirC K (He.ga K "NoRow") "NoRow") (MC_NoWorth : MirC K (He.ga K "NoWorth") "NoWorth") (MC_NoPlace : MirC K (He.ga K "NoPlace") "NoPlace") :
    FnOk P w K mg base CX0 11 f fd ["_law_form_here", "_law_g", "_law_table", "_law_row_here", "_law_other"] (sp__law_is_refused K T) := by
  refine okC F FC sc__law_is_refused (fun vs H Q E h => ?_) (fun A outer s H vs Q E hr h => ?_)
  · obtain ⟨g, f, tv, x, y, t, m, F', R, W, rfl, hg, hf, ht, hft, hx, hy, hT, q⟩ := h
    rfl
  · obtain ⟨g, f, tv, x, y, t, m, F', R, W, rfl, hg, hf, ht, hft, hx, hy, hT, q⟩ := h
    refine ⟨_, PSs.nox (pss_cons (ps_set (i := 5) sc__law_is_refused.nd rfl (.inl rfl) (pe_call G__law_due (hr.mono (by decide)) (by rfl) g__law_due F__law_due.kp b__law_due .nil pass0 (pa_cons (pv 1) (pa_cons (pv 2) (pa_cons (pv 3) (pa_cons (pv 4) pa_nil))))))
        (pss_cons (ps_if (pt_cmpR op_ne (pe_lamF (T := T) (TT := (TTref K)) (k := 8) F__law_refusal b__law_refusal (by rfl) g__law_refusal sc__law_refusal rfl (.inl rfl) (fun _ => refusal_gives MG) TB rfl hmT hu (hr.mono (by decide)) (LamX.lamS_by (sc := defScope s__law_is_refused) (by decide +kernel)) rfl (fun _ _ _ _ _ => rfl) (fun _ _ _ _ _ _ _ hr2 => (pe_callS G_leading hr2 (by rfl) g_leading F_leading.kp b_leading (fun σ => L2N.passAt lamN_takes σ) (pa_cons (pv 0) (pa_cons (pv 3) (pa_cons (pv 4) pa_nil)))))) (pv 5) (nomark _)) (pss_one (ps_ret pe_bl)) pss_nil)
        (pss_cons (ps_if (pt_cmpR op_in_seq (pv 5) (pe_lst (pa_cons pe_str (pa_cons pe_str pa_nil))) (by rfl)) (pss_one (ps_ret (pe_cmpR op_eq (pe_lamF (T := T) (TT := (TTref K)) (k := 8) F__law_refusal b__law_refusal (by rfl) g__law_refusal sc__law_refusal rfl (.inl rfl) (fun _ => refusal_gives MG) TB rfl hmT hu (hr.mono (by decide)) (LamX.lamS_by (sc := defScope s__law_is_refused) (by decide +kernel)) rfl (fun _ _ _ _ _ => rfl) (fun _ _ _ _ _ _ _ hr2 => (pe_callS G_led hr2 (by rfl) g_led F_led.kp b_led (fun σ => L2N.passAt lamN_takes σ) (pa_cons (pv 0) (pa_cons (pv 3) (pa_cons (pv 4) pa_nil)))))) (pv 5) (nomark _)))) pss_nil)
        (pss_one (ps_ret (pe_cmpR op_isN (pe_lamF (T := T) (TT := (TTref K)) (k := 8) F__law_refusal b__law_refusal (by rfl) g__law_refusal sc__law_refusal rfl (.inl rfl) (fun _ => refusal_gives MG) TB rfl hmT hu (hr.mono (by decide)) (LamX.lamS_by (sc := defScope s__law_is_refused) (by decide +kernel)) rfl (fun _ _ _ _ _ => rfl) (fun _ _ _ _ _ _ _ hr2 => (pe_callS G_led hr2 (by rfl) g_led F_led.kp b_led (fun σ => L2N.passAt lamN_takes σ) (pa_cons (pv 0) (pa_cons (pv 3) (pa_cons (pv 4) pa_nil)))))) pe_non (nomark _))))))), ?_⟩
    walk_at "go"
    refine ⟨g, tv, x, y, t, m, F', R, W, rfl, hg, ht, hft, hx, hy, fun hno D1 s1 => ?_, fun r s' hr1 hs1 hr2 hs2 hz D1 s1 => ?_, fun r s' hr1 hs1 hr2 hs2 hw1 hw2 hne D1 s1 => ?_, fun r s' hr1 hs1 hr2 hs2 hw1 hw2 heq D1 s1 => ?_⟩
    · have x1 : Sx T H D1 := Sx.same hT s1
      have no : ∀ {J : Hp}, Sx T H J → ∀ {r2 s2 : List (Int × Int)}, RowV J x r2 → RowV J y s2 → BR g m r2 → BR g m s2 → False := fun X _ _ k1 k2 k3 k4 => by
        have e1 := k3.row hg k1
        have e2 := k4.row hg k2
        rw [hx.eq X] at e1
        rw [hy.eq X] at e2
        rcases hno with h | h
        · rw [h] at e1
          cases e1
        · rw [h] at e2
          cases e2
      walk_at "go"
      refine ⟨x1.2, fun R2 f2 t2 => ?_⟩
      have x2 : Sx T H R2 := x1.trans ⟨f2, t2⟩
      refine ⟨f, rfl, x, rfl, y, rfl, g, f, tv, x, y, t, m, F', R, W, rfl, hg, hf.sx x2, TabV.kt ht x2.kt, hft, hx.sx x2, hy.sx x2, fun _ R3 r3 => .inl ⟨_, "NoRow", rfl, rfl, MC_NoRow, fun R4 r4 => ?_⟩, fun _ _ k1 k2 k3 k4 _ => (no x2 k1 k2 k3 k4).elim, fun _ _ k1 k2 k3 k4 _ _ _ => (no x2 k1 k2 k3 k4).elim, fun _ _ k1 k2 k3 k4 _ _ => (no x2 k1 k2 k3 k4).elim⟩
      have x4 : Sx T H R4 := x2.trans (Sx.same x2.2 (r3.trans r4))
      walk_at "go"
      refine w_neSame rfl ?_
      walk_at "go"
      refine w_new (by simp) fun L5 R5 hL5 r5 h5 => ?_
      have x5 : Sx T H R5 := x4.trans (Sx.same x4.2 r5)
      refine w_inTwo (b := true) h5 rfl rfl (by decide +kernel) ?_
      walk_at "go"
      refine ⟨x5.2, fun R6 f6 t6 => ?_⟩
      have x6 : Sx T H R6 := x5.trans ⟨f6, t6⟩
      refine ⟨f, rfl, x, rfl, y, rfl, g, f, tv, x, y, t, m, F', R, W, rfl, hg, hf.sx x6, TabV.kt ht x6.kt, hft, hx.sx x6, hy.sx x6, fun _ R7 r7 => .inl ⟨_, "NoRow", rfl, rfl, MC_NoRow, fun R8 r8 => ?_⟩, fun _ _ k1 k2 k3 k4 _ => (no x6 k1 k2 k3 k4).elim, fun _ _ k1 k2 k3 k4 _ _ => (no x6 k1 k2 k3 k4).elim⟩
      have x8 : Sx T H R8 := x6.trans (Sx.same x6.2 (r7.trans r8))
      walk_at "go"
      exact w_eqSame rfl (q _ x8)
    · have x1 : Sx T H D1 := Sx.same hT s1
      have no : ∀ {J : Hp}, Sx T H J → (rowOf J g (m : Int) x = false ∨ rowOf J g (m : Int) y = false) → False := fun X h => by
        rw [hx.eq X, hy.eq X, hr2.row hg hr1, hs2.row hg hs1] at h
        rcases h with h | h <;> cases h
      have uq : ∀ {J : Hp}, Sx T H J → ∀ {r2 s2 : List (Int × Int)}, RowV J x r2 → RowV J y s2 → r2 = r ∧ s2 = s' := fun X _ _ k1 k2 => ⟨row_uniq k1 (RowV.kt hr1 X.kt), row_uniq k2 (RowV.kt hs1 X.kt)⟩
      walk_at "go"
      refine ⟨x1.2, fun R2 f2 t2 => ?_⟩
      have x2 : Sx T H R2 := x1.trans ⟨f2, t2⟩
      refine ⟨f, rfl, x, rfl, y, rfl, g, f, tv, x, y, t, m, F', R, W, rfl, hg, hf.sx x2, TabV.kt ht x2.kt, hft, hx.sx x2, hy.sx x2, fun z => (no x2 z).elim, fun _ _ _ _ _ _ _ R3 r3 => .inl ⟨_, "NoWorth", rfl, rfl, MC_NoWorth, fun R4 r4 => ?_⟩, fun _ _ k1 k2 k3 k4 w1 w2 _ => by
          obtain ⟨rfl, rfl⟩ := uq x2 k1 k2
          exact (hz.elim w1 w2).elim, fun _ _ k1 k2 k3 k4 w1 w2 => by
          obtain ⟨rfl, rfl⟩ := uq x2 k1 k2
          exact (hz.elim w1 fun z => w1 (w2.trans z)).elim⟩
      have x4 : Sx T H R4 := x2.trans (Sx.same x2.2 (r3.trans r4))
      walk_at "go"
      refine w_neSame rfl ?_
      walk_at "go"
      refine w_new (by simp) fun L5 R5 hL5 r5 h5 => ?_
      have x5 : Sx T H R5 := x4.trans (Sx.same x4.2 r5)
      refine w_inTwo (b := true) h5 rfl rfl (by decide +kernel) ?_
      walk_at "go"
      refine ⟨x5.2, fun R6 f6 t6 => ?_⟩
      have x6 : Sx T H R6 := x5.trans ⟨f6, t6⟩
      refine ⟨f, rfl, x, rfl, y, rfl, g, f, tv, x, y, t, m, F', R, W, rfl, hg, hf.sx x6, TabV.kt ht x6.kt, hft, hx.sx x6, hy.sx x6, fun z => (no x6 z).elim, fun _ _ _ _ _ _ _ R7 r7 => .inl ⟨_, "NoWorth", rfl, rfl, MC_NoWorth, fun R8 r8 => ?_⟩, fun _ _ k1 k2 k3 k4 w1 w2 => by
          obtain ⟨rfl, rfl⟩ := uq x6 k1 k2
          exact (hz.elim w1 w2).elim⟩
      have x8 : Sx T H R8 := x6.trans (Sx.same x6.2 (r7.trans r8))
      walk_at "go"
      exact w_eqSame rfl (q _ x8)
    · have x1 : Sx T H D1 := Sx.same hT s1
      have no : ∀ {J : Hp}, Sx T H J → (rowOf J g (m : Int) x = false ∨ rowOf J g (m : Int) y = false) → False := fun X h => by
        rw [hx.eq X, hy.eq X, hr2.row hg hr1, hs2.row hg hs1] at h
        rcases h with h | h <;> cases h
      have uq : ∀ {J : Hp}, Sx T H J → ∀ {r2 s2 : List (Int × Int)}, RowV J x r2 → RowV J y s2 → r2 = r ∧ s2 = s' := fun X _ _ k1 k2 => ⟨row_uniq k1 (RowV.kt hr1 X.kt), row_uniq k2 (RowV.kt hs1 X.kt)⟩
      walk_at "go"
      refine ⟨x1.2, fun R2 f2 t2 => ?_⟩
      have x2 : Sx T H R2 := x1.trans ⟨f2, t2⟩
      refine ⟨f, rfl, x, rfl, y, rfl, g, f, tv, x, y, t, m, F', R, W, rfl, hg, hf.sx x2, TabV.kt ht x2.kt, hft, hx.sx x2, hy.sx x2, fun z => (no x2 z).elim, fun _ _ k1 k2 k3 k4 z => by
          obtain ⟨rfl, rfl⟩ := uq x2 k1 k2
          exact (z.elim hw1 hw2).elim, fun _ _ _ _ _ _ _ _ _ R3 r3 => .inl ⟨_, "NoPlace", rfl, rfl, MC_NoPlace, fun R4 r4 => ?_⟩, fun _ _ k1 k2 k3 k4 w1 w2 => by
          obtain ⟨rfl, rfl⟩ := uq x2 k1 k2
          exact (hne w2).elim⟩
      have x4 : Sx T H R4 := x2.trans (Sx.same x2.2 (r3.trans r4))
      walk_at "go"
      refine w_neSame rfl ?_
      walk_at "go"
      refine w_new (by simp) fun L5 R5 hL5 r5 h5 => ?_
      have x5 : Sx T H R5 := x4.trans (Sx.same x4.2 r5)
      refine w_inTwo (b := false) h5 rfl rfl (by decide +kernel) ?_
      walk_at "go"
      refine ⟨x5.2, fun R6 f6 t6 => ?_⟩
      have x6 : Sx T H R6 := x5.trans ⟨f6, t6⟩
      refine ⟨f, rfl, x, rfl, y, rfl, g, f, tv, x, y, t, m, F', R, W, rfl, hg, hf.sx x6, TabV.kt ht x6.kt, hft, hx.sx x6, hy.sx x6, fun z => (no x6 z).elim, fun _ _ k1 k2 k3 k4 z => by
          obtain ⟨rfl, rfl⟩ := uq x6 k1 k2
          exact (z.elim hw1 hw2).elim, fun _ _ _ _ _ _ _ _ _ R8 r8 => ?_⟩
      have x8 : Sx T H R8 := x6.trans (Sx.same x6.2 r8)
      walk_at "go"
      exact ⟨rfl, q _ x8⟩
    · have x1 : Sx T H D1 := Sx.same hT s1
      have no : ∀ {J : Hp}, Sx T H J → (rowOf J g (m : Int) x = false ∨ rowOf J g (m : Int) y = false) → False := fun X h => by
        rw [hx.eq X, hy.eq X, hr2.row hg hr1, hs2.row hg hs1] at h
        rcases h with h | h <;> cases h
      have uq : ∀ {J : Hp}, Sx T H J → ∀ {r2 s2 : List (Int × Int)}, RowV J x r2 → RowV J y s2 → r2 = r ∧ s2 = s' := fun X _ _ k1 k2 => ⟨row_uniq k1 (RowV.kt hr1 X.kt), row_uniq k2 (RowV.kt hs1 X.kt)⟩
      walk_at "go"
      refine ⟨x1.2, fun R2 f2 t2 => ?_⟩
      have x2 : Sx T H R2 := x1.trans ⟨f2, t2⟩
      refine ⟨f, rfl, x, rfl, y, rfl, g, f, tv, x, y, t, m, F', R, W, rfl, hg, hf.sx x2, TabV.kt ht x2.kt, hft, hx.sx x2, hy.sx x2, fun z => (no x2 z).elim, fun _ _ k1 k2 k3 k4 z => by
          obtain ⟨rfl, rfl⟩ := uq x2 k1 k2
          exact (z.elim hw1 hw2).elim, fun _ _ k1 k2 k3 k4 _ _ z => by
          obtain ⟨rfl, rfl⟩ := uq x2 k1 k2
          exact (z heq).elim, fun _ _ _ _ _ _ _ _ _ R4 r4 => ?_⟩
      have x4 : Sx T H R4 := x2.trans (Sx.same x2.2 r4)
      walk_at "go"
      refine w_neSame rfl ?_
      walk_at "go"
      refine w_new (by simp) fun L5 R5 hL5 r5 h5 => ?_
      have x5 : Sx T H R5 := x4.trans (Sx.same x4.2 r5)
      refine w_inTwo (b := false) h5 rfl rfl (by decide +kernel) ?_
      walk_at "go"
      refine ⟨x5.2, fun R6 f6 t6 => ?_⟩
      have x6 : Sx T H R6 := x5.trans ⟨f6, t6⟩
      refine ⟨f, rfl, x, rfl, y, rfl, g, f, tv, x, y, t, m, F', R, W, rfl, hg, hf.sx x6, TabV.kt ht x6.kt, hft, hx.sx x6, hy.sx x6, fun z => (no x6 z).elim, fun _ _ k1 k2 k3 k4 z => by
          obtain ⟨rfl, rfl⟩ := uq x6 k1 k2
          exact (z.elim hw1 hw2).elim, fun _ _ _ _ _ _ _ _ _ R8 r8 => ?_⟩
      have x8 : Sx T H R8 := x6.trans (Sx.same x6.2 r8)
      walk_at "go"
      exact ⟨rfl, q _ x8⟩
theorem ok_law {f : Addr} {fd : FuncData} (F : FnP K "law" s_law f fd)
    {f__law_bag : Addr} {fd__law_bag : FuncData} (F__law_bag : FnP K "_law_bag" s__law_bag f__law_bag fd__law_bag) (b__law_bag : Binds K fd__law_bag ["_law_script", "_law_at"] []) (g__law_bag : mg "_law_bag" = some (.ref f__law_bag)) (G__law_bag : FnOk P w K mg base CX0 1 f__law_bag fd__law_bag ["_law_script", "_law_at"] (sp__law_bag K))
    {f__law_ground : Addr} {fd__law_ground : FuncData} (F__law_ground : FnP K "_law_ground" s__law_ground f__law_ground fd__law_ground) (b__law_ground : Binds K fd__law_ground ["_law_bag_here"] []) (g__law_ground : mg "_law_ground" = some (.ref f__law_ground)) (G__law_ground : FnOk P w K mg base CX0 2 f__law_ground fd__law_ground ["_law_bag_here"] (sp__law_ground K))
    {f__law_letters : Addr} {fd__law_letters : FuncData} (F__law_letters : FnP K "_law_letters" s__law_letters f__law_letters fd__law_letters) (b__law_letters : Binds K fd__law_letters ["_law_bag_here", "_law_g"] []) (g__law_letters : mg "_law_letters" = some (.ref f__law_letters)) (G__law_letters : FnOk P w K mg base CX0 2 f__law_letters fd__law_letters ["_law_bag_here", "_law_g"] (sp__law_letters K))
    {f__law_form : Addr} {fd__law_form : FuncData} (F__law_form : FnP K "_law_form" s__law_form f__law_form fd__law_form) (b__law_form : Binds K fd__law_form ["_law_bag_here", "_law_g", "_law_many"] []) (g__law_form : mg "_law_form" = some (.ref f__law_form)) (G__law_form : FnOk P w K mg base CX0 8 f__law_form fd__law_form ["_law_bag_here", "_law_g", "_law_many"] (sp__law_form K))
    {f__law_with_worth : Addr} {fd__law_with_worth : FuncData} (F__law_with_worth : FnP K "_law_with_worth" s__law_with_worth f__law_with_worth fd__law_with_worth) (b__law_with_worth : Binds K fd__law_with_worth ["_law_bag_here", "_law_g", "_law_table"] []) (g__law_with_worth : mg "_law_with_worth" = some (.ref f__law_with_worth)) (G__law_with_worth : FnOk P w K mg base CX0 8 f__law_with_worth fd__law_with_worth ["_law_bag_here", "_law_g", "_law_table"] (sp__law_with_worth K))
    {f__law_added : Addr} {fd__law_added : FuncData} (F__law_added : FnP K "_law_added" s__law_added f__law_added fd__law_added) (b__law_added : Binds K fd__law_added ["_law_g", "_law_row_here", "_law_other"] []) (g__law_added : mg "_law_added" = some (.ref f__law_added)) (G__law_added : FnOk P w K mg base CX0 4 f__law_added fd__law_added ["_law_g", "_law_row_here", "_law_other"] (sp__law_added K))
    {f__law_scaled : Addr} {fd__law_scaled : FuncData} (F__law_scaled : FnP K "_law_scaled" s__law_scaled f__law_scaled fd__law_scaled) (b__law_scaled : Binds K fd__law_scaled ["_law_g", "_law_row_here", "_law_x"] []) (g__law_scaled : mg "_law_scaled" = some (.ref f__law_scaled)) (G__law_scaled : FnOk P w K mg base CX0 4 f__law_scaled fd__law_scaled ["_law_g", "_law_row_here", "_law_x"] (sp__law_scaled K))
    {f__law_row : Addr} {fd__law_row : FuncData} (F__law_row : FnP K "_law_row" s__law_row f__law_row fd__law_row) (b__law_row : Binds K fd__law_row ["_law_bag_here", "_law_g", "_law_many"] []) (g__law_row : mg "_law_row" = some (.ref f__law_row)) (G__law_row : FnOk P w K mg base CX0 4 f__law_row fd__law_row ["_law_bag_here", "_law_g", "_law_many"] (sp__law_row K))
    {f__law_minus : Addr} {fd__law_minus : FuncData} (F__law_minus : FnP K "_law_minus" s__law_minus f__law_minus fd__law_minus) (b__law_minus : Binds K fd__law_minus ["_law_g", "_law_x"] []) (g__law_minus : mg "_law_minus" = some (.ref f__law_minus)) (G__law_minus : FnOk P w K mg base CX0 3 f__law_minus fd__law_minus ["_law_g", "_law_x"] (sp__law_minus K))
    {f__law_low : Addr} {fd__law_low : FuncData} (F__law_low : FnP K "_law_low" s__law_low f__law_low fd__law_low) (b__law_low : Binds K fd__law_low ["_law_g", "_law_up", "_law_down"] []) (g__law_low : mg "_law_low" = some (.ref f__law_low)) (G__law_low : FnOk P w K mg base CX0 2 f__law_low fd__law_low ["_law_g", "_law_up", "_law_down"] (sp__law_low K))
    {f__law_odd_row : Addr} {fd__law_odd_row : FuncData} (F__law_odd_row : FnP K "_law_odd_row" s__law_odd_row f__law_odd_row fd__law_odd_row) (b__law_odd_row : Binds K fd__law_odd_row ["_law_bag_here", "_law_g", "_law_row_here"] []) (g__law_odd_row : mg "_law_odd_row" = some (.ref f__law_odd_row)) (G__law_odd_row : FnOk P w K mg base CX0 3 f__law_odd_row fd__law_odd_row ["_law_bag_here", "_law_g", "_law_row_here"] (sp__law_odd_row K))
    {f__law_is_refused : Addr} {fd__law_is_refused : FuncData} (F__law_is_refused : FnP K "_law_is_refused" s__law_is_refused f__law_is_refused fd__law_is_refused) (b__law_is_refused : Binds K fd__law_is_refused ["_law_form_here", "_law_g", "_law_table", "_law_row_here", "_law_other"] []) (g__law_is_refused : mg "_law_is_refused" = some (.ref f__law_is_refused)) (G__law_is_refused : FnOk P w K mg base CX0 11 f__law_is_refused fd__law_is_refused ["_law_form_here", "_law_g", "_law_table", "_law_row_here", "_law_other"] (sp__law_is_refused K T))
    {f_Form___init__ : Addr} {fd_Form___init__ : FuncData} (F_Form___init__ : FunD K "__init__" "Form.__init__" (defArgs s_Form___init__) (defBody s_Form___init__) (defScope s_Form___init__) [.int 0] [] f_Form___init__ fd_Form___init__) (M_Form : Mk K (He.ga K "Form") f_Form___init__) (gc_Form : mg "Form" = some (.ref (He.ga K "Form"))) (kb_Form_1_ground : L2.KBn K fd_Form___init__ ["self", "table", "ground"] 2 ["ground"] (fun us ws => us ++ ws) (fun us ws => us ++ ws)) (G_Form___init__ : FnOk P w K mg base CX0 6 f_Form___init__ fd_Form___init__ ["self", "table", "ground"] (sp_Form___init__ K)) (m_range : mg "range" = none) (m_max : mg "max" = none) (m_min : mg "min" = none) (m_tuple : mg "tuple" = none) (m_len : mg "len" = none) (m_all : mg "all" = none) :
    FnOk P w K mg base CX0 12 f fd ["_law_script"] (sp_law K T) := by
  refine F.ok sc_law (fun vs H Q E h => ?_) (fun cdv A outer s H vs Q E hr h => ?_)
  · obtain ⟨a, ns, rfl, hA, hT, q⟩ := h
    rfl
  · obtain ⟨a, ns, rfl, hA, hT, q⟩ := h
    refine ⟨_, PSs.nox (pss_cons (ps_for PassesOwn.never rfl (pi_range1 (by rfl) m_range (pa_cons (pe_callB (call_max2 rfl) (by rfl) m_max (by decide +kernel) (pa_cons pe_int (pa_cons (pe_callB (call_min2 rfl) (by rfl) m_min (by decide +kernel) (pa_cons pe_int (pa_cons (pe_callB call_len_seq (by rfl) m_len (by decide +kernel) (pa_cons (pv 0) pa_nil)) pa_nil))) pa_nil))) pa_nil)) (pg_name (i := 1) sc_law.nd rfl (.inl rfl)) (pss_cons (ps_set (i := 2) sc_law.nd rfl (.inr rfl) (pe_call G__law_bag (hr.mono (by decide)) (by rfl) g__law_bag F__law_bag.kp b__law_bag .nil pass0 (pa_cons (pv 0) (pa_cons (pv 1) pa_nil))))
        (pss_cons (ps_set (i := 3) sc_law.nd rfl (.inr rfl) (pe_call G__law_ground (hr.mono (by decide)) (by rfl) g__law_ground F__law_ground.kp b__law_ground .nil pass0 (pa_cons (pv 2) pa_nil)))
        (pss_cons (ps_set (i := 4) sc_law.nd rfl (.inl rfl) (pe_call G__law_letters (hr.mono (by decide)) (by rfl) g__law_letters F__law_letters.kp b__law_letters .nil pass0 (pa_cons (pv 2) (pa_cons (pv 3) pa_nil))))
        (pss_cons (ps_set (i := 5) sc_law.nd rfl (.inr rfl) (pe_call G__law_form (hr.mono (by decide)) (by rfl) g__law_form F__law_form.kp b__law_form .nil pass0 (pa_cons (pv 2) (pa_cons (pv 3) (pa_cons (pv 4) pa_nil)))))
        (pss_cons (ps_set (i := 6) sc_law.nd rfl (.inr rfl) (pe_makeN M_Form G_Form___init__ (hr.mono (by decide)) (by rfl) gc_Form kb_Form_1_ground pass0 (pa_cons (pv 5) pa_nil) (pk_cons (pv 3) pk_nil)))
        (pss_cons (ps_set (i := 7) sc_law.nd rfl (.inr rfl) (pe_call G__law_with_worth (hr.mono (by decide)) (by rfl) g__law_with_worth F__law_with_worth.kp b__law_with_worth .nil pass0 (pa_cons (pv 2) (pa_cons (pv 3) (pa_cons (pv 5) pa_nil)))))
        (pss_cons (ps_set (i := 8) sc_law.nd rfl (.inl rfl) (pe_call G__law_added (hr.mono (by decide)) (by rfl) g__law_added F__law_added.kp b__law_added .nil pass0 (pa_cons (pv 3) (pa_cons (pv 7) (pa_cons (pe_call G__law_scaled (hr.mono (by decide)) (by rfl) g__law_scaled F__law_scaled.kp b__law_scaled .nil pass0 (pa_cons (pv 3) (pa_cons (pe_call G__law_with_worth (hr.mono (by decide)) (by rfl) g__law_with_worth F__law_with_worth.kp b__law_with_worth .nil pass0 (pa_cons (pv 2) (pa_cons (pv 3) (pa_cons (pv 5) pa_nil)))) (pa_cons (pe_call G__law_minus (hr.mono (by decide)) (by rfl) g__law_minus F__law_minus.kp b__law_minus .nil pass0 (pa_cons (pv 3) (pa_cons (pe_tup (pa_cons pe_int (pa_cons pe_int pa_nil))) pa_nil))) pa_nil)))) pa_nil)))))
        (pss_cons (ps_set (i := 9) sc_law.nd rfl (.inl rfl) (pe_lst (pa_cons (pv 7) (pa_cons (pe_callTy call_tuple_of (by rfl) m_tuple (by decide +kernel) (pa_cons (pe_op op_rep (pe_lst (pa_cons (pe_tup (pa_cons pe_int (pa_cons pe_int pa_nil))) pa_nil)) (pv 4)) pa_nil)) (pa_cons (pv 8) (pa_cons (pe_call G__law_row (hr.mono (by decide)) (by rfl) g__law_row F__law_row.kp b__law_row .nil pass0 (pa_cons (pv 2) (pa_cons (pv 3) (pa_cons (pv 4) pa_nil)))) (pa_cons (pe_call G__law_scaled (hr.mono (by decide)) (by rfl) g__law_scaled F__law_scaled.kp b__law_scaled .nil pass0 (pa_cons (pv 3) (pa_cons (pv 7) (pa_cons (pe_call G__law_low (hr.mono (by decide)) (by rfl) g__law_low F__law_low.kp b__law_low .nil pass0 (pa_cons (pv 3) (pa_cons pe_int (pa_cons pe_int pa_nil)))) pa_nil)))) pa_nil)))))))
        (pss_cons (ps_set (i := 9) sc_law.nd rfl (.inl rfl) (pe_op op_cat (pv 9) (pe_lc (own := [("_law_turn", 11)]) (g := gName 11) (tt := tYes) (by rfl) sc_law.nd (pi_range1 (by rfl) m_range (pa_cons pe_int pa_nil)) (blkOk_by (own := [("_law_turn", 11)]) (N := ["_law_script", "_law_k", "_law_bag_here", "_law_g", "_law_many", "_law_table", "_law_form_here", "_law_row_here", "_law_gap", "_law_some", "_law_one", "_law_turn", "_law_two"]) (sc := defScope s_law) (by decide +kernel)) (fun _ _ _ _ _ => (pg_name (i := 11) sc_law.nd rfl (.inl rfl))) (fun _ _ _ _ _ => pts_nil) (fun _ _ _ _ _ => (pe_call G__law_odd_row (hr.mono (by decide)) (by rfl) g__law_odd_row F__law_odd_row.kp b__law_odd_row .nil pass0 (pa_cons (pv 2) (pa_cons (pv 3) (pa_cons (pv 7) pa_nil))))))))
        (pss_one (ps_for PassesOwn.never rfl (pi_list (pv 9)) (pg_name (i := 10) sc_law.nd rfl (.inr rfl)) (pss_one (ps_if (pt_not (pt_val (pe_callB (cr_all rfl) (by rfl) m_all (by decide +kernel) (pa_cons (pe_lc (own := [("_law_two", 12)]) (g := gName 12) (tt := tYes) (by rfl) sc_law.nd (pi_list (pv 9)) (blkOk_by (own := [("_law_two", 12)]) (N := ["_law_script", "_law_k", "_law_bag_here", "_law_g", "_law_many", "_law_table", "_law_form_here", "_law_row_here", "_law_gap", "_law_some", "_law_one", "_law_turn", "_law_two"]) (sc := defScope s_law) (by decide +kernel)) (fun _ _ _ _ _ => (pg_name (i := 12) sc_law.nd rfl (.inl rfl))) (fun _ _ _ _ _ => pts_nil) (fun _ _ _ _ _ => (pe_call G__law_is_refused hr (by rfl) g__law_is_refused F__law_is_refused.kp b__law_is_refused .nil pass0 (pa_cons (pv 6) (pa_cons (pv 3) (pa_cons (pv 5) (pa_cons (pv 10) (pa_cons (pv 12) pa_nil)))))))) pa_nil)))) (pss_one (ps_ret pe_bl)) pss_nil))))))))))))))
        (pss_one (ps_ret pe_bl))), ?_⟩
    walk_at "go"
    refine ⟨a, _, rfl, .inl hA, ?_⟩
    walk_at "go"
    refine ⟨by split <;> (try split) <;> omega, by split <;> (try split) <;> omega, ?_⟩
    refine for_range (fun i σ H' => (∃ y1 y2 y3 y4 y5 y6 y7 y8 y9 y10 y11 y12, σ = [some (.ref a), y1, y2, y3, y4, y5, y6, y7, y8, y9, y10, y11, y12]) ∧ Sx T H H') ⟨⟨_, _, _, _, _, _, _, _, _, _, _, _, rfl⟩, Sx.refl hT⟩ (fun i σ Hs hi hP => ?_) (fun σ H' hP => ?_)
    · have hi6 : i < 6 := by
        revert hi
        split <;> (try split) <;> omega
      clear hi
      obtain ⟨⟨y1, y2, y3, y4, y5, y6, y7, y8, y9, y10, y11, y12, rfl⟩, sm⟩ := hP
      walk_at "go"
      refine ⟨a, ns, 0 + i, rfl, sql_ext hA sm, by omega, by omega, fun b H2 hb0 s2 hb2 => ?_⟩
      have x2 : Sx T Hs H2 := Sx.same sm.2 s2
      walk_at "go"
      refine ⟨b, rfl, hb2, fun H3 g hgr m3 hb3 => ?_⟩
      have hg := hgr.two
      have ⟨hg0, hg13⟩ := hgr.bd
      obtain ⟨F', R, ⟨W⟩⟩ := gv_any hg
      walk_at "go"
      refine ⟨b, g, rfl, hgr, hb3, fun H4 m hm1 hm hmw m4 hb4 => ?_⟩
      walk_at "go"
      refine ⟨b, g, m, F', R, W, rfl, hgr, hb4, hm1, hm, fun H5 tv t ht hf m5 hb5 => ?_⟩
      have hft : FT g t m := ⟨hf.len, hm1, hm, hf.row⟩
      walk_at "go"
      refine ⟨rfl, rfl, form_mk (a := 44) (W := W) hg ht hf hm1 hm hmw (by decide) (by decide) (by decide) (by decide) (by decide) fun f H6 s6 h6 => ?_⟩
      have hb6 := hb5.same s6
      have m26 : Mv b H2 H6 := m3.trans (m4.trans (m5.trans (Mv.same s6)))
      have ht6 := TabV.kt ht (Kt.of s6)
      walk_at "go"
      refine ⟨b, g, tv, t, m, F', R, W, rfl, hgr, hb6, ht6, hf, hm1, hm, fun H7 x r hx hrz hw m7 hb7 => ?_⟩
      have k67 := m7.kt hb6
      walk_at "go"
      refine ⟨b, g, tv, t, m, F', R, W, rfl, hgr, hb7, TabV.kt ht6 k67, hf, hm1, hm, fun H8 x8 r8 hx8 hrz8 hw8 m8 hb8 => ?_⟩
      have k78 := m8.kt hb7
      have tbe : ∀ {u : List (Int × Int)}, RZ g 2520 161280 m u → ∀ a ∈ u, PBe a := fun h => h.be hg (k := 20) (by decide) (by decide) (by decide) (by decide) (by decide)
      walk_at "go"
      refine w_new (by simp) fun p9 H9 hp9 s9 h9 => ?_
      walk_at "go"
      refine ⟨g, .ref p9, (1, 1), rfl, hg0, hg13, ⟨p9, rfl, h9⟩, one8000, by decide, fun p10 H10 hp10 s10 h10 => ?_⟩
      have tnm := tn_minus hg (tn_one hg) (Nat.le_refl 4)
      have tzm := (TZ.one hg).minus hg
      walk_at "go"
      refine ⟨g, x8, .ref p10, r8, _, rfl, hg0, hg13, RowV.kt hx8 (Kt.of (s9.trans s10)), ⟨p10, rfl, h10⟩, by rw [hrz8.1]; omega, tbe hrz8, tnm.be (by decide), fun v11 H11 s11 h11 => ?_⟩
      have rz11 := rz_times hg hrz8 tzm
      rw [Int.mul_one, Nat.mul_one] at rz11
      have s811 := s9.trans (s10.trans s11)
      walk_at "go"
      refine ⟨g, x, v11, r, _, rfl, hg0, hg13, RowV.kt (RowV.kt hx k78) (Kt.of s811), h11, by rw [hrz.1, rz11.1], by rw [hrz.1]; omega, tbe hrz, tbe rz11, fun v12 H12 s12 h12 => ?_⟩
      have rz12 : BR g m _ := rz_plus hg hrz rz11
      have s812 := s811.trans s12
      walk_at "go"
      refine w_new (by simp) fun p13 H13 hp13 s13 h13 => ?_
      walk_at "go"
      refine w_new (by simp) fun p14 H14 hp14 s14 h14 => ?_
      walk_at "go"
      refine w_rep h14 (by omega) (by omega) (by simp) ?_
      refine w_newO fun p15 H15 hp15 s15 h15 => ?_
      walk_at "go"
      refine ⟨_, _, rfl, .inl ⟨SqL.of h15, fun p16 hp16 => ?_⟩⟩
      rw [Int.toNat_natCast]
      have s16 := same_upd (o := HO.tup (List.replicate m [V.ref p13]).flatten) hp16
      have h16 : (upd H15 p16 (.tup (List.replicate m [V.ref p13]).flatten)) p16 = some (.tup (List.replicate m [V.ref p13]).flatten) := upd_same
      generalize upd H15 p16 (.tup (List.replicate m [V.ref p13]).flatten) = H16 at s16 h16 ⊢
      have hz16 := row_zeros (s16 _ _ (s15 _ _ (s14 _ _ h13))) h16
      have s1216 := s13.trans (s14.trans (s15.trans s16))
      have s816 := s812.trans s1216
      have hb16 := hb8.same s816
      walk_at "go"
      refine ⟨b, g, m, rfl, hgr, by omega, by omega, hb16, fun H17 v17 r17 h17 hl17 hn17 m17 hb17 => ?_⟩
      have k17 := m17.kt hb16
      have kd17 : Kd H16 H17 := Kd.mv m17 hb16 hb17
      have rz17 : RZ g 2520 161280 m r17 := ⟨by rw [hl17, Int.toNat_natCast], fun a ha => ng_tz hg (hn17 a ha).1 (hn17 a ha).2⟩
      walk_at "go"
      refine ⟨g, 2, 1, rfl, hg0, hg13, by decide, one8000, fun p18 H18 hp18 s18 h18 => ?_⟩
      have tz2 := tz_lowU hg (u := 2) (k := 4) (by decide) (by decide)
      have hx18 : RowV H18 x r := RowV.kt hx (k78.trans ((Kt.of s816).trans (k17.trans (Kt.of s18))))
      walk_at "go"
      refine ⟨g, x, .ref p18, r, _, rfl, hg0, hg13, hx18, ⟨p18, rfl, h18⟩, by rw [hrz.1]; omega, tbe hrz, tz2.2.be (by decide), fun v19 H19 s19 h19 => ?_⟩
      have rz19 : BR g m (r.map fun a => timesF g a (lowF g 2 1)) := by
        have := rz_times hg hrz tz2.1
        rw [Int.mul_one] at this
        exact this
      walk_at "go"
      refine w_new (by simp) fun L H20 hL s20 h20 => ?_
      have s1720 := s18.trans (s19.trans s20)
      have hb20 := hb17.same s1720
      have m820 : Mv b H8 H20 := (Mv.same s816).trans (m17.trans (Mv.same s1720))
      have m220 : Mv b H2 H20 := m26.trans (m7.trans (m8.trans m820))
      have x20 : Sx T Hs H20 := x2.mv hb0 hb2 m220
      have k820 : Kt H8 H20 := m820.kt hb8
      have k620 : Kt H6 H20 := k67.trans (k78.trans k820)
      have kd1720 := Kd.of s1720
      have f20 : FormV K H20 (.ref f) g tv := ((h6.mv m7 hb6).mv m8 hb7).mv m820 hb8
      have hx20 : RowV H20 x r := RowV.kt hx (k78.trans k820)
      have all20 : ∀ v ∈ [x, V.ref p16, v12, v17, v19], SRow H20 g m v := fun v hv => by
        simp only [List.mem_cons, List.not_mem_nil, or_false] at hv
        rcases hv with rfl | rfl | rfl | rfl | rfl
        · exact SRow.of hg hm hx20 (hrz.mono (by decide))
        · exact SRow.of hg hm (RowV.kt hz16 (k17.trans (Kt.of s1720))) (rz_zero hg)
        · exact SRow.of hg hm (RowV.kt h12 ((Kt.of s1216).trans (k17.trans (Kt.of s1720)))) rz12
        · exact SRow.of hg hm (RowV.kt h17 (Kt.of s1720)) (rz17.mono (by decide))
        · exact SRow.of hg hm (RowV.kt h19 (Kt.of s20)) rz19
      have hLb : L ≠ b := bag_ne (hb17.same (s18.trans s19)) hL
      walk_at "go"
      refine ⟨by decide, by decide, fun D hD => ?_⟩
      have hDb : D ≠ b := bag_ne hb20 hD
      refine lc_range (fun n H'' => Mv b H20 H'' ∧ Bag H'' b ∧ Kd H20 H'' ∧ ∃ ys, H'' D = some (.lst ys) ∧ ys.length = n ∧ ∀ y ∈ ys, SRow H'' g m y) ⟨Mv.same (same_upd hD), hb20.same (same_upd hD), Kd.of (same_upd hD), [], upd_same, rfl, fun y hy => by cases hy⟩ (fun n H'' hn hP => ?_) (fun J21 hP => ?_)
      · obtain ⟨mn, hbn, kn, ys, hDn, hyl, hys⟩ := hP
        have hn4 : n < 4 := hn
        walk_at "go"
        refine ⟨rfl, ?_⟩
        walk_at "go"
        refine ⟨b, g, x, r, m, rfl, hgr, hbn, RowV.kt hx20 kn.1, hrz, hm1, hm, fun H21 v21 h21 m21 hb21 => ?_⟩
        have hD21 := m21 _ _ hDb hDn
        have kd21 : Kd H'' H21 := Kd.mv m21 hbn hb21
        have kdu : Kd H21 (upd H21 D (.lst (ys ++ [v21]))) := kd_updL hD21
        refine ⟨ys, hD21, small1000 (by omega), Mv.updD (mn.trans m21) hD, hb21.upd hDb, kn.trans (kd21.trans kdu), _, upd_same, by rw [List.length_append, hyl]; rfl, fun y hy => ?_⟩
        rcases List.mem_append.mp hy with h | h
        · exact (hys y h).kd (kd21.trans kdu)
        · rw [List.mem_singleton.mp h]
          exact h21.kd kdu
      obtain ⟨m21, hb21, kd21, ys, hD21, hyl, hys⟩ := hP
      refine w_cat (m21 _ _ hLb h20) hD21 (by simp; omega) ?_
      refine w_newO fun LS H22 hLS s22 h22 => ?_
      have x21 : Sx T Hs J21 := x2.mv hb0 hb2 (m220.trans m21)
      have x22 : Sx T Hs H22 := x21.trans (Sx.same x21.2 s22)
      have hall : ∀ v ∈ [x, V.ref p16, v12, v17, v19] ++ ys, SRow H22 g m v := fun v hv => by
        rcases List.mem_append.mp hv with h | h
        · exact (all20 v h).kd (kd21.trans (Kd.of s22))
        · exact (hys v h).sm s22
      have f22 : FormV K H22 (.ref f) g tv := (f20.mv m21 hb20).sm s22
      have ht22 : TabV H22 tv t := TabV.kt ht6 (k620.trans (kd21.1.trans (Kt.of s22)))
      have hSS : ([x, V.ref p16, v12, v17, v19] ++ ys).length = 9 := by simp; omega
      generalize [x, V.ref p16, v12, v17, v19] ++ ys = SS at h22 hall hSS
      walk_at "go"
      refine ⟨LS, rfl, ⟨_, SqL.of h22⟩, ?_⟩
      refine for_list (xs := SS) (fun j σ H' => (∃ y1 y4 y7 y8 y10 y11 y12, σ = [some (.ref a), y1, some (.ref b), some (.int g), y4, some tv, some (.ref f), y7, y8, some (.ref LS), y10, y11, y12]) ∧ Sx T H22 H') ⟨⟨_, _, _, _, _, _, _, rfl⟩, Sx.refl x22.2⟩ (fun j σ H' _ hP => SqL.of (hP.2.lst h22)) (fun j v σ H23 hvj hP => ?_) (fun σ H23 hP => ?_)
      · obtain ⟨⟨z1, z4, z7, z8, z10, z11, z12, rfl⟩, x23⟩ := hP
        have hv := hall v (List.mem_of_getElem? hvj)
        walk_at "go"
        refine ⟨LS, rfl, ⟨_, SqL.of (x23.lst h22)⟩, fun D hD => ?_⟩
        have xD : Sx T H23 (upd H23 D (.lst [])) := Sx.same x23.2 (same_upd hD)
        refine lc_list (xs := SS) (fun n H'' => Sx T H23 H'' ∧ H'' D = some (.lst ((List.replicate n true).map V.bl))) ⟨xD, upd_same⟩ (fun n H'' _ hP => SqL.of (hP.1.lst (x23.lst h22))) (fun n z H'' hz hP => ?_) (fun J24 hP => ?_)
        · obtain ⟨sn, hD'⟩ := hP
          have hn9 : n < SS.length := (List.getElem?_eq_some_iff.mp hz).1
          have xx := x23.trans sn
          walk_at "go"
          refine ⟨rfl, ?_⟩
          walk_at "go"
          refine ⟨g, .ref f, tv, v, z, t, m, F', R, W, rfl, hg, f22.sx xx, TabV.kt ht22 xx.kt, hft, hv.sx xx, (hall z (List.mem_of_getElem? hz)).sx xx, xx.2, fun H25 x25 => ?_⟩
          have hD5 := x25.lst hD'
          refine ⟨_, hD5, ?_, (sn.trans x25).updD hD hD5, ?_⟩
          · rw [List.length_map, List.length_replicate]
            exact small1000 (by omega)
          · rw [upd_same, List.replicate_succ', List.map_append]
            rfl
        · obtain ⟨k2, hD'⟩ := hP
          walk_at "go"
          refine ⟨D, _, rfl, SqL.of hD', ?_⟩
          rw [all_true]
          walk_at "go"
          refine iteF ?_
          walk_at "go"
          exact ⟨⟨_, _, _, _, _, _, _, rfl⟩, x23.trans k2⟩
      · obtain ⟨⟨z1, z4, z7, z8, z10, z11, z12, rfl⟩, x23⟩ := hP
        walk_at "go"
        exact ⟨⟨_, _, _, _, _, _, _, _, _, _, _, _, rfl⟩, sm.trans (x22.trans x23)⟩
    · obtain ⟨⟨y1, y2, y3, y4, y5, y6, y7, y8, y9, y10, y11, y12, rfl⟩, sm⟩ := hP
      walk_at "go"
      exact q _

def lamTabs (K : PySem.W.Frag) : List (Addr × Str) := [((He.cT K ("_law_is_refused", none)).2, ((envOfC "_law_is_refused" (defScope s__law_is_refused) 0 0 .none).qual ++ "<lambda>"))]
theorem facts {w : World} {K : PySem.W.Frag} {h : Heap} {mg : Str → Option Value} {f : Addr} (X : K.In h) (G : h.Ns mainGlobals mg) (hfa : mg ("law" : Str) = some (.ref f)) (c2 : He.SaysX fa fn [] tf exB w h K) :
    ∃ fd : FuncData, (∀ (s : Shared) (v : Value), BindsTo s fd ⟨[v], []⟩ [("_law_script", v)]) ∧ ∀ base : Heap, K.In base → base.Ns mainGlobals mg → (∀ p ∈ tf.map (He.cT K), LamX.TabB base mg p.1 p.2) → FnOk PP w K mg base CX0 12 f fd ["_law_script"] (sp_law K (lamTabs K)) := by
  have c : He.SaysD fa fn K := c2.t.d
  have cm : exB K = true := c2.more
  have gc_Form := He.glo_ok X G (c.fact 87 (f := .glo "Form") rfl)
  have M_Form := He.mkr_ok (c.fact 89 (f := .mkr "Form") rfl)
  have CF : FormC K := ⟨He.cls_ok (c.fact 88 (f := .cls "Form") rfl), He.noat_ok (c.fact 90 (f := .noat "Form" "table") rfl), He.noat_ok (c.fact 91 (f := .noat "Form" "ground") rfl)⟩
  obtain ⟨fd_is_whole, F_is_whole⟩ := c.def_ 0 (d := d_is_whole) rfl
  have g_is_whole := He.glo_ok X G (c.fact 0 (f := .glo "is_whole") rfl)
  have b_is_whole : L2.Binds K fd_is_whole ["thing"] [] := FunD.bindsN (ps := ["thing"]) F_is_whole fun _ _ _ _ _ _ us hl => match us, hl with | [_], _ => rfl
  obtain ⟨fd_common_divisor, F_common_divisor⟩ := c.def_ 1 (d := d_common_divisor) rfl
  have g_common_divisor := He.glo_ok X G (c.fact 1 (f := .glo "common_divisor") rfl)
  have b_common_divisor : L2.Binds K fd_common_divisor ["a", "b"] [] := FunD.bindsN (ps := ["a", "b"]) F_common_divisor fun _ _ _ _ _ _ us hl => match us, hl with | [_, _], _ => rfl
  obtain ⟨fd_whole_root, F_whole_root⟩ := c.def_ 2 (d := d_whole_root) rfl
  have g_whole_root := He.glo_ok X G (c.fact 2 (f := .glo "whole_root") rfl)
  have b_whole_root : L2.Binds K fd_whole_root ["square"] [] := FunD.bindsN (ps := ["square"]) F_whole_root fun _ _ _ _ _ _ us hl => match us, hl with | [_], _ => rfl
  obtain ⟨fd_is_ground, F_is_ground⟩ := c.def_ 3 (d := d_is_ground) rfl
  have g_is_ground := He.glo_ok X G (c.fact 3 (f := .glo "is_ground") rfl)
  have b_is_ground : L2.Binds K fd_is_ground ["thing"] [] := FunD.bindsN (ps := ["thing"]) F_is_ground fun _ _ _ _ _ _ us hl => match us, hl with | [_], _ => rfl
  obtain ⟨fd_is_number, F_is_number⟩ := c.def_ 4 (d := d_is_number) rfl
  have g_is_number := He.glo_ok X G (c.fact 4 (f := .glo "is_number") rfl)
  have b_is_number : L2.Binds K fd_is_number ["ground", "thing"] [] := FunD.bindsN (ps := ["ground", "thing"]) F_is_number fun _ _ _ _ _ _ us hl => match us, hl with | [_, _], _ => rfl
  obtain ⟨fd_lowest, F_lowest⟩ := c.def_ 5 (d := d_lowest) rfl
  have g_lowest := He.glo_ok X G (c.fact 5 (f := .glo "lowest") rfl)
  have b_lowest : L2.Binds K fd_lowest ["ground", "top", "bottom"] [] := FunD.bindsN (ps := ["ground", "top", "bottom"]) F_lowest fun _ _ _ _ _ _ us hl => match us, hl with | [_, _, _], _ => rfl
  obtain ⟨fd_wheel_back, F_wheel_back⟩ := c.def_ 6 (d := d_wheel_back) rfl
  have g_wheel_back := He.glo_ok X G (c.fact 6 (f := .glo "wheel_back") rfl)
  have b_wheel_back : L2.Binds K fd_wheel_back ["wheel", "whole"] [] := FunD.bindsN (ps := ["wheel", "whole"]) F_wheel_back fun _ _ _ _ _ _ us hl => match us, hl with | [_, _], _ => rfl
  obtain ⟨fd_plus, F_plus⟩ := c.def_ 7 (d := d_plus) rfl
  have g_plus := He.glo_ok X G (c.fact 7 (f := .glo "plus") rfl)
  have b_plus : L2.Binds K fd_plus ["ground", "x", "y"] [] := FunD.bindsN (ps := ["ground", "x", "y"]) F_plus fun _ _ _ _ _ _ us hl => match us, hl with | [_, _, _], _ => rfl
  obtain ⟨fd_less, F_less⟩ := c.def_ 8 (d := d_less) rfl
  have g_less := He.glo_ok X G (c.fact 8 (f := .glo "less") rfl)
  have b_less : L2.Binds K fd_less ["ground", "x", "y"] [] := FunD.bindsN (ps := ["ground", "x", "y"]) F_less fun _ _ _ _ _ _ us hl => match us, hl with | [_, _, _], _ => rfl
  obtain ⟨fd_times, F_times⟩ := c.def_ 9 (d := d_times) rfl
  have g_times := He.glo_ok X G (c.fact 9 (f := .glo "times") rfl)
  have b_times : L2.Binds K fd_times ["ground", "x", "y"] [] := FunD.bindsN (ps := ["ground", "x", "y"]) F_times fun _ _ _ _ _ _ us hl => match us, hl with | [_, _, _], _ => rfl
  obtain ⟨fd_over, F_over⟩ := c.def_ 10 (d := d_over) rfl
  have g_over := He.glo_ok X G (c.fact 10 (f := .glo "over") rfl)
  have b_over : L2.Binds K fd_over ["ground", "x", "y"] [] := FunD.bindsN (ps := ["ground", "x", "y"]) F_over fun _ _ _ _ _ _ us hl => match us, hl with | [_, _, _], _ => rfl
  obtain ⟨fd_root_or_none, F_root_or_none⟩ := c.def_ 11 (d := d_root_or_none) rfl
  have g_root_or_none := He.glo_ok X G (c.fact 11 (f := .glo "root_or_none") rfl)
  have b_root_or_none : L2.Binds K fd_root_or_none ["ground", "x"] [] := FunD.bindsN (ps := ["ground", "x"]) F_root_or_none fun _ _ _ _ _ _ us hl => match us, hl with | [_, _], _ => rfl
  obtain ⟨fd_fraction_root, F_fraction_root⟩ := c.def_ 12 (d := d_fraction_root) rfl
  have g_fraction_root := He.glo_ok X G (c.fact 12 (f := .glo "fraction_root") rfl)
  have b_fraction_root : L2.Binds K fd_fraction_root ["x"] [] := FunD.bindsN (ps := ["x"]) F_fraction_root fun _ _ _ _ _ _ us hl => match us, hl with | [_], _ => rfl
  obtain ⟨fd_wheel_root, F_wheel_root⟩ := c.def_ 13 (d := d_wheel_root) rfl
  have g_wheel_root := He.glo_ok X G (c.fact 13 (f := .glo "wheel_root") rfl)
  have b_wheel_root : L2.Binds K fd_wheel_root ["wheel", "x"] [] := FunD.bindsN (ps := ["wheel", "x"]) F_wheel_root fun _ _ _ _ _ _ us hl => match us, hl with | [_, _], _ => rfl
  obtain ⟨fd_is_row, F_is_row⟩ := c.def_ 14 (d := d_is_row) rfl
  have g_is_row := He.glo_ok X G (c.fact 14 (f := .glo "is_row") rfl)
  have b_is_row : L2.Binds K fd_is_row ["ground", "thing", "many"] [] := FunD.bindsN (ps := ["ground", "thing", "many"]) F_is_row fun _ _ _ _ _ _ us hl => match us, hl with | [_, _, _], _ => rfl
  obtain ⟨fd_is_table, F_is_table⟩ := c.def_ 15 (d := d_is_table) rfl
  have g_is_table := He.glo_ok X G (c.fact 15 (f := .glo "is_table") rfl)
  have b_is_table : L2.Binds K fd_is_table ["ground", "thing", "high", "wide"] [] := FunD.bindsN (ps := ["ground", "thing", "high", "wide"]) F_is_table fun _ _ _ _ _ _ us hl => match us, hl with | [_, _, _, _], _ => rfl
  obtain ⟨fd_product, F_product⟩ := c.def_ 16 (d := d_product) rfl
  have g_product := He.glo_ok X G (c.fact 16 (f := .glo "product") rfl)
  have b_product : L2.Binds K fd_product ["ground", "one", "other"] [] := FunD.bindsN (ps := ["ground", "one", "other"]) F_product fun _ _ _ _ _ _ us hl => match us, hl with | [_, _, _], _ => rfl
  obtain ⟨fd_product_row, F_product_row⟩ := c.def_ 17 (d := d_product_row) rfl
  have g_product_row := He.glo_ok X G (c.fact 17 (f := .glo "product_row") rfl)
  have b_product_row : L2.Binds K fd_product_row ["ground", "row", "columns"] [] := FunD.bindsN (ps := ["ground", "row", "columns"]) F_product_row fun _ _ _ _ _ _ us hl => match us, hl with | [_, _, _], _ => rfl
  obtain ⟨fd_dot, F_dot⟩ := c.def_ 18 (d := d_dot) rfl
  have g_dot := He.glo_ok X G (c.fact 18 (f := .glo "dot") rfl)
  have b_dot : L2.Binds K fd_dot ["wholes", "others"] [] := FunD.bindsN (ps := ["wholes", "others"]) F_dot fun _ _ _ _ _ _ us hl => match us, hl with | [_, _], _ => rfl
  obtain ⟨fd_whole_row, F_whole_row⟩ := c.def_ 19 (d := d_whole_row) rfl
  have g_whole_row := He.glo_ok X G (c.fact 19 (f := .glo "whole_row") rfl)
  have b_whole_row : L2.Binds K fd_whole_row ["row"] [] := FunD.bindsN (ps := ["row"]) F_whole_row fun _ _ _ _ _ _ us hl => match us, hl with | [_], _ => rfl
  obtain ⟨fd_turned, F_turned⟩ := c.def_ 20 (d := d_turned) rfl
  have g_turned := He.glo_ok X G (c.fact 20 (f := .glo "turned") rfl)
  have b_turned : L2.Binds K fd_turned ["table"] [] := FunD.bindsN (ps := ["table"]) F_turned fun _ _ _ _ _ _ us hl => match us, hl with | [_], _ => rfl
  obtain ⟨fd_determinant, F_determinant⟩ := c.def_ 21 (d := d_determinant) rfl
  have g_determinant := He.glo_ok X G (c.fact 21 (f := .glo "determinant") rfl)
  have b_determinant : L2.Binds K fd_determinant ["ground", "table"] [] := FunD.bindsN (ps := ["ground", "table"]) F_determinant fun _ _ _ _ _ _ us hl => match us, hl with | [_, _], _ => rfl
  obtain ⟨fd_whole_determinant, F_whole_determinant⟩ := c.def_ 22 (d := d_whole_determinant) rfl
  have g_whole_determinant := He.glo_ok X G (c.fact 22 (f := .glo "whole_determinant") rfl)
  have b_whole_determinant : L2.Binds K fd_whole_determinant ["rows"] [] := FunD.bindsN (ps := ["rows"]) F_whole_determinant fun _ _ _ _ _ _ us hl => match us, hl with | [_], _ => rfl
  obtain ⟨fd_smaller_row, F_smaller_row⟩ := c.def_ 23 (d := d_smaller_row) rfl
  have g_smaller_row := He.glo_ok X G (c.fact 23 (f := .glo "smaller_row") rfl)
  have b_smaller_row : L2.Binds K fd_smaller_row ["row", "head", "last"] [] := FunD.bindsN (ps := ["row", "head", "last"]) F_smaller_row fun _ _ _ _ _ _ us hl => match us, hl with | [_, _, _], _ => rfl
  obtain ⟨fd_head_place, F_head_place⟩ := c.def_ 24 (d := d_head_place) rfl
  have g_head_place := He.glo_ok X G (c.fact 24 (f := .glo "head_place") rfl)
  have b_head_place : L2.Binds K fd_head_place ["rows", "begin", "at"] [] := FunD.bindsN (ps := ["rows", "begin", "at"]) F_head_place fun _ _ _ _ _ _ us hl => match us, hl with | [_, _, _], _ => rfl
  obtain ⟨fd_row_plus, F_row_plus⟩ := c.def_ 25 (d := d_row_plus) rfl
  have g_row_plus := He.glo_ok X G (c.fact 25 (f := .glo "row_plus") rfl)
  have b_row_plus : L2.Binds K fd_row_plus ["ground", "row", "other"] [] := FunD.bindsN (ps := ["ground", "row", "other"]) F_row_plus fun _ _ _ _ _ _ us hl => match us, hl with | [_, _, _], _ => rfl
  obtain ⟨fd_row_less, F_row_less⟩ := c.def_ 26 (d := d_row_less) rfl
  have g_row_less := He.glo_ok X G (c.fact 26 (f := .glo "row_less") rfl)
  have b_row_less : L2.Binds K fd_row_less ["ground", "row", "other"] [] := FunD.bindsN (ps := ["ground", "row", "other"]) F_row_less fun _ _ _ _ _ _ us hl => match us, hl with | [_, _, _], _ => rfl
  obtain ⟨fd_row_times, F_row_times⟩ := c.def_ 27 (d := d_row_times) rfl
  have g_row_times := He.glo_ok X G (c.fact 27 (f := .glo "row_times") rfl)
  have b_row_times : L2.Binds K fd_row_times ["ground", "row", "factor"] [] := FunD.bindsN (ps := ["ground", "row", "factor"]) F_row_times fun _ _ _ _ _ _ us hl => match us, hl with | [_, _, _], _ => rfl
  obtain ⟨fd_is_form_table, F_is_form_table⟩ := c.def_ 28 (d := d_is_form_table) rfl
  have g_is_form_table := He.glo_ok X G (c.fact 28 (f := .glo "is_form_table") rfl)
  have b_is_form_table : L2.Binds K fd_is_form_table ["ground", "thing"] [] := FunD.bindsN (ps := ["ground", "thing"]) F_is_form_table fun _ _ _ _ _ _ us hl => match us, hl with | [_, _], _ => rfl
  obtain ⟨fd_want_rows, F_want_rows⟩ := c.def_ 29 (d := d_want_rows) rfl
  have g_want_rows := He.glo_ok X G (c.fact 29 (f := .glo "want_rows") rfl)
  have b_want_rows : L2.Binds K fd_want_rows ["form", "things"] [] := FunD.bindsN (ps := ["form", "things"]) F_want_rows fun _ _ _ _ _ _ us hl => match us, hl with | [_, _], _ => rfl
  obtain ⟨fd_want_worths, F_want_worths⟩ := c.def_ 30 (d := d_want_worths) rfl
  have g_want_worths := He.glo_ok X G (c.fact 30 (f := .glo "want_worths") rfl)
  have b_want_worths : L2.Binds K fd_want_worths ["form", "rows"] [] := FunD.bindsN (ps := ["form", "rows"]) F_want_worths fun _ _ _ _ _ _ us hl => match us, hl with | [_, _], _ => rfl
  obtain ⟨fd_products, F_products⟩ := c.def_ 31 (d := d_products) rfl
  have g_products := He.glo_ok X G (c.fact 31 (f := .glo "products") rfl)
  have b_products : L2.Binds K fd_products ["form", "rows", "others"] [] := FunD.bindsN (ps := ["form", "rows", "others"]) F_products fun _ _ _ _ _ _ us hl => match us, hl with | [_, _, _], _ => rfl
  obtain ⟨fd_worth_of, F_worth_of⟩ := c.def_ 32 (d := d_worth_of) rfl
  have g_worth_of := He.glo_ok X G (c.fact 32 (f := .glo "worth_of") rfl)
  have b_worth_of : L2.Binds K fd_worth_of ["form", "row"] [] := FunD.bindsN (ps := ["form", "row"]) F_worth_of fun _ _ _ _ _ _ us hl => match us, hl with | [_, _], _ => rfl
  obtain ⟨fd_leading, F_leading⟩ := c.def_ 33 (d := d_leading) rfl
  have g_leading := He.glo_ok X G (c.fact 33 (f := .glo "leading") rfl)
  have b_leading : L2.Binds K fd_leading ["form", "row", "other"] [] := FunD.bindsN (ps := ["form", "row", "other"]) F_leading fun _ _ _ _ _ _ us hl => match us, hl with | [_, _, _], _ => rfl
  obtain ⟨fd_led, F_led⟩ := c.def_ 34 (d := d_led) rfl
  have g_led := He.glo_ok X G (c.fact 34 (f := .glo "led") rfl)
  have b_led : L2.Binds K fd_led ["form", "row", "other"] [] := FunD.bindsN (ps := ["form", "row", "other"]) F_led fun _ _ _ _ _ _ us hl => match us, hl with | [_, _, _], _ => rfl
  obtain ⟨fd_leading_mirrors, F_leading_mirrors⟩ := c.def_ 35 (d := d_leading_mirrors) rfl
  have g_leading_mirrors := He.glo_ok X G (c.fact 35 (f := .glo "leading_mirrors") rfl)
  have b_leading_mirrors : L2.Binds K fd_leading_mirrors ["form", "row", "other"] [] := FunD.bindsN (ps := ["form", "row", "other"]) F_leading_mirrors fun _ _ _ _ _ _ us hl => match us, hl with | [_, _, _], _ => rfl
  obtain ⟨fd__law_bag, F__law_bag⟩ := c.def_ 36 (d := d__law_bag) rfl
  have g__law_bag := He.glo_ok X G (c.fact 36 (f := .glo "_law_bag") rfl)
  have b__law_bag : L2.Binds K fd__law_bag ["_law_script", "_law_at"] [] := FunD.bindsN (ps := ["_law_script", "_law_at"]) F__law_bag fun _ _ _ _ _ _ us hl => match us, hl with | [_, _], _ => rfl
  obtain ⟨fd__law_take, F__law_take⟩ := c.def_ 37 (d := d__law_take) rfl
  have g__law_take := He.glo_ok X G (c.fact 37 (f := .glo "_law_take") rfl)
  have b__law_take : L2.Binds K fd__law_take ["_law_bag_here", "_law_many"] [] := FunD.bindsN (ps := ["_law_bag_here", "_law_many"]) F__law_take fun _ _ _ _ _ _ us hl => match us, hl with | [_, _], _ => rfl
  obtain ⟨fd__law_mixed, F__law_mixed⟩ := c.def_ 38 (d := d__law_mixed) rfl
  have g__law_mixed := He.glo_ok X G (c.fact 38 (f := .glo "_law_mixed") rfl)
  have b__law_mixed : L2.Binds K fd__law_mixed ["_law_bag_here", "_law_row_here"] [] := FunD.bindsN (ps := ["_law_bag_here", "_law_row_here"]) F__law_mixed fun _ _ _ _ _ _ us hl => match us, hl with | [_, _], _ => rfl
  obtain ⟨fd__law_is_whole, F__law_is_whole⟩ := c.def_ 39 (d := d__law_is_whole) rfl
  have g__law_is_whole := He.glo_ok X G (c.fact 39 (f := .glo "_law_is_whole") rfl)
  have b__law_is_whole : L2.Binds K fd__law_is_whole ["_law_thing"] [] := FunD.bindsN (ps := ["_law_thing"]) F__law_is_whole fun _ _ _ _ _ _ us hl => match us, hl with | [_], _ => rfl
  obtain ⟨fd__law_shared, F__law_shared⟩ := c.def_ 40 (d := d__law_shared) rfl
  have g__law_shared := He.glo_ok X G (c.fact 40 (f := .glo "_law_shared") rfl)
  have b__law_shared : L2.Binds K fd__law_shared ["_law_one", "_law_other"] [] := FunD.bindsN (ps := ["_law_one", "_law_other"]) F__law_shared fun _ _ _ _ _ _ us hl => match us, hl with | [_, _], _ => rfl
  obtain ⟨fd__law_low, F__law_low⟩ := c.def_ 41 (d := d__law_low) rfl
  have g__law_low := He.glo_ok X G (c.fact 41 (f := .glo "_law_low") rfl)
  have b__law_low : L2.Binds K fd__law_low ["_law_g", "_law_up", "_law_down"] [] := FunD.bindsN (ps := ["_law_g", "_law_up", "_law_down"]) F__law_low fun _ _ _ _ _ _ us hl => match us, hl with | [_, _, _], _ => rfl
  obtain ⟨fd__law_is_number, F__law_is_number⟩ := c.def_ 42 (d := d__law_is_number) rfl
  have g__law_is_number := He.glo_ok X G (c.fact 42 (f := .glo "_law_is_number") rfl)
  have b__law_is_number : L2.Binds K fd__law_is_number ["_law_g", "_law_thing"] [] := FunD.bindsN (ps := ["_law_g", "_law_thing"]) F__law_is_number fun _ _ _ _ _ _ us hl => match us, hl with | [_, _], _ => rfl
  obtain ⟨fd__law_plus, F__law_plus⟩ := c.def_ 43 (d := d__law_plus) rfl
  have g__law_plus := He.glo_ok X G (c.fact 43 (f := .glo "_law_plus") rfl)
  have b__law_plus : L2.Binds K fd__law_plus ["_law_g", "_law_x", "_law_y"] [] := FunD.bindsN (ps := ["_law_g", "_law_x", "_law_y"]) F__law_plus fun _ _ _ _ _ _ us hl => match us, hl with | [_, _, _], _ => rfl
  obtain ⟨fd__law_times, F__law_times⟩ := c.def_ 44 (d := d__law_times) rfl
  have g__law_times := He.glo_ok X G (c.fact 44 (f := .glo "_law_times") rfl)
  have b__law_times : L2.Binds K fd__law_times ["_law_g", "_law_x", "_law_y"] [] := FunD.bindsN (ps := ["_law_g", "_law_x", "_law_y"]) F__law_times fun _ _ _ _ _ _ us hl => match us, hl with | [_, _, _], _ => rfl
  obtain ⟨fd__law_minus, F__law_minus⟩ := c.def_ 45 (d := d__law_minus) rfl
  have g__law_minus := He.glo_ok X G (c.fact 45 (f := .glo "_law_minus") rfl)
  have b__law_minus : L2.Binds K fd__law_minus ["_law_g", "_law_x"] [] := FunD.bindsN (ps := ["_law_g", "_law_x"]) F__law_minus fun _ _ _ _ _ _ us hl => match us, hl with | [_, _], _ => rfl
  obtain ⟨fd__law_sum, F__law_sum⟩ := c.def_ 46 (d := d__law_sum) rfl
  have g__law_sum := He.glo_ok X G (c.fact 46 (f := .glo "_law_sum") rfl)
  have b__law_sum : L2.Binds K fd__law_sum ["_law_g", "_law_some"] [] := FunD.bindsN (ps := ["_law_g", "_law_some"]) F__law_sum fun _ _ _ _ _ _ us hl => match us, hl with | [_, _], _ => rfl
  obtain ⟨fd__law_scaled, F__law_scaled⟩ := c.def_ 47 (d := d__law_scaled) rfl
  have g__law_scaled := He.glo_ok X G (c.fact 47 (f := .glo "_law_scaled") rfl)
  have b__law_scaled : L2.Binds K fd__law_scaled ["_law_g", "_law_row_here", "_law_x"] [] := FunD.bindsN (ps := ["_law_g", "_law_row_here", "_law_x"]) F__law_scaled fun _ _ _ _ _ _ us hl => match us, hl with | [_, _, _], _ => rfl
  obtain ⟨fd__law_added, F__law_added⟩ := c.def_ 48 (d := d__law_added) rfl
  have g__law_added := He.glo_ok X G (c.fact 48 (f := .glo "_law_added") rfl)
  have b__law_added : L2.Binds K fd__law_added ["_law_g", "_law_row_here", "_law_other"] [] := FunD.bindsN (ps := ["_law_g", "_law_row_here", "_law_other"]) F__law_added fun _ _ _ _ _ _ us hl => match us, hl with | [_, _, _], _ => rfl
  obtain ⟨fd__law_through, F__law_through⟩ := c.def_ 49 (d := d__law_through) rfl
  have g__law_through := He.glo_ok X G (c.fact 49 (f := .glo "_law_through") rfl)
  have b__law_through : L2.Binds K fd__law_through ["_law_g", "_law_row_here", "_law_table"] [] := FunD.bindsN (ps := ["_law_g", "_law_row_here", "_law_table"]) F__law_through fun _ _ _ _ _ _ us hl => match us, hl with | [_, _, _], _ => rfl
  obtain ⟨fd__law_product, F__law_product⟩ := c.def_ 50 (d := d__law_product) rfl
  have g__law_product := He.glo_ok X G (c.fact 50 (f := .glo "_law_product") rfl)
  have b__law_product : L2.Binds K fd__law_product ["_law_g", "_law_one", "_law_other"] [] := FunD.bindsN (ps := ["_law_g", "_law_one", "_law_other"]) F__law_product fun _ _ _ _ _ _ us hl => match us, hl with | [_, _, _], _ => rfl
  obtain ⟨fd__law_turned, F__law_turned⟩ := c.def_ 51 (d := d__law_turned) rfl
  have g__law_turned := He.glo_ok X G (c.fact 51 (f := .glo "_law_turned") rfl)
  have b__law_turned : L2.Binds K fd__law_turned ["_law_table"] [] := FunD.bindsN (ps := ["_law_table"]) F__law_turned fun _ _ _ _ _ _ us hl => match us, hl with | [_], _ => rfl
  obtain ⟨fd__law_ones, F__law_ones⟩ := c.def_ 52 (d := d__law_ones) rfl
  have g__law_ones := He.glo_ok X G (c.fact 52 (f := .glo "_law_ones") rfl)
  have b__law_ones : L2.Binds K fd__law_ones ["_law_many"] [] := FunD.bindsN (ps := ["_law_many"]) F__law_ones fun _ _ _ _ _ _ us hl => match us, hl with | [_], _ => rfl
  obtain ⟨fd__law_pair, F__law_pair⟩ := c.def_ 53 (d := d__law_pair) rfl
  have g__law_pair := He.glo_ok X G (c.fact 53 (f := .glo "_law_pair") rfl)
  have b__law_pair : L2.Binds K fd__law_pair ["_law_g", "_law_table", "_law_row_here", "_law_other"] [] := FunD.bindsN (ps := ["_law_g", "_law_table", "_law_row_here", "_law_other"]) F__law_pair fun _ _ _ _ _ _ us hl => match us, hl with | [_, _, _, _], _ => rfl
  obtain ⟨fd__law_worth, F__law_worth⟩ := c.def_ 54 (d := d__law_worth) rfl
  have g__law_worth := He.glo_ok X G (c.fact 54 (f := .glo "_law_worth") rfl)
  have b__law_worth : L2.Binds K fd__law_worth ["_law_g", "_law_table", "_law_row_here"] [] := FunD.bindsN (ps := ["_law_g", "_law_table", "_law_row_here"]) F__law_worth fun _ _ _ _ _ _ us hl => match us, hl with | [_, _, _], _ => rfl
  obtain ⟨fd__law_is_row, F__law_is_row⟩ := c.def_ 55 (d := d__law_is_row) rfl
  have g__law_is_row := He.glo_ok X G (c.fact 55 (f := .glo "_law_is_row") rfl)
  have b__law_is_row : L2.Binds K fd__law_is_row ["_law_g", "_law_thing", "_law_many"] [] := FunD.bindsN (ps := ["_law_g", "_law_thing", "_law_many"]) F__law_is_row fun _ _ _ _ _ _ us hl => match us, hl with | [_, _, _], _ => rfl
  obtain ⟨fd__law_ground, F__law_ground⟩ := c.def_ 56 (d := d__law_ground) rfl
  have g__law_ground := He.glo_ok X G (c.fact 56 (f := .glo "_law_ground") rfl)
  have b__law_ground : L2.Binds K fd__law_ground ["_law_bag_here"] [] := FunD.bindsN (ps := ["_law_bag_here"]) F__law_ground fun _ _ _ _ _ _ us hl => match us, hl with | [_], _ => rfl
  obtain ⟨fd__law_number, F__law_number⟩ := c.def_ 57 (d := d__law_number) rfl
  have g__law_number := He.glo_ok X G (c.fact 57 (f := .glo "_law_number") rfl)
  have b__law_number : L2.Binds K fd__law_number ["_law_bag_here", "_law_g"] [] := FunD.bindsN (ps := ["_law_bag_here", "_law_g"]) F__law_number fun _ _ _ _ _ _ us hl => match us, hl with | [_, _], _ => rfl
  obtain ⟨fd__law_other_than_nought, F__law_other_than_nought⟩ := c.def_ 58 (d := d__law_other_than_nought) rfl
  have g__law_other_than_nought := He.glo_ok X G (c.fact 58 (f := .glo "_law_other_than_nought") rfl)
  have b__law_other_than_nought : L2.Binds K fd__law_other_than_nought ["_law_bag_here", "_law_g"] [] := FunD.bindsN (ps := ["_law_bag_here", "_law_g"]) F__law_other_than_nought fun _ _ _ _ _ _ us hl => match us, hl with | [_, _], _ => rfl
  obtain ⟨fd__law_row, F__law_row⟩ := c.def_ 59 (d := d__law_row) rfl
  have g__law_row := He.glo_ok X G (c.fact 59 (f := .glo "_law_row") rfl)
  have b__law_row : L2.Binds K fd__law_row ["_law_bag_here", "_law_g", "_law_many"] [] := FunD.bindsN (ps := ["_law_bag_here", "_law_g", "_law_many"]) F__law_row fun _ _ _ _ _ _ us hl => match us, hl with | [_, _, _], _ => rfl
  obtain ⟨fd__law_letters, F__law_letters⟩ := c.def_ 60 (d := d__law_letters) rfl
  have g__law_letters := He.glo_ok X G (c.fact 60 (f := .glo "_law_letters") rfl)
  have b__law_letters : L2.Binds K fd__law_letters ["_law_bag_here", "_law_g"] [] := FunD.bindsN (ps := ["_law_bag_here", "_law_g"]) F__law_letters fun _ _ _ _ _ _ us hl => match us, hl with | [_, _], _ => rfl
  obtain ⟨fd__law_changed, F__law_changed⟩ := c.def_ 61 (d := d__law_changed) rfl
  have g__law_changed := He.glo_ok X G (c.fact 61 (f := .glo "_law_changed") rfl)
  have b__law_changed : L2.Binds K fd__law_changed ["_law_bag_here", "_law_g", "_law_table"] [] := FunD.bindsN (ps := ["_law_bag_here", "_law_g", "_law_table"]) F__law_changed fun _ _ _ _ _ _ us hl => match us, hl with | [_, _, _], _ => rfl
  obtain ⟨fd__law_form, F__law_form⟩ := c.def_ 62 (d := d__law_form) rfl
  have g__law_form := He.glo_ok X G (c.fact 62 (f := .glo "_law_form") rfl)
  have b__law_form : L2.Binds K fd__law_form ["_law_bag_here", "_law_g", "_law_many"] [] := FunD.bindsN (ps := ["_law_bag_here", "_law_g", "_law_many"]) F__law_form fun _ _ _ _ _ _ us hl => match us, hl with | [_, _, _], _ => rfl
  obtain ⟨fd__law_with_worth, F__law_with_worth⟩ := c.def_ 63 (d := d__law_with_worth) rfl
  have g__law_with_worth := He.glo_ok X G (c.fact 63 (f := .glo "_law_with_worth") rfl)
  have b__law_with_worth : L2.Binds K fd__law_with_worth ["_law_bag_here", "_law_g", "_law_table"] [] := FunD.bindsN (ps := ["_law_bag_here", "_law_g", "_law_table"]) F__law_with_worth fun _ _ _ _ _ _ us hl => match us, hl with | [_, _, _], _ => rfl
  obtain ⟨fd__law_odd, F__law_odd⟩ := c.def_ 64 (d := d__law_odd) rfl
  have g__law_odd := He.glo_ok X G (c.fact 64 (f := .glo "_law_odd") rfl)
  have b__law_odd : L2.Binds K fd__law_odd ["_law_bag_here"] [] := FunD.bindsN (ps := ["_law_bag_here"]) F__law_odd fun _ _ _ _ _ _ us hl => match us, hl with | [_], _ => rfl
  obtain ⟨fd__law_refusal, F__law_refusal⟩ := c.def_ 65 (d := d__law_refusal) rfl
  have g__law_refusal := He.glo_ok X G (c.fact 65 (f := .glo "_law_refusal") rfl)
  have b__law_refusal : L2.Binds K fd__law_refusal ["_law_deed"] [] := FunD.bindsN (ps := ["_law_deed"]) F__law_refusal fun _ _ _ _ _ _ us hl => match us, hl with | [_], _ => rfl
  obtain ⟨fd__law_odd_row, F__law_odd_row⟩ := c.def_ 66 (d := d__law_odd_row) rfl
  have g__law_odd_row := He.glo_ok X G (c.fact 66 (f := .glo "_law_odd_row") rfl)
  have b__law_odd_row : L2.Binds K fd__law_odd_row ["_law_bag_here", "_law_g", "_law_row_here"] [] := FunD.bindsN (ps := ["_law_bag_here", "_law_g", "_law_row_here"]) F__law_odd_row fun _ _ _ _ _ _ us hl => match us, hl with | [_, _, _], _ => rfl
  obtain ⟨fd__law_due, F__law_due⟩ := c.def_ 67 (d := d__law_due) rfl
  have g__law_due := He.glo_ok X G (c.fact 67 (f := .glo "_law_due") rfl)
  have b__law_due : L2.Binds K fd__law_due ["_law_g", "_law_table", "_law_row_here", "_law_other"] [] := FunD.bindsN (ps := ["_law_g", "_law_table", "_law_row_here", "_law_other"]) F__law_due fun _ _ _ _ _ _ us hl => match us, hl with | [_, _, _, _], _ => rfl
  obtain ⟨fd__law_is_refused, F__law_is_refused⟩ := c.def_ 68 (d := d__law_is_refused) rfl
  have g__law_is_refused := He.glo_ok X G (c.fact 68 (f := .glo "_law_is_refused") rfl)
  have b__law_is_refused : L2.Binds K fd__law_is_refused ["_law_form_here", "_law_g", "_law_table", "_law_row_here", "_law_other"] [] := FunD.bindsN (ps := ["_law_form_here", "_law_g", "_law_table", "_law_row_here", "_law_other"]) F__law_is_refused fun _ _ _ _ _ _ us hl => match us, hl with | [_, _, _, _, _], _ => rfl
  obtain ⟨fd_law, F_law⟩ := c.def_ 69 (d := d_law) rfl
  have g_law := He.glo_ok X G (c.fact 69 (f := .glo "law") rfl)
  obtain ⟨fd_Form___init__, F_Form___init__⟩ := c.def_ 70 (d := d_Form___init__) rfl
  have b_Form___init__ : L2.Binds K fd_Form___init__ ["self", "table", "ground"] [] := bnd_of (ps := ["self", "table", "ground"]) F_Form___init__ 3 (fun e => nomatch (show ([.int 0] : List V) = [] from e)) rfl fun _ _ _ _ _ _ _ us its hu hi => match us, hu, its, hi with | [_, _, _], _, [_], _ => ⟨_, rfl, rfl⟩
  have kb_Form_1_ground : L2.KBn K fd_Form___init__ ["self", "table", "ground"] 2 ["ground"] (fun us ws => us ++ ws) (fun us ws => us ++ ws) := kbn_of (ps := ["self", "table", "ground"]) F_Form___init__ (fun e => nomatch (show ([.int 0] : List V) = [] from e)) (fun _ _ _ _ _ _ _ us ws its l1 l2 l3 => match us, l1, ws, l2, its, l3 with | [_, _], _, [_], _, [_], _ => ⟨_, rfl, rfl⟩) (fun r1 r2 => r1.append r2)
  have m_isinstance := He.free_ok X G (c.fact 70 (f := .free "isinstance") rfl)
  have m_int := He.free_ok X G (c.fact 71 (f := .free "int") rfl)
  have m_bool := He.free_ok X G (c.fact 72 (f := .free "bool") rfl)
  have m_abs := He.free_ok X G (c.fact 73 (f := .free "abs") rfl)
  have m_tuple := He.free_ok X G (c.fact 74 (f := .free "tuple") rfl)
  have m_len := He.free_ok X G (c.fact 75 (f := .free "len") rfl)
  have m_range := He.free_ok X G (c.fact 76 (f := .free "range") rfl)
  have m_all := He.free_ok X G (c.fact 77 (f := .free "all") rfl)
  have m_sum := He.free_ok X G (c.fact 78 (f := .free "sum") rfl)
  have m_zip := He.free_ok X G (c.fact 79 (f := .free "zip") rfl)
  have m_list := He.free_ok X G (c.fact 80 (f := .free "list") rfl)
  have m_ValueError := He.free_ok X G (c.fact 81 (f := .free "ValueError") rfl)
  have m_max := He.free_ok X G (c.fact 82 (f := .free "max") rfl)
  have m_min := He.free_ok X G (c.fact 83 (f := .free "min") rfl)
  obtain ⟨t_MOST_LETTERS, mg_MOST_LETTERS⟩ := He.int_ok X G (c.fact 85 (f := .int "MOST_LETTERS" 5) rfl)
  obtain ⟨t_MOST_LETTERS_ON_A_WHEEL, mg_MOST_LETTERS_ON_A_WHEEL⟩ := He.int_ok X G (c.fact 86 (f := .int "MOST_LETTERS_ON_A_WHEEL" 4) rfl)
  have gr0_MirrorError := He.glo_ok X G (c.fact 92 (f := .glo "MirrorError") rfl)
  have gr0_NoGround := He.glo_ok X G (c.fact 93 (f := .glo "NoGround") rfl)
  have gr0_NoNumber := He.glo_ok X G (c.fact 94 (f := .glo "NoNumber") rfl)
  have gr0_NoRow := He.glo_ok X G (c.fact 95 (f := .glo "NoRow") rfl)
  have gr0_NoTable := He.glo_ok X G (c.fact 96 (f := .glo "NoTable") rfl)
  have gr0_NoForm := He.glo_ok X G (c.fact 97 (f := .glo "NoForm") rfl)
  have gr0_NoKeeper := He.glo_ok X G (c.fact 98 (f := .glo "NoKeeper") rfl)
  have gr0_NoWorth := He.glo_ok X G (c.fact 99 (f := .glo "NoWorth") rfl)
  have gr0_NoSeat := He.glo_ok X G (c.fact 100 (f := .glo "NoSeat") rfl)
  have gr0_NoFour := He.glo_ok X G (c.fact 101 (f := .glo "NoFour") rfl)
  have gr0_NoPlace := He.glo_ok X G (c.fact 102 (f := .glo "NoPlace") rfl)
  have gr0_NoClaim := He.glo_ok X G (c.fact 103 (f := .glo "NoClaim") rfl)
  have gr0_NoText := He.glo_ok X G (c.fact 104 (f := .glo "NoText") rfl)
  have gr0_NoSaying := He.glo_ok X G (c.fact 105 (f := .glo "NoSaying") rfl)
  have gr0_TooMany := He.glo_ok X G (c.fact 106 (f := .glo "TooMany") rfl)
  have gr0_NotKept := He.glo_ok X G (c.fact 107 (f := .glo "NotKept") rfl)
  have gr0_OverNought := He.glo_ok X G (c.fact 108 (f := .glo "OverNought") rfl)
  have gr0_Flat := He.glo_ok X G (c.fact 109 (f := .glo "Flat") rfl)
  have gr0_NoName := He.glo_ok X G (c.fact 110 (f := .glo "NoName") rfl)
  have R_NoRow := raiseC_of gr0_NoRow (c.fact 111 (f := .exc "NoRow") rfl)
  have R_NoWorth := raiseC_of gr0_NoWorth (c.fact 112 (f := .exc "NoWorth") rfl)
  have R_NoPlace := raiseC_of gr0_NoPlace (c.fact 113 (f := .exc "NoPlace") rfl)
  have MG : MirG K mg := ⟨gr0_MirrorError, gr0_NoGround, gr0_NoNumber, gr0_NoRow, gr0_NoTable, gr0_NoForm, gr0_NoKeeper, gr0_NoWorth, gr0_NoSeat, gr0_NoFour, gr0_NoPlace, gr0_NoClaim, gr0_NoText, gr0_NoSaying, gr0_TooMany, gr0_NotKept, gr0_OverNought, gr0_Flat, gr0_NoName, m_isinstance, m_len, m_ValueError⟩
  obtain ⟨cm3, ce3⟩ := He.ba cm
  obtain ⟨cm2, ce2⟩ := He.ba cm3
  obtain ⟨cm1, ce1⟩ := He.ba cm2
  have MC_NoRow := mirB_ok (nm := "NoRow") cm1 (by decide +kernel)
  have MC_NoWorth := mirB_ok (nm := "NoWorth") ce1 (by decide +kernel)
  have MC_NoPlace := mirB_ok (nm := "NoPlace") ce2 (by decide +kernel)
  have mg_GROUNDS := He.glo_ok X G (c.fact 84 (f := .glo "GROUNDS") rfl)
  have gr_GROUNDS := fun H : Hp => He.tupB_ok (K := K) (x := "GROUNDS") (vs := [.int 0, .int 3, .int 5, .int 7, .int 11, .int 13]) ce3 H
  have e := hfa.symm.trans g_law
  cases e
  have b := FunD.bindsA (ps := ["_law_script"]) F_law fun _ _ _ _ _ _ us hl => match us, hl with | [_], _ => rfl
  refine ⟨fd_law, fun s v => b s [v] rfl, fun base _ _ hTB => ?_⟩
  have FC__law_is_refused := codeAt_of (p := ("_law_is_refused", none)) F__law_is_refused
  have TB__law_is_refused : LamX.TabB base mg (He.codeOf K ("_law_is_refused", none)) (He.cT K ("_law_is_refused", none)).2 := hTB (He.cT K ("_law_is_refused", none)) (List.mem_map.mpr ⟨_, List.mem_cons_self, rfl⟩)
  have hm__law_is_refused : ((He.cT K ("_law_is_refused", none)).2, ((envOfC "_law_is_refused" (defScope s__law_is_refused) 0 0 .none).qual ++ "<lambda>")) ∈ lamTabs K := by
    unfold lamTabs
    simp
  have hu__law_is_refused : ∀ p ∈ lamTabs K, p.1 = (He.cT K ("_law_is_refused", none)).2 → p.2 = ((envOfC "_law_is_refused" (defScope s__law_is_refused) 0 0 .none).qual ++ "<lambda>") := by
    intro p hp e
    unfold lamTabs at hp
    simp only [List.mem_cons, List.not_mem_nil, or_false] at hp
    rw [hp]
  have G_is_whole : FnOk PP w K mg base CX0 1 _ fd_is_whole ["thing"] (sp_is_whole K) := ok_is_whole F_is_whole m_isinstance m_int m_bool
  have G_common_divisor : FnOk PP w K mg base CX0 1 _ fd_common_divisor ["a", "b"] (sp_common_divisor K) := ok_common_divisor F_common_divisor m_abs
  have G_whole_root : FnOk PP w K mg base CX0 1 _ fd_whole_root ["square"] (sp_whole_root K) := ok_whole_root F_whole_root
  have G_wheel_back : FnOk PP w K mg base CX0 1 _ fd_wheel_back ["wheel", "whole"] (sp_wheel_back K) := ok_wheel_back F_wheel_back
  have G_wheel_root : FnOk PP w K mg base CX0 1 _ fd_wheel_root ["wheel", "x"] (sp_wheel_root K) := ok_wheel_root F_wheel_root m_range
  have G_dot : FnOk PP w K mg base CX0 1 _ fd_dot ["wholes", "others"] (sp_dot K) := ok_dot F_dot m_sum m_zip
  have G_turned : FnOk PP w K mg base CX0 1 _ fd_turned ["table"] (sp_turned K) := ok_turned F_turned m_tuple m_range m_len
  have G_smaller_row : FnOk PP w K mg base CX0 1 _ fd_smaller_row ["row", "head", "last"] (sp_smaller_row K) := ok_smaller_row F_smaller_row m_range m_len
  have G_head_place : FnOk PP w K mg base CX0 1 _ fd_head_place ["rows", "begin", "at"] (sp_head_place K) := ok_head_place F_head_place m_range m_len
  have G__law_bag : FnOk PP w K mg base CX0 1 _ fd__law_bag ["_law_script", "_law_at"] (sp__law_bag K) := ok__law_bag F__law_bag m_len m_abs
  have G__law_take : FnOk PP w K mg base CX0 1 _ fd__law_take ["_law_bag_here", "_law_many"] (sp__law_take K) := ok__law_take F__law_take
  have G__law_is_whole : FnOk PP w K mg base CX0 1 _ fd__law_is_whole ["_law_thing"] (sp__law_is_whole K) := ok__law_is_whole F__law_is_whole m_isinstance m_int m_bool
  have G__law_shared : FnOk PP w K mg base CX0 1 _ fd__law_shared ["_law_one", "_law_other"] (sp__law_shared K) := ok__law_shared F__law_shared m_abs
  have G__law_turned : FnOk PP w K mg base CX0 1 _ fd__law_turned ["_law_table"] (sp__law_turned K) := ok__law_turned F__law_turned m_tuple m_range m_len
  have G__law_ones : FnOk PP w K mg base CX0 1 _ fd__law_ones ["_law_many"] (sp__law_ones K) := ok__law_ones F__law_ones m_tuple m_range m_int
  have G_is_ground : FnOk PP w K mg base CX0 2 _ fd_is_ground ["thing"] (sp_is_ground K) := ok_is_ground F_is_ground F_is_whole b_is_whole g_is_whole G_is_whole mg_GROUNDS gr_GROUNDS
  have G_is_number : FnOk PP w K mg base CX0 2 _ fd_is_number ["ground", "thing"] (sp_is_number K) := ok_is_number F_is_number F_is_whole b_is_whole g_is_whole G_is_whole F_common_divisor b_common_divisor g_common_divisor G_common_divisor m_isinstance m_tuple m_len
  have G_lowest : FnOk PP w K mg base CX0 2 _ fd_lowest ["ground", "top", "bottom"] (sp_lowest K) := ok_lowest F_lowest F_common_divisor b_common_divisor g_common_divisor G_common_divisor F_wheel_back b_wheel_back g_wheel_back G_wheel_back
  have G_fraction_root : FnOk PP w K mg base CX0 2 _ fd_fraction_root ["x"] (sp_fraction_root K) := ok_fraction_root F_fraction_root F_whole_root b_whole_root g_whole_root G_whole_root
  have G_whole_row : FnOk PP w K mg base CX0 2 _ fd_whole_row ["row"] (sp_whole_row K) := ok_whole_row F_whole_row F_common_divisor b_common_divisor g_common_divisor G_common_divisor
  have G_whole_determinant : FnOk PP w K mg base CX0 2 _ fd_whole_determinant ["rows"] (sp_whole_determinant K) := ok_whole_determinant F_whole_determinant F_head_place b_head_place g_head_place G_head_place F_smaller_row b_smaller_row g_smaller_row G_smaller_row m_len
  have G__law_mixed : FnOk PP w K mg base CX0 2 _ fd__law_mixed ["_law_bag_here", "_law_row_here"] (sp__law_mixed K) := ok__law_mixed F__law_mixed F__law_take b__law_take g__law_take G__law_take m_list m_len
  have G__law_low : FnOk PP w K mg base CX0 2 _ fd__law_low ["_law_g", "_law_up", "_law_down"] (sp__law_low K) := ok__law_low F__law_low F__law_shared b__law_shared g__law_shared G__law_shared m_range m_int
  have G__law_is_number : FnOk PP w K mg base CX0 2 _ fd__law_is_number ["_law_g", "_law_thing"] (sp__law_is_number K) := ok__law_is_number F__law_is_number F__law_shared b__law_shared g__law_shared G__law_shared F__law_is_whole b__law_is_whole g__law_is_whole G__law_is_whole m_isinstance m_tuple m_len m_all
  have G__law_ground : FnOk PP w K mg base CX0 2 _ fd__law_ground ["_law_bag_here"] (sp__law_ground K) := ok__law_ground F__law_ground F__law_take b__law_take g__law_take G__law_take
  have G__law_letters : FnOk PP w K mg base CX0 2 _ fd__law_letters ["_law_bag_here", "_law_g"] (sp__law_letters K) := ok__law_letters F__law_letters F__law_take b__law_take g__law_take G__law_take m_int
  have G__law_odd : FnOk PP w K mg base CX0 2 _ fd__law_odd ["_law_bag_here"] (sp__law_odd K) := ok__law_odd F__law_odd F__law_take b__law_take g__law_take G__law_take
  have G_plus : FnOk PP w K mg base CX0 3 _ fd_plus ["ground", "x", "y"] (sp_plus K) := ok_plus F_plus F_lowest b_lowest g_lowest G_lowest
  have G_less : FnOk PP w K mg base CX0 3 _ fd_less ["ground", "x", "y"] (sp_less K) := ok_less F_less F_lowest b_lowest g_lowest G_lowest
  have G_times : FnOk PP w K mg base CX0 3 _ fd_times ["ground", "x", "y"] (sp_times K) := ok_times F_times F_lowest b_lowest g_lowest G_lowest
  have G_over : FnOk PP w K mg base CX0 3 _ fd_over ["ground", "x", "y"] (sp_over K) := ok_over F_over F_lowest b_lowest g_lowest G_lowest
  have G_root_or_none : FnOk PP w K mg base CX0 3 _ fd_root_or_none ["ground", "x"] (sp_root_or_none K) := ok_root_or_none F_root_or_none F_wheel_root b_wheel_root g_wheel_root G_wheel_root F_fraction_root b_fraction_root g_fraction_root G_fraction_root
  have G_is_row : FnOk PP w K mg base CX0 3 _ fd_is_row ["ground", "thing", "many"] (sp_is_row K) := ok_is_row F_is_row F_is_number b_is_number g_is_number G_is_number m_all m_isinstance m_tuple m_len
  have G_product_row : FnOk PP w K mg base CX0 3 _ fd_product_row ["ground", "row", "columns"] (sp_product_row K) := ok_product_row F_product_row F_lowest b_lowest g_lowest G_lowest F_dot b_dot g_dot G_dot m_tuple
  have G_determinant : FnOk PP w K mg base CX0 3 _ fd_determinant ["ground", "table"] (sp_determinant K) := ok_determinant F_determinant F_lowest b_lowest g_lowest G_lowest F_whole_row b_whole_row g_whole_row G_whole_row F_whole_determinant b_whole_determinant g_whole_determinant G_whole_determinant
  have G__law_plus : FnOk PP w K mg base CX0 3 _ fd__law_plus ["_law_g", "_law_x", "_law_y"] (sp__law_plus K) := ok__law_plus F__law_plus F__law_low b__law_low g__law_low G__law_low
  have G__law_times : FnOk PP w K mg base CX0 3 _ fd__law_times ["_law_g", "_law_x", "_law_y"] (sp__law_times K) := ok__law_times F__law_times F__law_low b__law_low g__law_low G__law_low
  have G__law_minus : FnOk PP w K mg base CX0 3 _ fd__law_minus ["_law_g", "_law_x"] (sp__law_minus K) := ok__law_minus F__law_minus F__law_low b__law_low g__law_low G__law_low
  have G__law_is_row : FnOk PP w K mg base CX0 3 _ fd__law_is_row ["_law_g", "_law_thing", "_law_many"] (sp__law_is_row K) := ok__law_is_row F__law_is_row F__law_is_number b__law_is_number g__law_is_number G__law_is_number m_isinstance m_tuple m_all m_len
  have G__law_number : FnOk PP w K mg base CX0 3 _ fd__law_number ["_law_bag_here", "_law_g"] (sp__law_number K) := ok__law_number F__law_number F__law_low b__law_low g__law_low G__law_low F__law_take b__law_take g__law_take G__law_take
  have G__law_odd_row : FnOk PP w K mg base CX0 3 _ fd__law_odd_row ["_law_bag_here", "_law_g", "_law_row_here"] (sp__law_odd_row K) := ok__law_odd_row F__law_odd_row F__law_take b__law_take g__law_take G__law_take F__law_odd b__law_odd g__law_odd G__law_odd m_list m_len
  have G_is_table : FnOk PP w K mg base CX0 4 _ fd_is_table ["ground", "thing", "high", "wide"] (sp_is_table K) := ok_is_table F_is_table F_is_row b_is_row g_is_row G_is_row m_all m_isinstance m_tuple m_len
  have G_product : FnOk PP w K mg base CX0 4 _ fd_product ["ground", "one", "other"] (sp_product K) := ok_product F_product F_whole_row b_whole_row g_whole_row G_whole_row F_turned b_turned g_turned G_turned F_product_row b_product_row g_product_row G_product_row m_tuple
  have G_row_plus : FnOk PP w K mg base CX0 4 _ fd_row_plus ["ground", "row", "other"] (sp_row_plus K) := ok_row_plus F_row_plus F_plus b_plus g_plus G_plus m_tuple m_zip
  have G_row_less : FnOk PP w K mg base CX0 4 _ fd_row_less ["ground", "row", "other"] (sp_row_less K) := ok_row_less F_row_less F_less b_less g_less G_less m_tuple m_zip
  have G_row_times : FnOk PP w K mg base CX0 4 _ fd_row_times ["ground", "row", "factor"] (sp_row_times K) := ok_row_times F_row_times F_times b_times g_times G_times m_tuple
  have G_want_rows : FnOk PP w K mg base (L2N.CX PP w) 4 _ fd_want_rows ["form", "things"] (sp_want_rows K) := ok_want_rows F_want_rows F_is_row b_is_row g_is_row G_is_row R_NoRow CF m_len
  have G__law_sum : FnOk PP w K mg base CX0 4 _ fd__law_sum ["_law_g", "_law_some"] (sp__law_sum K) := ok__law_sum F__law_sum F__law_plus b__law_plus g__law_plus G__law_plus
  have G__law_scaled : FnOk PP w K mg base CX0 4 _ fd__law_scaled ["_law_g", "_law_row_here", "_law_x"] (sp__law_scaled K) := ok__law_scaled F__law_scaled F__law_times b__law_times g__law_times G__law_times m_tuple
  have G__law_added : FnOk PP w K mg base CX0 4 _ fd__law_added ["_law_g", "_law_row_here", "_law_other"] (sp__law_added K) := ok__law_added F__law_added F__law_plus b__law_plus g__law_plus G__law_plus m_tuple m_zip
  have G__law_other_than_nought : FnOk PP w K mg base CX0 4 _ fd__law_other_than_nought ["_law_bag_here", "_law_g"] (sp__law_other_than_nought K) := ok__law_other_than_nought F__law_other_than_nought F__law_number b__law_number g__law_number G__law_number m_int
  have G__law_row : FnOk PP w K mg base CX0 4 _ fd__law_row ["_law_bag_here", "_law_g", "_law_many"] (sp__law_row K) := ok__law_row F__law_row F__law_number b__law_number g__law_number G__law_number m_tuple m_range
  have G_is_form_table : FnOk PP w K mg base CX0 5 _ fd_is_form_table ["ground", "thing"] (sp_is_form_table K) := ok_is_form_table F_is_form_table F_is_table b_is_table g_is_table G_is_table F_turned b_turned g_turned G_turned F_determinant b_determinant g_determinant G_determinant mg_MOST_LETTERS mg_MOST_LETTERS_ON_A_WHEEL m_len m_isinstance m_tuple
  have G_products : FnOk PP w K mg base CX0 5 _ fd_products ["form", "rows", "others"] (sp_products K) := ok_products F_products F_product b_product g_product G_product F_turned b_turned g_turned G_turned CF
  have G__law_through : FnOk PP w K mg base CX0 5 _ fd__law_through ["_law_g", "_law_row_here", "_law_table"] (sp__law_through K) := ok__law_through F__law_through F__law_added b__law_added g__law_added G__law_added F__law_scaled b__law_scaled g__law_scaled G__law_scaled m_tuple m_zip m_len
  have G_Form___init__ : FnOk PP w K mg base CX0 6 _ fd_Form___init__ ["self", "table", "ground"] (sp_Form___init__ K) := ok_Form___init__ F_Form___init__ F_is_ground b_is_ground g_is_ground G_is_ground F_is_form_table b_is_form_table g_is_form_table G_is_form_table CF
  have G_worth_of : FnOk PP w K mg base CX0 6 _ fd_worth_of ["form", "row"] (sp_worth_of K) := ok_worth_of F_worth_of F_products b_products g_products G_products
  have G__law_product : FnOk PP w K mg base CX0 6 _ fd__law_product ["_law_g", "_law_one", "_law_other"] (sp__law_product K) := ok__law_product F__law_product F__law_through b__law_through g__law_through G__law_through m_tuple
  have G__law_pair : FnOk PP w K mg base CX0 6 _ fd__law_pair ["_law_g", "_law_table", "_law_row_here", "_law_other"] (sp__law_pair K) := ok__law_pair F__law_pair F__law_sum b__law_sum g__law_sum G__law_sum F__law_times b__law_times g__law_times G__law_times F__law_through b__law_through g__law_through G__law_through m_zip
  have G_want_worths : FnOk PP w K mg base (L2N.CX PP w) 7 _ fd_want_worths ["form", "rows"] (sp_want_worths K) := ok_want_worths F_want_worths F_worth_of b_worth_of g_worth_of G_worth_of R_NoWorth
  have G_leading_mirrors : FnOk PP w K mg base CX0 7 _ fd_leading_mirrors ["form", "row", "other"] (sp_leading_mirrors K) := ok_leading_mirrors F_leading_mirrors F_row_less b_row_less g_row_less G_row_less F_row_plus b_row_plus g_row_plus G_row_plus F_worth_of b_worth_of g_worth_of G_worth_of CF
  have G__law_worth : FnOk PP w K mg base CX0 7 _ fd__law_worth ["_law_g", "_law_table", "_law_row_here"] (sp__law_worth K) := ok__law_worth F__law_worth F__law_pair b__law_pair g__law_pair G__law_pair
  have G__law_changed : FnOk PP w K mg base CX0 7 _ fd__law_changed ["_law_bag_here", "_law_g", "_law_table"] (sp__law_changed K) := ok__law_changed F__law_changed F__law_take b__law_take g__law_take G__law_take F__law_product b__law_product g__law_product G__law_product F__law_turned b__law_turned g__law_turned G__law_turned F__law_minus b__law_minus g__law_minus G__law_minus F__law_low b__law_low g__law_low G__law_low F__law_ones b__law_ones g__law_ones G__law_ones m_len m_range m_tuple m_list
  have G_leading : FnOk PP w K mg base (L2N.CX PP w) 8 _ fd_leading ["form", "row", "other"] (sp_leading K) := ok_leading F_leading F_want_rows b_want_rows g_want_rows G_want_rows F_want_worths b_want_worths g_want_worths G_want_worths F_leading_mirrors b_leading_mirrors g_leading_mirrors G_leading_mirrors F_worth_of b_worth_of g_worth_of G_worth_of R_NoPlace
  have G_led : FnOk PP w K mg base (L2N.CX PP w) 8 _ fd_led ["form", "row", "other"] (sp_led K) := ok_led F_led F_want_rows b_want_rows g_want_rows G_want_rows F_want_worths b_want_worths g_want_worths G_want_worths F_root_or_none b_root_or_none g_root_or_none G_root_or_none F_over b_over g_over G_over F_leading_mirrors b_leading_mirrors g_leading_mirrors G_leading_mirrors F_worth_of b_worth_of g_worth_of G_worth_of F_row_times b_row_times g_row_times G_row_times CF
  have G__law_form : FnOk PP w K mg base CX0 8 _ fd__law_form ["_law_bag_here", "_law_g", "_law_many"] (sp__law_form K) := ok__law_form F__law_form F__law_take b__law_take g__law_take G__law_take F__law_minus b__law_minus g__law_minus G__law_minus F__law_changed b__law_changed g__law_changed G__law_changed F__law_other_than_nought b__law_other_than_nought g__law_other_than_nought G__law_other_than_nought m_tuple m_range
  have G__law_with_worth : FnOk PP w K mg base CX0 8 _ fd__law_with_worth ["_law_bag_here", "_law_g", "_law_table"] (sp__law_with_worth K) := ok__law_with_worth F__law_with_worth F__law_ones b__law_ones g__law_ones G__law_ones F__law_row b__law_row g__law_row G__law_row F__law_mixed b__law_mixed g__law_mixed G__law_mixed F__law_added b__law_added g__law_added G__law_added F__law_worth b__law_worth g__law_worth G__law_worth m_len m_range m_list
  have G__law_due : FnOk PP w K mg base CX0 8 _ fd__law_due ["_law_g", "_law_table", "_law_row_here", "_law_other"] (sp__law_due K) := ok__law_due F__law_due F__law_worth b__law_worth g__law_worth G__law_worth F__law_is_row b__law_is_row g__law_is_row G__law_is_row m_len
  have G__law_is_refused : FnOk PP w K mg base CX0 11 _ fd__law_is_refused ["_law_form_here", "_law_g", "_law_table", "_law_row_here", "_law_other"] (sp__law_is_refused K (lamTabs K)) := ok__law_is_refused F__law_is_refused F__law_due b__law_due g__law_due G__law_due F__law_refusal b__law_refusal g__law_refusal F_leading b_leading g_leading G_leading F_led b_led g_led G_led FC__law_is_refused TB__law_is_refused hm__law_is_refused hu__law_is_refused MG MC_NoRow MC_NoWorth MC_NoPlace
  exact ok_law (T := lamTabs K) F_law F__law_bag b__law_bag g__law_bag G__law_bag F__law_ground b__law_ground g__law_ground G__law_ground F__law_letters b__law_letters g__law_letters G__law_letters F__law_form b__law_form g__law_form G__law_form F__law_with_worth b__law_with_worth g__law_with_worth G__law_with_worth F__law_added b__law_added g__law_added G__law_added F__law_scaled b__law_scaled g__law_scaled G__law_scaled F__law_row b__law_row g__law_row G__law_row F__law_minus b__law_minus g__law_minus G__law_minus F__law_low b__law_low g__law_low G__law_low F__law_odd_row b__law_odd_row g__law_odd_row G__law_odd_row F__law_is_refused b__law_is_refused g__law_is_refused G__law_is_refused F_Form___init__ M_Form gc_Form kb_Form_1_ground G_Form___init__ m_range m_max m_min m_tuple m_len m_all

end Fm
open PySem PySem.W PySem.Calls PyProof.Rows
set_option maxHeartbeats 0 in
theorem PySem.Challenge.cw_fewmirrors_k18_leading_refused_holds : PySem.Challenge.rw_fewmirrors_k18_leading_refused.Holds := by
  w_on; o_law
  refine HandSHeadRun.head_any (r := OpenLaw.row PySem.Challenge.rw_fewmirrors_k18_leading_refused) (q := view (OpenLaw.row PySem.Challenge.rw_fewmirrors_k18_leading_refused).prog [103]) (H := Fm.hk) (ob := Fm.ob) (M := 9000) (loose := Fm.loose) (d := HandSHeadRun.topDef (OpenLaw.row PySem.Challenge.rw_fewmirrors_k18_leading_refused).prog 103) (kwd := []) Fm.ob_eq
    (by kernel_rfl) (fun s => by kernel_rfl) Fm.run (by kernel_rfl) (by kernel_rfl) (by kernel_rfl) (by rfl) (by first | assumption | decide +kernel) (by decide +kernel) ⟨rfl, rfl, rfl, rfl, rfl, by decide +kernel⟩ ?hw ?hc
  case hw => w_witness2
  case hc =>
    refine LamX.walk_ofTsE (l := PySem.Challenge.rw_fewmirrors_k18_leading_refused) (n := 63) (k := 12) (x := "_law_script") (CX := fun _ => L2.CX0) rfl (by decide) (by kernel_rfl) ⟨rfl, by decide, by decide⟩ ?F (fun _ _ _ _ _ z => z)
    intro w mg fa h Y G hmg0
    obtain ⟨K, KX, c⟩ := Y
    have hmg : mg ("law" : PySem.Str) = some (.ref fa) := by
      have e : (HandSHeadRun.topDef (OpenLaw.row PySem.Challenge.rw_fewmirrors_k18_leading_refused).prog 103).name = ("law" : PySem.Str) := by kernel_rfl
      rw [← e]
      exact hmg0
    obtain ⟨fd, hb, hF⟩ := Fm.facts (w := w) KX G hmg c
    refine ⟨K, KX, fd, Fm.tf.map (He.cT K), Fm.sp_law K (Fm.lamTabs K), fun p hp => ?_, fun p hp => ?_, fun p hp => ?_, hb, fun H a ns hl _ hH hS => ?_, fun base h1 h2 h3 => hF base h1 h2 h3⟩
    · obtain ⟨q, hq, rfl⟩ := List.mem_map.mp hp
      exact c.empty q hq
    · obtain ⟨q, hq, rfl⟩ := List.mem_map.mp hp
      exact c.out q hq
    · obtain ⟨q, hq, rfl⟩ := List.mem_map.mp hp
      exact codeHd_of_K KX (c.hd q hq)
    · refine ⟨a, ns, rfl, hS, fun p hp => ?_, fun _ => rfl⟩
      unfold Fm.lamTabs at hp
      simp only [List.mem_cons, List.not_mem_nil, or_false] at hp
      have key : ∀ q ∈ Fm.tf, H (He.cT K q).2 = some (.tbl #[]) := fun q hq => hH _ (List.mem_map.mpr ⟨q, hq, rfl⟩)
      rcases hp with rfl <;> exact LamX.TabS.nil (key _ (by unfold Fm.tf; simp))
