import PyProof.Rows.All
import Wide.All
import OpenK.AllK
import Wide.FinOn
import KE.KStateDown
import HandS.ForMost
import HandS.ForExc
import HandS.More
import HandS.Defaults
import HandS.IsInst
import HandS.Wide
import HandS.Conv
import HandS.Flow
import HandS.Zip
import HandS.Head0
import HandS.Head1
import HandS.Head2
import HandS.HeadEnd
import HandS.HeadHook1
import HandS.HeadHook2
import KE.GoesMore
import KE.GoesEnum
import HandS.OwnEq
import HandS.SortRule
import HandS.Deep
import HandS.ExcIs
import HandS.TryMany
import HandS.CallSlots
import HandS.Strs
import HandS.SortInts
import HandS.RevRange
import HandS.SlotsOwn
import HandS.TupMul
import HandS.TupAny
import HandS.Rev
import HandS.Star
import HandS.Gcd
import HandS.Style
import HandS.Head3
import PySem.Challenge.RW_stepsvanish_k02_targets_let_by
set_option Elab.async false
set_option linter.all false
set_option maxRecDepth 100000
namespace Rd
open PySem PySem.Spec PyProof.Rows L2
/-! ### readings, step by step -/
section
variable {D : Ends} {σ : L2.St} {H : Hp} {t u : TS} {te ta tb tc : TE} {g : TG} {Q : VK} {v x y z : V} {c c1 c2 : TT} {i j : Int} {n : Nat} {K : PySem.W.Frag} {r r' : R2}
theorem seq (h : t { D with nx := u D } σ H) : tSeq t u D σ H := h
theorem seqA {u : TS} (h : tAsg te g { D with nx := u D } σ H) : tSeq (tAsg te g) u D σ H := h
theorem seqD {u : TS} (h : tDrop te { D with nx := u D } σ H) : tSeq (tDrop te) u D σ H := h
theorem seqF {u : TS} {wi : TI} {tb : TS} (h : tFor wi g tb { D with nx := u D } σ H) : tSeq (tFor wi g tb) u D σ H := h
theorem seqW {u : TS} {tb : TS} (h : tWhile c tb { D with nx := u D } σ H) : tSeq (tWhile c tb) u D σ H := h
/-- ways that join: what holds behind t, said once -/
theorem seqJ (P : L2.St → Hp → Prop) (h1 : ∀ σ' H', P σ' H' → u D σ' H') (h2 : ∀ N : L2.St → Hp → Prop, (∀ σ' H', P σ' H' → N σ' H') → t { D with nx := N } σ H) : tSeq t u D σ H := h2 _ h1
theorem nxt (h : D.nx σ H) : tNext D σ H := h
theorem asg (h : te σ H fun x H1 => g x σ H1 D.nx) : tAsg te g D σ H := h
theorem nm {P : L2.St → Hp → Prop} (h : P (σ.set n (some v)) H) : gName n v σ H P := h
theorem sub {to ti : TE} {t : TSet} {P : L2.St → Hp → Prop} (h : to σ H fun o H1 => ti σ H1 fun i H2 => t o i v H2 fun H3 => P σ H3) : gSub to ti t v σ H P := h
theorem setL {p : Addr} {xs : List V} {k : Int} {j : Nat} {P : Hp → Prop} (h1 : H p = some (.lst xs)) (h2 : ixN xs.length k = some j) (h : P (upd H p (.lst (xs.set j v)))) : rSetL (.ref p) (.int k) v H P := ⟨p, xs, k, j, rfl, rfl, h1, h2, h⟩
theorem var (e : σ[n]? = some (some v)) (h : Q v H) : tVar n σ H Q := ⟨v, e, h⟩
theorem con (h : Q v H) : tC v σ H Q := h
theorem op (h : ta σ H fun x H1 => tb σ H1 fun y H2 => r x y H2 Q) : tOp r ta tb σ H Q := h
theorem i0 {f : Int → Int → V} (h : Q (f i j) H) : rI0 f (.int i) (.int j) H Q := ⟨i, j, rfl, rfl, h⟩
theorem iC {C : Int → Int → Prop} {f : Int → Int → V} (hc : C i j) (h : Q (f i j) H) : rI C f (.int i) (.int j) H Q := ⟨i, j, rfl, rfl, hc, h⟩
theorem un {r : V → Hp → VK → Prop} (h : ta σ H fun x H1 => r x H1 Q) : tUn r ta σ H Q := h
theorem u0 {f : Int → V} (h : Q (f i) H) : rU f (.int i) H Q := ⟨i, rfl, h⟩
theorem eqI (h : Q (.bl (decide (i = j))) H) : rEq (.int i) (.int j) H Q := ⟨rfl, (show Q (.bl (decide (V.int i = V.int j))) H from by rw [show decide (V.int i = V.int j) = decide (i = j) from decide_eq_decide.mpr ⟨V.int.inj, congrArg _⟩]; exact h)⟩
theorem neI (h : Q (.bl (!decide (i = j))) H) : rNe (.int i) (.int j) H Q := ⟨rfl, (show Q (.bl (!decide (V.int i = V.int j))) H from by rw [show decide (V.int i = V.int j) = decide (i = j) from decide_eq_decide.mpr ⟨V.int.inj, congrArg _⟩]; exact h)⟩
theorem eqB {a b : Bool} (h : Q (.bl (a == b)) H) : rEq (.bl a) (.bl b) H Q := ⟨rfl, (show Q (.bl (decide (V.bl a = V.bl b))) H from by rw [dec_bl]; exact h)⟩
theorem tst {P : Bool → Hp → Prop} (h : te σ H fun x H' => ∃ k, x = .bl k ∧ P k H') : tTest te σ H P := h
theorem tB_ {P : Bool → Hp → Prop} (h : te σ H fun x H' => ∃ k, x = .bl k ∧ P k H') : tB te σ H P := h
theorem exb {P : Bool → Prop} {b : Bool} (h : P b) : ∃ k, V.bl b = .bl k ∧ P k := ⟨b, rfl, h⟩
theorem ifS (h : c σ H fun b H1 => if b = true then t D σ H1 else u D σ H1) : tIfS c t u D σ H := h
theorem ret (h : te σ H D.rt) : tRet te D σ H := h
theorem retN (h : D.rt .non H) : tRetN D σ H := h
theorem drop (h : te σ H fun _ H1 => D.nx σ H1) : tDrop te D σ H := h
theorem nil {P : List V → Hp → Prop} (h : P [] H) : tNil σ H P := h
theorem cons {ts : TA} {P : List V → Hp → Prop} (h : ta σ H fun x H1 => ts σ H1 fun xs H2 => P (x :: xs) H2) : tCons ta ts σ H P := h
theorem cb {r : List V → Hp → VK → Prop} {ts : TA} (h : ts σ H fun vs H1 => r vs H1 Q) : tCB r ts σ H Q := h
theorem call {sp : Sp} {E : XK} {ts : TA} (h : ts σ H fun vs H1 => sp (vs ++ []) H1 Q E) : tCall sp [] E ts σ H Q := h
theorem andT {P : Bool → Hp → Prop} (h : c1 σ H fun b H1 => if b = true then c2 σ H1 P else P false H1) : tAnd c1 c2 σ H P := h
theorem orT {P : Bool → Hp → Prop} (h : c1 σ H fun b H1 => if b = true then P true H1 else c2 σ H1 P) : tOr c1 c2 σ H P := h
theorem notT {P : Bool → Hp → Prop} (h : c σ H fun b H1 => P (!b) H1) : tNot c σ H P := h
theorem andV (h : ta σ H fun x H1 => ∃ c, x = .bl c ∧ if c = true then tb σ H1 Q else Q (.bl false) H1) : tAndV ta tb σ H Q := h
theorem orV (h : ta σ H fun x H1 => ∃ c, x = .bl c ∧ if c = true then Q (.bl true) H1 else tb σ H1 Q) : tOrV ta tb σ H Q := h
theorem notV (h : ta σ H fun x H1 => ∃ c, x = .bl c ∧ Q (.bl (!c)) H1) : tNotV ta σ H Q := h
theorem chain (h : ta σ H fun x H1 => tb σ H1 fun y H2 => r x y H2 fun z H3 => ∃ k, z = .bl k ∧ (if k = true then tc σ H3 fun w' H4 => r' y w' H4 Q else Q (.bl false) H3)) : tChain r r' ta tb tc σ H Q := h
theorem ixL {p : Addr} {xs : List V} (h1 : SqL K H p xs) (h2 : atI xs i = some v) (h : Q v H) : rIxL K (.ref p) (.int i) H Q := ⟨p, xs, i, v, rfl, rfl, h1, h2, h⟩
theorem ixT {p : Addr} {xs : List V} (h1 : SqT K H p xs) (h2 : atI xs i = some v) (h : Q v H) : rIxT K (.ref p) (.int i) H Q := ⟨p, xs, i, v, rfl, rfl, h1, h2, h⟩
theorem lst {ts : TA} (h : ts σ H fun xs H1 => xs.length ≤ sizeLine ∧ ∀ p, H1 p = none → Q (.ref p) (upd H1 p (.lst xs))) : tLst ts σ H Q := h
theorem tup {ts : TA} (h : ts σ H fun xs H1 => xs.length ≤ sizeLine ∧ ∀ p, H1 p = none → Q (.ref p) (upd H1 p (.tup xs))) : tTup ts σ H Q := h
theorem for_ {wi : TI} {tb : TS} (h : wi σ H fun J H1 => ∃ W : Nat → Nat → L2.St → Hp → Prop, (∃ m, W 0 m σ H1) ∧ ∀ i m σ H, W i m σ H →
  (J.stop i H ∧ D.nx σ H) ∨ (J.go i H ∧ ∃ N : L2.St → Hp → Prop, (∀ σ' H', N σ' H' → ∃ m', m' < m ∧ W (i + 1) m' σ' H') ∧ ∀ x H', J.yld i H x H' → g x σ H' fun σ2 H2 => tb { D with nx := N, ct := N, bk := D.nx } σ2 H2)) : tFor wi g tb D σ H := h
theorem rng1 {ts : TA} {R : It → Hp → Prop} (h : ts σ H fun vs H1 => ∃ j : Int, vs = [.int j] ∧ -(2 ^ 62) ≤ j ∧ j < 2 ^ 62 ∧ R (Itr 0 j.toNat) H1) : iRng1 ts σ H R := h
theorem rng1' {j : Int} {P : Int → Prop} (h1 : -(2 ^ 62) ≤ j) (h2 : j < 2 ^ 62) (h : P j) : ∃ k : Int, [V.int j] = [.int k] ∧ -(2 ^ 62) ≤ k ∧ k < 2 ^ 62 ∧ P k := ⟨j, rfl, h1, h2, h⟩
theorem rng2' {i j : Int} {P : Int → Int → Prop} (h1 : -(2 ^ 62) ≤ i ∧ i < 2 ^ 62 ∧ -(2 ^ 62) ≤ j ∧ j < 2 ^ 62) (h : P i j) : ∃ a b : Int, [V.int i, V.int j] = [.int a, .int b] ∧ (-(2 ^ 62) ≤ a ∧ a < 2 ^ 62 ∧ -(2 ^ 62) ≤ b ∧ b < 2 ^ 62) ∧ P a b := ⟨i, j, rfl, h1, h⟩
theorem lrg {te : L2.St → Hp → (Int → Int → Hp → Prop) → Prop} (h : te σ H fun a b H1 => RgOk a b ∧ ∀ q, H1 q = none → Q (.ref q) (upd H1 q (.lst (rgV a b)))) : tLstRg te σ H Q := h
theorem rg1 {P : Int → Int → Hp → Prop} (h : ta σ H fun x H1 => ∃ n, x = .int n ∧ P 0 n H1) : tRg1 ta σ H P := h
theorem rg2 {P : Int → Int → Hp → Prop} (h : ta σ H fun x H1 => tb σ H1 fun y H2 => ∃ i j, x = .int i ∧ y = .int j ∧ P i j H2) : tRg2 ta tb σ H P := h
theorem exi {P : Int → Prop} (h : P i) : ∃ n, V.int i = .int n ∧ P n := ⟨i, rfl, h⟩
theorem exi2 {P : Int → Int → Prop} (h : P i j) : ∃ a b, V.int i = .int a ∧ V.int j = .int b ∧ P a b := ⟨i, j, rfl, rfl, h⟩
theorem rng2 {ts : TA} {R : It → Hp → Prop} (h : ts σ H fun vs H1 => ∃ i j : Int, vs = [.int i, .int j] ∧ (-(2 ^ 62) ≤ i ∧ i < 2 ^ 62 ∧ -(2 ^ 62) ≤ j ∧ j < 2 ^ 62) ∧ R (Itr i (j - i).toNat) H1) : iRng2 ts σ H R := h
theorem itl {tl : TE} {R : It → Hp → Prop} (h : tl σ H fun x H1 => ∃ a, x = .ref a ∧ (∃ xs, SqL K H1 a xs) ∧ R (Itl K a) H1) : iList K tl σ H R := h
theorem itt {tl : TE} {R : It → Hp → Prop} (h : tl σ H fun x H1 => ∃ a, x = .ref a ∧ (∃ xs, SqT K H1 a xs) ∧ R (Itt K a) H1) : iTup K tl σ H R := h
theorem itl' {a : Addr} {xs : List V} {P : Addr → Prop} (h1 : SqL K H a xs) (h : P a) : ∃ b, V.ref a = .ref b ∧ (∃ xs, SqL K H b xs) ∧ P b := ⟨a, rfl, ⟨xs, h1⟩, h⟩
theorem itt' {a : Addr} {xs : List V} {P : Addr → Prop} (h1 : SqT K H a xs) (h : P a) : ∃ b, V.ref a = .ref b ∧ (∃ xs, SqT K H b xs) ∧ P b := ⟨a, rfl, ⟨xs, h1⟩, h⟩
theorem ite_d {A B C : Prop} [Decidable C] (h1 : C → A) (h2 : ¬ C → B) : if decide C = true then A else B := by
  by_cases h : C
  · rw [if_pos (decide_eq_true h)]; exact h1 h
  · rw [if_neg (by rw [decide_eq_false h]; exact Bool.false_ne_true)]; exact h2 h
theorem ite_n {A B C : Prop} [Decidable C] (h1 : ¬ C → A) (h2 : C → B) : if (!decide C) = true then A else B := by
  by_cases h : C
  · rw [decide_eq_true h]; exact (if_neg Bool.false_ne_true).mpr (h2 h)
  · rw [decide_eq_false h]; exact (if_pos rfl).mpr (h1 h)
theorem ite_b {A B : Prop} {b : Bool} (h1 : b = true → A) (h2 : b = false → B) : if b = true then A else B := by
  cases b with
  | true => exact (if_pos rfl).mpr (h1 rfl)
  | false => exact (if_neg Bool.false_ne_true).mpr (h2 rfl)
theorem ite_nb {A B : Prop} {b : Bool} (h1 : b = false → A) (h2 : b = true → B) : if (!b) = true then A else B := by
  cases b with
  | true => exact (if_neg Bool.false_ne_true).mpr (h2 rfl)
  | false => exact (if_pos rfl).mpr (h1 rfl)
theorem len1 {p : Addr} {xs : List V} {P : Addr → List V → Prop} (h1 : SqL K H p xs ∨ SqT K H p xs) (h : P p xs) : ∃ q ys, [V.ref p] = [.ref q] ∧ (SqL K H q ys ∨ SqT K H q ys) ∧ P q ys := ⟨p, xs, rfl, h1, h⟩
theorem int1 {P : Int → Prop} {B : Prop} (h : P i) : (∃ j, [V.int i] = [.int j] ∧ P j) ∨ B := Or.inl ⟨i, rfl, h⟩
theorem ex1 {P : Int → Prop} (h : P i) : ∃ j, [V.int i] = [.int j] ∧ P j := ⟨i, rfl, h⟩
theorem ex2 {P : Int → Int → Prop} (h : P i j) : ∃ a b, [V.int i, V.int j] = [.int a, .int b] ∧ P a b := ⟨i, j, rfl, h⟩

theorem isi {T : String} {t : Value} {b : Bool} (ty : TyX K H x t) (e : PySem.W.kitOne K t (.type T) = some b) (h : Q (.bl b) H) : rIsi K [x, .ty T] H Q := ⟨x, .ty T, t, .type T, b, rfl, .ty T, ty, e, h⟩
end
theorem kit_ty {K : PySem.W.Frag} {a b : String} {v : Bool} (h : PySem.W.kitOne [] (.type a) (.type b) = some v) (h2 : ∀ K : PySem.W.Frag, PySem.W.kitOne K (.type a) (.type b) = PySem.W.kitOne [] (.type a) (.type b) := by intro K; rfl) : PySem.W.kitOne K (.type a) (.type b) = some v := (h2 K).trans h
theorem RelV_ty (n : String) : RelV (.ty n) (.type n) := rfl
/-! ### heaps -/
theorem same_mk {H : Hp} {p : Addr} {o : HO} (h : H p = none) : Same H (upd H p o) := fun b w e => by
  rw [upd_ne (ne_of_none e h)]
  exact e
theorem same_t {K : PySem.W.Frag} {H H' : Hp} {a : Addr} {xs : List V} (e : Same H H') (h : SqT K H a xs) : SqT K H' a xs := by
  rcases h with (h | ⟨o,
        h⟩) | h
  · exact .inl (.inl (e _ _ h))
  · exact .inl (.inr
        ⟨o, e _ _ h⟩)
  · exact .inr h
theorem same_mut {H H' : Hp} {p : Addr} {o : HO} (e : Same H H') (h : H p = none) : Same H (upd H' p o) := fun b w hb => by
  rw [upd_ne (ne_of_none hb h)]
  exact e _ _ hb
theorem same_add {H H' : Hp} {p : Addr} {o : HO} (e : Same H H') (h : H' p = none) : Same H (upd H' p o) := fun b w hb => by
  rw [upd_ne (ne_of_none (e _ _ hb) h)]
  exact e _ _ hb
/-- all but a -/
def But (a : Addr) (H H' : Hp) : Prop := ∀ b o, b ≠ a → H b = some o → H' b = some o
theorem But.refl (a : Addr) (H : Hp) : But a H H := fun _ _ _ h => h
theorem But.trans {a : Addr} {H H1 H2 : Hp} (x : But a H H1) (y : But a H1 H2) : But a H H2 := fun b o n h => y b o n (x b o n h)
theorem But.put {a : Addr} {H : Hp} {o : HO} : But a H (upd H a o) := fun b w n e => by rw [upd_ne n]; exact e
theorem But.of {a : Addr} {H H' : Hp} (x : Same H H') : But a H H' := fun b o _ h => x b o h
/-! ### a def, called -/
structure DOk (P : Program) (w : World) (K : PySem.W.Frag) (mg : Str → Option Value) (base : Heap) (CX : CXT) (x : Str) (k : Nat) (ps : List Str) (sp : Sp) : Prop where
  ok : ∃ f fd, FnOk P w K mg base CX k f fd ps sp ∧ mg x = some (.ref f) ∧ PySem.W.keepIn K (.ref f) = true ∧ Binds K fd ps []
section
variable {X : Cx} {x : Str} {p pos : Pos} {e : Expr} {es : List Expr} {ts : TA} {k : Nat} {ps : List Str} {sp : Sp}
theorem callD (D : DOk X.prog X.w X.K X.mg X.base CX0 x k ps sp) (hr : Room k X.A) (ha : PA X (e :: es) ts) (hg : Gl X x := by rfl) (hdb : (x == ("__debug__" : Str)) = false := by decide)
    (he : starEach (e :: es) X.env = (false, eval e X.env) :: starEach es X.env :=
          by rfl) (hpl : (backTo pos (starEach es X.env)).any (·.1) = false := by rfl) :
    PE X (.Call (.Name x p) (e :: es) [] pos) (tCall sp [] E0 ts) := by
  obtain ⟨f, fd, F, hm, hk, hb⟩ := D.ok
  exact pe_call F hr hg hm hk hb .nil pass0 ha hdb he hpl
theorem callD0 (D : DOk X.prog X.w X.K X.mg X.base CX0 x k ps sp) (hr : Room k X.A) (hg : Gl X x := by rfl) (hdb : (x == ("__debug__" : Str)) = false := by decide) :
    PE X (.Call (.Name x p) [] [] pos) (tCall sp [] E0 tNil) := by
  obtain ⟨f, fd, F, hm, hk, hb⟩ := D.ok
  exact pe_call0 F hr hg hm hk hb .nil pass0 hdb
end
/-- a def of the text, without defaults, as a datum of the head -/
abbrev FnP (K : PySem.W.Frag) (x q : Str) (st : Stmt) (f : Addr) (fd : FuncData) : Prop := FunD K x q (defArgs st) (defBody st) (defScope st) [] [] f fd
end Rd

set_option Elab.async false
set_option linter.all false
set_option maxRecDepth 100000
set_option maxHeartbeats 2000000
/-! rules of this repo's own: what the layer lacks -/
namespace Rx
open PySem PySem.Spec PyProof.Rows L2 RZ
open AutoSeq1 (wpAny_loadPart')
/-! ### enumerate over a tuple -/
theorem enumNewT (l : Addr) (vals : Array Value) (n : Nat) (dct : Option Addr) (sl : Array (Option Value)) :
    Meets (Builtin.«enumerate.__new__» ⟨[.type "enumerate", .ref l], []⟩) (fun _ R s => s.heap.get? l = some { cls := .type "tuple", dict := dct, data := .seq vals n, slots := sl } ∧
      R (.ok (.ret (.ref (s.heap.push { cls := .type "tuple_iterator", data := .fields #[.ref l, .int 0 0] }).objs.size)))
        { s with heap := (s.heap.push { cls := .type "tuple_iterator", data := .fields #[.ref l, .int 0 0] }).push { cls := .type "enumerate", data := .fields #[.none, .bool false, .ref s.heap.objs.size, rawInt 0, .none, .none] } }) :=
  .of_wp fun prog
        w A R s h => by
    obtain ⟨hp, g,
          d, tk, os⟩ := s
    obtain ⟨hl, h⟩ := h
    have hsub := sub_enumerate
    have hT : Heap.IsTuple (Shared.heap ⟨hp, g, d, tk, os⟩) l vals := ⟨_, hl, rfl, n, rfl⟩
    wp_walk using
          wpAny_loadPart' hl
    refine wpAny_stack_any
          fun st => wpAny_pure ?_
    split
    · rename_i c _ _ _ _ _
      cases (c == Value.type
            "enumerate")
      · wp_walk using wpAny_loadPart' hl, wpAny_pyIter_tuple hT
        exact ⟨_, rfl, h⟩
      · wp_walk using wpAny_loadPart' hl, wpAny_pyIter_tuple hT
        exact ⟨_, rfl, h⟩
    · wp_walk using wpAny_loadPart' hl, wpAny_pyIter_tuple hT
      exact ⟨_, rfl, h⟩
section
variable {prog : Program} {w : World} {A :
      Around} {E : Value → Shared → Prop} {s : Shared}
theorem callEnumT {l : Addr} {vals : Array Value} {Q : Value → Shared → Prop} (hL : s.heap.IsTuple l vals)
    (h : ∀ h', IsEnum h' (s.heap.objs.size + 1) s.heap.objs.size 0 .none → h'.IsTupleIter s.heap.objs.size l 0 → h'.objs.size = s.heap.objs.size + 2 →
      (∀ b o, s.heap.get? b = some o → h'.get? b = some
            o) → Q (.ref (s.heap.objs.size + 1)) { s with heap := h' }) :
    wpAny (model prog w) A (PySem.call (.type "enumerate") [.ref l]) Q E s := by
  obtain ⟨⟨c, dct, dt, sl⟩,
        hl, hc, n, hd⟩ := hL
  replace hc : c = .type "tuple" := hc
  replace hd : dt = .seq vals n := hd
  subst hc hd
  refine callType_new F.called_enumerate (by decide) (F.typeCall_enumerate_1
        _) (F.newCall_enumerate_1 _) (fun obj => F.args_object_init_2 obj _) F.entry_enumerate_new
    (enumNewT l vals n dct sl) ⟨hl, ?_⟩
  have hz : (s.heap.push { cls := .type "tuple_iterator", data := .fields #[.ref l, .int 0 0] }).objs.size = s.heap.objs.size + 1 := Heap.size_push ..
  show _ ∧ _
  rw [hz]
  have he : IsEnum ((s.heap.push { cls := .type "tuple_iterator", data := .fields #[.ref l, .int 0 0] }).push
      { cls := .type "enumerate", data := .fields #[.none, .bool false, .ref s.heap.objs.size,
            rawInt 0, .none, .none] }) (s.heap.objs.size + 1) s.heap.objs.size 0 .none := by
    have := Heap.get?_push_size (s.heap.push { cls := .type "tuple_iterator", data := .fields #[.ref l, .int 0 0] })
      (o := { cls := .type "enumerate", data := .fields #[.none, .bool
            false, .ref s.heap.objs.size, rawInt 0, .none, .none] }) rfl
    rw [hz] at this; exact this
  refine ⟨⟨_, he, rfl⟩, h _ he ⟨_, Heap.get?_push_of_some _ (Heap.get?_push_size _ rfl), rfl, rfl⟩
        (by rw [Heap.size_push, hz]) fun b o x => Heap.get?_push_of_some _ (Heap.get?_push_of_some _ x)⟩
end
/-- the tuple at a, each item in a new pair with its place -/
def IteT (K : PySem.W.Frag) (a : Addr) : It :=
  ⟨fun i H => ∃ (xs : List V) (x : V), SqT K H a xs ∧ xs[i]? = some x, fun i H v H' => ∃ T x, v = .ref T ∧ H T = none ∧ H' = upd H T (.tup [.int (i : Nat), x]) ∧ ∀ xs, SqT K H a xs → xs[i]? = some x, fun i H => ∃ xs : List V, SqT K H a xs ∧ xs.length ≤ i⟩
theorem turnEnumT {P : Program} {w : World} {K : PySem.W.Frag} {elts : List Expr} {kk : Nat} {tpos : Pos} (a e it : Addr) :
    Turn P w K (.Tuple elts kk tpos) (IteT K a) [e, it] e (fun i h => (∃ old, IsEnum h e it ((i : Nat) : Int) old) ∧ h.IsTupleIter it a i ∧ e ≠ it ∧ a ≠ it ∧ e ≠ a) where
  mem := by simp
  obj := fun i h st b hb => by
    obtain ⟨⟨old, he⟩, ⟨o,
          ho, hc, hd⟩, _⟩ := st
    have e' : b = e ∨ b =
          it := by simpa using hb
    rcases e' with z | z
    · rw [z]; exact ⟨_, he,
          fun v q => nomatch q⟩
    · rw [z]; exact ⟨o, ho, fun v
          q => by rw [hd] at q; cases q⟩
  keep := fun i h h' st k => let ⟨⟨old, he⟩, hi, hne⟩ := st; ⟨⟨old,
        k e (by simp) _ he⟩, hi.at fun o q => k it (by simp) o q, hne⟩
  item := by
    intro X hP hw hK hc i
          pins s σ H E I hf st hg
    subst hP hw hK
    obtain ⟨⟨old, he⟩, hit, hne, hat, hea⟩ := st
    obtain ⟨xs, x, hq, hx⟩ := hg
    obtain ⟨its, rv, p,
          hz⟩ := I.tuple hq
    obtain ⟨u, hu,
          ru⟩ := rv.get hx
    have hel : e < s.heap.objs.size
          := Heap.lt_size he
    have hil : it < s.heap.objs.size := by
      obtain ⟨_, q, _⟩ := hit
      exact Heap.lt_size q
    have hlt : i < its.toArray.size := by
      have := (List.getElem?_eq_some_iff.mp hu).1
      simpa using this
    have D := Draws.tuple (prog := X.prog) (w := X.w) (A := X.A.in1) (I.ok.hd hc) it a hat its.toArray
    refine wpAny_pyNext_enum_itemD D he ⟨hit, p⟩ hlt hne (by simp only [List.mem_cons, List.not_mem_nil, or_false, not_or]; exact ⟨hne, hea⟩) fun y h' tk hy ho hit' hT hsz hk => ?_
    have ey : y = u := by
      have h1 : its.toArray[i]? = some u := by simpa using hu
      rw [h1] at hy
      exact (Option.some.inj hy).symm
    subst ey
    refine ⟨_, rfl, wpAny_letOwnedTupleGo_enum (s := { s with heap := h', toks := tk + 1 }) ho fun h'' he' sb => ?_⟩
    have hT2 : h''.get? s.heap.objs.size = some { cls := .type "tuple", data := .seq #[.int i tk, y] } := (sb.2 _ (Nat.ne_of_gt hel)).trans hT
    have new : ObjOk X.prog X.w (upd H s.heap.objs.size (.tup [.int (i
          : Nat), x])) h'' s.heap.objs.size (.tup [.int (i : Nat), x]) :=
      ⟨by show 2 ≤ sizeLine; decide, [.int i tk, y], .cons ⟨_, rfl⟩ (.cons ru .nil), ⟨_, hT2, rfl, _, rfl⟩⟩
    have I1 : Inv X pins σ (upd H s.heap.objs.size (.tup [.int (i : Nat), x])) { s with heap := h'', toks := tk + 1 } :=
      I.turnedNew (ch := [e, it]) (fun b ob hb q => (sb.2 b (fun z => hb (by simp [z]))).trans
            (hk b ob (fun z => hb (by simp [z])) (fun z => hb (by simp [z])) q)) hf (Nat.le_refl _) new
    refine ⟨.ref s.heap.objs.size, _, I1, rfl, ⟨_, x, rfl, I.hok.fresh (Nat.le_refl _), rfl, fun ys hy => by rw [I.tuple_inj hy hq]; exact hx⟩, ⟨⟨y, ?_⟩, hit'.1.at fun o q => (sb.2 it (Ne.symm hne)).trans q, hne, hat, hea⟩, fun b hb => ?_⟩
    · have e1 : ((i + 1 : Nat) :
          Int) = (i : Int) + 1 := by omega
      rw [e1]; exact he'
    · have hb' : b <
          s.heap.objs.size := by
        have e' : b = e ∨ b =
              it := by simpa using hb
        rcases e' with z | z
        · rw [z]; exact hel
        · rw [z]; exact hil
      rw [upd_ne
            (Nat.ne_of_lt hb')]
      exact (hf b hb).1
  done := by
    intro X hP hw hK hc i
          pins s σ H E I hf st hg
    subst hP hw hK
    obtain ⟨⟨old, he⟩, hit, hne, hat, hea⟩ := st
    obtain ⟨xs, hq, hx⟩ := hg
    obtain ⟨its, rv, p,
          hz⟩ := I.tuple hq
    obtain ⟨f0, f1, f2, f3,
          f4, f5⟩ := hf it (by simp)
    have hl := rv.length
    have hT : s.TypeIs (.ref
          e) "enumerate" := ⟨_, he, rfl⟩
    unfold pyNext
    refine wpAny_bind (wpAny_attempt (wpAny_callSpecial?_slot
          (name := Str.ofString "__next__") hT F.slot_enumerate_next
      (wpAny_call_entry F.slot_enumerate_next hT
            F.entry_enumerate_next ?_ (F.args_enumerate_next_1 _))))
    show wpAny _ _ (field
          (.ref e) 2 >>= _) _ _ _
    refine wpAny_bind (wpAny_field
          he rfl (x := .ref it) rfl ?_)
    refine wpAny_bind (wpAny_nextOf_tuple_end (I.ok.hd hc) hit p (by simp; omega) fun h' x he' hx' => ?_)
    obtain ⟨o, ho, hc'⟩ := hx'
    refine wpAny_bind (wpAny_isInstance (T := "StopIteration") (b := true) ⟨o, ho, hc'⟩ isSubtype_stop ?_)
    exact wpAny_pure ⟨rfl, I.turned (t' := s.toks) (fun b o hb q => he' b o hb q) f0 f1 f3 f4 f5⟩
  self := fun A i s Q E st h => let ⟨⟨_,
        he⟩, _⟩ := st; wpAny_pyIter_enum he h
def iEnumT (K : PySem.W.Frag) (ta : TA) : TI := fun σ H R => ta σ H fun vs H1 => ∃ a xs, vs = [.ref a] ∧ SqT K H1 a xs ∧ R (IteT K a) H1
theorem pi_enumT {X : Cx} {e : Expr} {ta : TA} {p pos tpos : Pos} {elts : List Expr} {kk : Nat} (hg : Gl X "enumerate") (hm : X.mg "enumerate" = none) (ha : PA X [e] ta) (hs : starEach [e] X.env = [(false, eval e X.env)] := by rfl) :
    PI X (.Tuple elts kk tpos) (.Call (.Name "enumerate" p) [e] [] pos) (iEnumT X.K ta) := by
  refine ⟨fun pins
        s σ H R I h => ?_⟩
  refine Call_ (ld_blt I hg hm boot_enumerate (PyProof.Rows.callWith_type1 (thn
        (ha.run pos pins s σ H _ I h) fun us s1 ⟨vs, H1, I1, r1, q1⟩ => ?_) hs rfl))
  obtain ⟨a, xs,
        ex, hq, q⟩ := q1
  subst ex
  cases r1 with
  | cons r rr =>
    cases rr
    cases r
    obtain ⟨its, rv, p', hz⟩ := I1.tuple hq
    have hal : a < s1.heap.objs.size := by obtain ⟨_, q, _⟩ := p'; exact Heap.lt_size q
    refine callEnumT p' fun h' he hit hsz hk => wpAny_pyIter_enum he ?_
    have I2 : Inv X pins σ H1 { s1 with heap
          := h' } := I1.kept (t' := s1.toks) hk
    refine ⟨s1.heap.objs.size + 1, [s1.heap.objs.size + 1, s1.heap.objs.size], _, _, H1, rfl, I2, turnEnumT a (s1.heap.objs.size + 1) s1.heap.objs.size, ⟨⟨.none, he⟩, hit, Nat.succ_ne_self _, Nat.ne_of_lt hal, Nat.ne_of_gt (Nat.lt_succ_of_lt hal)⟩, fun b hb => ?_, q⟩
    have e' : b = s1.heap.objs.size + 1 ∨ b
          = s1.heap.objs.size := by simpa using hb
    have hle :
          s1.heap.objs.size ≤ b := by
      rcases e' with z | z
      · rw [z]; exact
            Nat.le_add_right _ _
      · rw [z]; exact Nat.le_refl _
    exact I1.fpOk hle (I1.hok.fresh
          hle)
/-- for i, x in enumerate(t): the invariant -/
theorem for_enumT {K : PySem.W.Frag} {a : Addr} {xs : List V} {g : TG} {tb : TS} {D : Ends} {σ : L2.St} {H : Hp} (Pv : Nat → L2.St → Hp → Prop) (h0 : Pv 0 σ H) (hl : ∀ i σ H, Pv i σ H → SqT K H a xs)
    (hs : ∀ (i : Nat) (x : V) (T : Addr) (σ : L2.St) (H : Hp), xs[i]? = some x → Pv i σ H → H T = none → g (.ref T) σ (upd H T (.tup [.int (i : Nat), x])) fun σ2 H2 => tb { D with nx := Pv (i + 1), ct := Pv (i + 1), bk := D.nx } σ2 H2) (hd : ∀ σ H, Pv xs.length σ H → D.nx σ H) :
    ∃ W : Nat → Nat → L2.St → Hp → Prop, (∃
          m, W 0 m σ H) ∧ ∀ i m σ H, W i m σ H →
      ((IteT K a).stop i H ∧ D.nx σ H) ∨ ((IteT K a).go i H ∧ ∃ N : L2.St → Hp → Prop, (∀ σ' H', N σ' H' → ∃ m', m' < m ∧ W (i + 1) m' σ' H') ∧ ∀ x H', (IteT K a).yld i H x H' → g x σ H' fun σ2 H2 => tb { D with nx := N, ct := N, bk := D.nx } σ2 H2) := by
  refine ⟨fun i m σ H => m = xs.length - i ∧ i ≤ xs.length
        ∧ Pv i σ H, ⟨xs.length, by simp, Nat.zero_le _, h0⟩, ?_⟩
  rintro i m σ H ⟨rfl, hi, p⟩
  have q := hl i σ H p
  by_cases hlt : i < xs.length
  · refine .inr ⟨⟨xs, xs[i], q, by simp [hlt]⟩, Pv (i + 1), fun σ' H' p'
        => ⟨xs.length - (i + 1), by omega, rfl, hlt, p'⟩, fun x H' y => ?_⟩
    obtain ⟨T, x', rfl, hT, rfl, y⟩ := y
    exact hs i x' T σ H (y xs q) p hT
  · have e : i =
        xs.length := by omega
    subst e
    exact .inl ⟨⟨xs, q,
          Nat.le_refl _⟩, hd σ H p⟩
end Rx

set_option Elab.async false
set_option linter.all false
set_option maxRecDepth 100000
set_option maxHeartbeats 2000000
/-! rules of this repo's own: sorted of a list of lists of ints -/
namespace Rs
open PySem PySem.Spec PyProof.Rows L2 GQ PySem.SeqAt MeetsSeq MeetsSeq2 MeetsSeq3 SeqRoads2
open AutoSeq1 (wpAny_loadPart')
/-- the order of lists of ints -/
def ltL : List Int → List Int → Bool
  | _, [] => false
  | [], _ :: _ => true
  | x :: xs, y :: ys => if x = y then ltL xs ys else decide (x < y)
/-- an array of ints as values -/
def Nums (its : Array Value) (ns : List Int) : Prop := its.size = ns.length ∧ ∀ (j : Nat) (n : Int), ns[j]? = some n → ∃ t, its[j]? = some (.int n t)
section
variable {prog : Program} {w : World} {A
      : Around} {R : Result → Shared → Prop}
theorem lt_loop (l b : Addr) (its its2 : Array Value) (m m2 : Nat) (ns ms : List Int) (h1 : Nums its ns) (h2 : Nums its2 ms) (k : Nat) :
    ∀ i : Nat, ns.length - i = k → i ≤ ns.length → i ≤ ms.length → ∀ s : Shared, s.heap.get? l = some { cls := .type "list", data := .seq its m } → s.heap.get? b = some { cls := .type "list", data := .seq its2 m2 } →
      R (.ok (.ret (.bool (ltL (ns.drop i) (ms.drop i))))) s →
      wpAny (model prog w) A.in1 (Builtin.«list.__eq__.loop» ⟨[.ref l, .ref b, rawInt i, rawInt 0], []⟩) (FinOf prog w A R) (fun e s' => R (.error e) s') s := by
  induction k with
  | zero =>
    intro i hk hi hi2 s hl hb h
    have e : i = ns.length := by omega
    have e1 : its[((i : Nat) : Int).toNat]? = none := by
      rw [Array.getElem?_eq_none]; have := h1.1; simp; omega
    obtain ⟨hp, g,
          d, tk, os⟩ := s
    wp_walk using wpAny_loadPart'
          hl, wpAny_loadPart' hb
    rw [e1]
    wp_walk using wpAny_loadPart'
          hl, wpAny_loadPart' hb
    show R (.ok (.ret (.bool (decide (its.size < its2.size))))) _
    have e2 : ltL (ns.drop i) (ms.drop i) = decide (its.size < its2.size) := by
      rw [e, List.drop_length, h1.1, h2.1]
      by_cases c : ns.length < ms.length
      · rw [decide_eq_true c]
        obtain ⟨y, ys, q⟩ : ∃ y ys, ms.drop ns.length = y :: ys := by
          rw [List.drop_eq_getElem_cons c]; exact ⟨_, _, rfl⟩
        rw [q]; rfl
      · rw [decide_eq_false c, List.drop_of_length_le (by omega)]; rfl
    rw [← e2]; exact h
  | succ k ih =>
    intro i hk hi hi2 s hl hb h
    have hlt : i <
          ns.length := by omega
    obtain ⟨t, e1⟩ := h1.2 i ns[i] (List.getElem?_eq_getElem hlt)
    have e1' : its[((i : Nat) : Int).toNat]? = some (.int ns[i] t) := e1
    by_cases c : i < ms.length
    · obtain ⟨u, e2⟩ := h2.2 i ms[i] (List.getElem?_eq_getElem c)
      have e2' : its2[((i : Nat) : Int).toNat]? = some (.int ms[i] u) := e2
      have ed : ltL (ns.drop i) (ms.drop i) = if ns[i] = ms[i] then ltL (ns.drop (i + 1)) (ms.drop (i + 1)) else decide (ns[i] < ms[i]) := by
        rw [List.drop_eq_getElem_cons hlt, List.drop_eq_getElem_cons c]; rfl
      rw [ed] at h
      obtain ⟨hp, g,
            d, tk, os⟩ := s
      wp_walk using wpAny_loadPart'
            hl, wpAny_loadPart' hb
      rw [e1', e2']
      refine wpAny_bind (wpAny_eqBool_int
            ?_)
      by_cases q : ns[i] = ms[i]
      · rw [if_pos q] at h
        rw [show (ns[i] == ms[i]) = true from beq_iff_eq.mpr q]
        have hrec := ih (i + 1) (by omega) (by omega) (by omega) _ hl hb h
        have hc : ((i : Int) + 1) = ((i
              + 1 : Nat) : Int) := by omega
        wp_walk
        rw [hc]
        exact ⟨plainId_quiet plain_eq_loop
              _, codeAny_builtin entry_eq_loop (by
          rw [Around.under_plainId
                plain_eq_loop _]
          exact hrec)⟩
      · rw [if_neg q] at h
        rw [show (ns[i] == ms[i]) = false from beq_eq_false_iff_ne.mpr q]
        wp_walk using wpAny_loadPart'
              hl, wpAny_loadPart' hb
        rw [e1', e2']
        refine wpAny_bind (PyProof.Rows.lt_int ?_)
        exact wpAny_pure h
    · have e2' : its2[((i : Nat) : Int).toNat]? = none := by
        rw [Array.getElem?_eq_none]; have := h2.1; simp; omega
      have em : ms.drop i = [] := List.drop_of_length_le (by omega)
      rw [em] at h
      obtain ⟨hp, g,
            d, tk, os⟩ := s
      wp_walk using wpAny_loadPart'
            hl, wpAny_loadPart' hb
      rw [e1', e2']
      wp_walk using wpAny_loadPart'
            hl, wpAny_loadPart' hb
      show R (.ok (.ret (.bool (decide (its.size < its2.size))))) _
      rw [decide_eq_false (by rw [h1.1, h2.1]; omega)]
      rw [List.drop_eq_getElem_cons hlt] at h
      exact h
theorem list_lt (l b : Addr) (its its2 : Array Value) (m m2 : Nat) (ns ms : List Int) (h1 : Nums its ns) (h2 : Nums its2 ms) :
    Meets (Builtin.«list.__lt__» ⟨[.ref l, .ref b], []⟩) (fun A R s => s.heap.get? l = some { cls := .type "list", data := .seq its m } ∧ s.heap.get? b = some { cls := .type "list", data := .seq its2 m2 } ∧
      R (.ok (.ret (.bool (ltL ns ms)))) s) := by
  intro prog w A R s h
  obtain ⟨hl, hb, h⟩ := h
  have hrec := lt_loop (prog := prog) (w := w) (A := A) (R := R) l b its its2 m m2 ns ms h1 h2 _ 0 rfl (Nat.zero_le _) (Nat.zero_le _) s hl hb h
  obtain ⟨hp, g,
        d, tk, os⟩ := s
  have f3 :=
        AutoSeq1.sub_list_list
  wp_walk using wpAny_loadPart'
        hl, wpAny_loadPart' hb
  exact ⟨plainId_quiet plain_eq_loop
        _, codeAny_builtin entry_eq_loop (by
    rw [Around.under_plainId
          plain_eq_loop _]
    exact hrec)⟩
end

/-! ### the kind of such keys, their comparison in a sort -/
section
variable {prog : Program} {w : World} {A :
      Around} {E : Value → Shared → Prop} {s : Shared}
/-- the value is a list of these ints -/
def IsNums (h : Heap) (v : Value) (ns : List Int) : Prop := ∃ (a : Addr) (its : Array Value) (m : Nat), v = .ref a ∧ h.get? a = some { cls := .type "list", data := .seq its m } ∧ Nums its ns
theorem oneLt_lists {v u : Value} {ns ms : List Int} {Q : Bool → Shared → Prop} (hu : A.units < cLine) (h1 : IsNums s.heap v ns) (h2 : IsNums s.heap u ms) (h : Q (ltL ns ms) s) : wpAny (model prog w) A (oneLt' true v u) Q E s := by
  obtain ⟨a, its, m, rfl, e1, n1⟩ := h1
  obtain ⟨b, its2, m2, rfl, e2, n2⟩ := h2
  rw [oneLt'_eq]
  simp only [if_true]
  refine wpAny_bind (wpAny_cRoomFor
        hu ?_)
  refine wpAny_bind (wpAny_callSpecialIfBound?_slot ⟨_, e1, rfl⟩ F.slot_list_lt (call_meets F.slot_list_lt ⟨_, e1, rfl⟩ F.entry_list_lt (F.args_list_lt_2 _ _) (list_lt a b its its2 m m2 ns ms n1 n2) ⟨e1, e2, ?_⟩))
  show wpAny _ _ (truthOfDropped (.bool (ltL ns ms))) _ _ _
  exact wpAny_truthy_bool h
theorem firsts_lists : ∀ (vs : List Value) {Q : List (Option Value) → Shared → Prop}, (∀ v ∈ vs, ∃ ns, IsNums s.heap v ns) → Q (vs.map fun _ => none) s → wpAny (model prog w) A (vs.mapM firstOfTuple') Q E s
  | [], Q, _, h => by rw [List.mapM_nil]; exact wpAny_pure h
  | v :: vs, Q, hv, h => by
    obtain ⟨ns, a, its, m, rfl, e1, n1⟩ := hv v List.mem_cons_self
    rw [List.mapM_cons]
    refine wpAny_bind ?_
    show wpAny _ _ (typeOf (.ref a) >>= _) _ _ _
    refine wpAny_bind (wpAny_typeOf_ref e1 ?_)
    show wpAny _ _ (if (Value.type "list" != Value.type "tuple") = true then _ else _) _ _ _
    rw [if_pos (show (Value.type "list" != Value.type "tuple") = true from by decide +kernel)]
    refine wpAny_pure ?_
    refine wpAny_bind (firsts_lists vs (fun z hz => hv z (List.mem_cons_of_mem _ hz)) ?_)
    exact wpAny_pure h
theorem types_lists : ∀ (vs : List Value) {Q : List Value → Shared → Prop}, (∀ v ∈ vs, ∃ ns, IsNums s.heap v ns) → Q (vs.map fun _ => .type "list") s → wpAny (model prog w) A (vs.mapM typeOf) Q E s
  | [], Q, _, h => by rw [List.mapM_nil]; exact wpAny_pure h
  | v :: vs, Q, hv, h => by
    obtain ⟨ns, a, its, m, rfl, e1, n1⟩ := hv v List.mem_cons_self
    rw [List.mapM_cons]
    refine wpAny_bind (wpAny_typeOf_ref e1 ?_)
    refine wpAny_bind (types_lists vs (fun z hz => hv z (List.mem_cons_of_mem _ hz)) ?_)
    exact wpAny_pure h
theorem kind_lists {vs : List Value} {Q : SortKind → Shared → Prop} (hv : ∀ v ∈ vs, ∃ ns, IsNums s.heap v ns) (h2 : 2 ≤ vs.length) (h : Q oneType' s) : wpAny (model prog w) A (keyKind' vs.toArray) Q E s := by
  obtain ⟨v1, v2, vs, rfl⟩ : ∃ v1 v2 r, vs = v1 :: v2 :: r := by
    match vs, h2 with
    | v1 :: v2 :: r, _ => exact ⟨v1, v2, r, rfl⟩
  rw [keyKind'_eq, List.mapM_toArray]
  simp only [map_eq_pure_bind, bind_assoc, pure_bind]
  refine wpAny_bind (firsts_lists _ hv ?_)
  rw [if_neg (by simp),
        if_neg (by simp)]
  rw [oneTypeOnly'_eq, List.mapM_toArray]
  simp only [map_eq_pure_bind, bind_assoc, pure_bind]
  refine wpAny_bind (types_lists _ hv ?_)
  have hall : ((List.map (fun _ => Value.type "list") (v1 :: v2 :: vs)).toArray.all fun x => x == Value.type "list") = true := by
    simp only [List.all_toArray,
          List.all_map, List.all_eq_true]
    intro _ _
    rfl
  have h0 : (List.map (fun _ => Value.type "list") (v1 :: v2 :: vs)).toArray[0]? = some (Value.type "list") := by simp
  rw [h0]
  simp only [hall, if_true,
        pure_bind, Option.isSome_some]
  exact wpAny_pure h
end
theorem ltL_irr : ∀ x : List Int, ltL x x = false
  | [] => rfl
  | a :: x => by show (if a = a then ltL x x else _) = false; rw [if_pos rfl]; exact ltL_irr x
theorem ltL_asym : ∀ x y : List Int, ltL x y = true → ltL y x = false
  | _, [], h => by cases ‹List Int› <;> cases h
  | [], _ :: _, _ => rfl
  | a :: x, b :: y, h => by
    have h' : (if a = b then ltL x y else decide (a < b)) = true := h
    show (if b = a then ltL y x else decide (b < a)) = false
    by_cases e : a = b
    · rw [if_pos e] at h'; rw [if_pos e.symm]; exact ltL_asym x y h'
    · rw [if_neg e] at h'; rw [if_neg (fun q => e q.symm)]
      have := of_decide_eq_true h'
      exact decide_eq_false
            (by omega)
theorem ltL_neg : ∀ x y z : List Int, ltL x y = false → ltL y z = false → ltL x z = false
  | x, y, [], _, _ => by cases x <;> rfl
  | x, [], c :: z, _, h => by cases h
  | [], b :: y, c :: z, h, _ => by cases h
  | a :: x, b :: y, c :: z, h1, h2 => by
    have h1' : (if a = b then ltL x y else decide (a < b)) = false := h1
    have h2' : (if b = c then ltL y z else decide (b < c)) = false := h2
    show (if a = c then ltL x z else decide (a < c)) = false
    by_cases e : a = b
    · rw [if_pos e] at h1'
      by_cases f : b = c
      · rw [if_pos f] at h2'; rw [if_pos (e.trans f)]; exact ltL_neg x y z h1' h2'
      · rw [if_neg f] at h2'
        have := of_decide_eq_false h2'
        rw [if_neg (by omega)]; exact decide_eq_false (by omega)
    · rw [if_neg e] at h1'
      have q1 := of_decide_eq_false h1'
      by_cases f : b = c
      · rw [if_neg (by omega)]; exact decide_eq_false (by omega)
      · rw [if_neg f] at h2'
        have := of_decide_eq_false h2'
        rw [if_neg (by omega)]; exact decide_eq_false (by omega)
theorem ltL_swo {α : Type} (k : α → List Int) : SrtO.Swo fun x y => ltL (k x) (k y) := ⟨fun x y h => ltL_asym _ _ h, fun x y z h1 h2 => ltL_neg _ _ _ h2 h1⟩
/-- sorted(xs), xs a list of lists of ints (k says which): a new list, sorted -/
def rSortLL (K : PySem.W.Frag) : List V → Hp → VK → Prop := fun vs H Q => ∃ (a : Addr) (as : List Addr) (k : Addr → List Int), vs = [V.ref a] ∧ SqL K H a (as.map V.ref) ∧ (∀ x ∈ as, H x = some (.lst ((k x).map V.int))) ∧
  ∀ (bs : List Addr) (p : Addr), bs.Perm as → bs.Pairwise (fun x y => ltL (k y) (k x) = false) → H p = none → Q (.ref p) (upd H p (.lst (bs.map V.ref)))
theorem nums_of : ∀ {ns : List Int} {its : List Value}, Vals (ns.map V.int) its → Nums its.toArray ns
  | [], _, .nil => ⟨rfl, fun j n h => by simp at h⟩
  | n :: ns, v :: its, .cons r rr => by
    obtain ⟨t, rfl⟩ := r
    have ih := nums_of rr
    have h1 : its.length = ns.length := by simpa using ih.1
    refine ⟨by simp [h1], fun j m h => ?_⟩
    cases j with
    | zero => cases h; exact ⟨t, by simp⟩
    | succ j => obtain ⟨u, e⟩ := ih.2 j m (by simpa using h); exact ⟨u, by simpa using e⟩
def adr : V → Addr
  | .ref a => a
  | _ => 0
theorem cr_sortLL {X : Cx} (hu : X.A.units + 8 < cLine) : CallR X (.builtin "sorted") (rSortLL X.K) := by
  intro pins s σ
        H vs us Q I r h
  obtain ⟨a, as, k, rfl, hs, hx, q⟩ := h
  obtain ⟨its, rv,
        hl, hz⟩ := I.list hs
  obtain ⟨u, rfl,
        ru⟩ := vals1 r
  obtain rfl : u =
        Value.ref a := ru
  obtain ⟨e1,
        e2⟩ := refs_back rv fun x m => by
    obtain ⟨t, _, e⟩ := List.mem_map.mp m
    exact ⟨t, e.symm⟩
  have num : ∀ v ∈ its, IsNums s.heap v (k (adr (backV v))) := fun v hv => by
    obtain ⟨t, rfl⟩ := e2 v hv
    have hm : V.ref t ∈ as.map V.ref := by rw [e1]; exact List.mem_map.mpr ⟨_, hv, rfl⟩
    obtain ⟨t', ht', e⟩ := List.mem_map.mp hm
    cases e
    obtain ⟨_, its2, n, r2, ho⟩ := (show ObjOk X.prog X.w H s.heap t (.lst ((k t).map V.int)) from I.hok _ _ (hx t ht'))
    exact ⟨t, _, n, rfl, ho, nums_of r2⟩
  refine SrtO.sorted_ord (ltv := fun v u => ltL (k (adr (backV v))) (k (adr (backV u)))) (ltL_swo _) hl.isList (by rw [← rv.length]; exact hz) (fun h2 h₁ b hb kk => ?_) fun out h1 h2 => ?_
  · intro h' keep
    have num' : ∀ v ∈ its, IsNums h' v (k (adr (backV v))) := fun v hv => by
      obtain ⟨t, jt, n, e, ho, nn⟩ := num v hv
      exact ⟨t, jt, n, e, keep _ _ (kk _ _ ho).1 (kk _ _ ho).2, nn⟩
    refine ⟨oneType', fun Q E hq => kind_lists (s := { s with heap := h' }) (fun v hv => ⟨_, num' v hv⟩) h2 hq, fun p q hp hq => ?_⟩
    show wpAny _ _ (keyLt' oneType' p.1 q.1) _ _ _
    rw [keyLt'_oneType]
    refine oneLt_lists (s := { s with heap := h' }) ?_ (num' _ hp) (num' _ hq) ⟨rfl, rfl⟩
    show X.A.in1.in1.units < cLine
    have : X.A.in1.in1.units ≤ X.A.units + 8 := by show X.A.units + _ + _ ≤ _; omega
    omega
  · have h3 : ∀ u ∈ out, ∃ a, u = Value.ref a := fun u hu => e2 u (h2.perm.mem_iff.mp
        hu)
    have eb : out.map backV = (out.map fun v => adr (backV v)).map V.ref := by
      rw [List.map_map]
      refine List.map_congr_left fun v hv => ?_
      obtain ⟨t, rfl⟩ := h3 v hv
      rfl
    have ea : as = its.map fun v => adr (backV v) := by
      have z := congrArg (List.map adr) e1
      rw [List.map_map, List.map_map] at z
      have z1 : as.map (adr ∘ V.ref) = as := by
        exact (List.map_congr_left (g := id) (fun _ _ => rfl)).trans (List.map_id _)
      rw [z1] at z
      exact z
    have hq := q (out.map fun v => adr (backV v)) (s.heap.objs.size + 1) (by rw [ea]; exact h2.perm.map _) (List.pairwise_map.mpr h1) (I.hok.fresh (Nat.le_succ _))
    obtain ⟨n, hn⟩ := sortedAll_at s.heap its out.toArray
    have ok : ObjOk X.prog X.w (upd H (s.heap.objs.size + 1) (.lst ((out.map fun v => adr (backV v)).map V.ref))) (sortedAll s.heap its out.toArray) (s.heap.objs.size + 1) (.lst ((out.map fun v => adr (backV v)).map V.ref)) := by
      refine ⟨?_, out, n, ?_, hn⟩
      · rw [← eb, List.length_map, h2.perm.length_eq, ← rv.length]
        exact hz
      · rw [← eb]; exact vals_back h3
    exact ⟨.ref (s.heap.objs.size + 1), _, I.laid (t' := s.toks) (fun b o e => sortedAll_old e) (Nat.le_succ _) ok, rfl, hq⟩
    /-
    · rw [← eb, List.length_map, h2.perm.length_eq, ← rv.length]
      exact hz
    · rw [← eb]; exact vals_back h3 -/
end Rs

set_option Elab.async false
set_option linter.all false
set_option maxRecDepth 100000
set_option maxHeartbeats 2000000
/-! comprehensions by what they make; data at two depths -/
namespace Rd
open PySem PySem.Spec PyProof.Rows L2
/-- what is walked stands still and gives these values -/
structure Src (J : It) (xs : List V) (H : Hp) : Prop where
  go : ∀ (H1 : Hp) (i : Nat), Same H H1 → i < xs.length → J.go i H1
  yld : ∀ (H1 : Hp) (i : Nat) (x : V) (H' : Hp), Same H H1 → J.yld i H1 x H' → H' = H1 ∧ (i < xs.length → xs[i]? = some x)
  stop : ∀ (H1 : Hp), Same H H1 → J.stop xs.length H1
theorem src_list {K : PySem.W.Frag} {a : Addr} {xs : List V} {H : Hp} (h : SqL K H a xs) : Src (Itl K a) xs H where
  go := fun H1 i e hi => ⟨xs, xs[i], Same.seq e h, List.getElem?_eq_getElem hi⟩
  yld := fun H1 i x H' e y => ⟨y.1, fun _ => y.2 xs (Same.seq e h)⟩
  stop := fun H1 e => ⟨xs, Same.seq e h, Nat.le_refl _⟩
theorem src_tup {K : PySem.W.Frag} {a : Addr} {xs : List V} {H : Hp} (h : SqT K H a xs) : Src (Itt K a) xs H where
  go := fun H1 i e hi => ⟨xs, xs[i], same_t e h, List.getElem?_eq_getElem hi⟩
  yld := fun H1 i x H' e y => ⟨y.1, fun _ => y.2 xs (same_t e h)⟩
  stop := fun H1 e => ⟨xs, same_t e h, Nat.le_refl _⟩
def rgL (lo : Int) (n : Nat) : List V := (List.range n).map fun i => V.int (lo + (i : Nat))
theorem rgL_len (lo : Int) (n : Nat) : (rgL lo n).length = n := by unfold rgL; rw [List.length_map, List.length_range]
theorem rgL_get {lo : Int} {n i : Nat} (h : i < n) : (rgL lo n)[i]? = some (.int (lo + (i : Nat))) := by
  unfold rgL
  rw [List.getElem?_map, List.getElem?_range h]; rfl
theorem src_rng (lo : Int) (n : Nat) (H : Hp) : Src (Itr lo n) (rgL lo n) H where
  go := fun H1 i e hi => by rw [rgL_len] at hi; exact hi
  yld := fun H1 i x H' e y => ⟨y.1, fun hi => by rw [rgL_len] at hi; rw [rgL_get hi, y.2]⟩
  stop := fun H1 e => by rw [rgL_len]; exact Nat.le_refl _
section
variable {J : It} {xs : List V} {j : Nat} {te : TE} {vs : List Nat} {σ : L2.St} {H : Hp} {Q : VK} {D : Addr} {Qd : Addr → Hp → Prop}
theorem tyes {P : Bool → Hp → Prop} (h : P true H) : tYes σ H P := h
theorem lc {wi : TI} {g : TG} {tt : TT} (h : wi σ H fun J H1 => ∀ D, H1 D = none → ∃ W : Nat → Nat → Hp → Prop, (∃ m, W 0 m (upd H1 D (.lst []))) ∧ ∀ i m H, W i m H →
  (J.stop i H ∧ Q (.ref D) H) ∨ (J.go i H ∧ ∃ Nx : Hp → Prop, (∀ H', Nx H' → ∃ m', m' < m ∧ W (i + 1) m' H')
        ∧ ∀ x H', J.yld i H x H' → g x (wipe σ vs) H' fun σ2 H2 => wipe σ2 vs = wipe σ vs ∧ tt σ2 H2 fun b H3 =>
    if b = true then te σ2 H3 fun y H4 => ∃ acc, H4 D = some (.lst acc) ∧ acc.length < sizeLine ∧ Nx (upd H4 D (.lst (acc ++ [y]))) else Nx H3)) : tLc wi g tt te vs σ H Q := h
/-- a comprehension without a test: what holds of the list so far -/
theorem lcOf (S : Src J xs H) (hz : xs.length ≤ 100000) (hw : ∀ x : V, wipe ((wipe σ vs).set j (some x)) vs = wipe σ vs) (hD : H D = none) (P : List V → Hp → Prop)
    (h0 : P [] (upd H D (.lst [])))
    (hs : ∀ (x : V) (acc : List V) (H1 : Hp), xs[acc.length]? = some x → Same H H1 → H1 D = some (.lst acc) → P acc H1 →
      te ((wipe σ vs).set j (some x)) H1 fun y H2 => Same H1 H2 ∧ P (acc ++ [y]) (upd H2 D (.lst (acc ++ [y]))))
    (hq : ∀ (acc : List V) (H1 : Hp), acc.length = xs.length → Same H H1 → H1 D = some (.lst acc) → P acc H1 → Qd D H1)
    (mono : ∀ (σ : L2.St) (H : Hp) (Q Q' : VK), (∀ y H1, Q y H1 → Q' y H1) → te σ H Q → te σ H Q') :
    ∃ W : Nat → Nat → Hp → Prop, (∃ m, W 0 m (upd H D (.lst []))) ∧ ∀ i m H, W i m H →
      (J.stop i H ∧ Qd D H) ∨ (J.go i H ∧ ∃ Nx : Hp → Prop, (∀ H', Nx H' → ∃ m', m' < m ∧ W (i + 1) m' H') ∧ ∀ x H', J.yld i H x H' → gName j x (wipe σ vs) H' fun σ2 H2 => wipe σ2 vs = wipe σ vs ∧ tYes σ2 H2 fun b H3 =>
        if b = true then te σ2 H3 fun y H4 => ∃ acc, H4 D = some (.lst
              acc) ∧ acc.length < sizeLine ∧ Nx (upd H4 D (.lst (acc ++ [y]))) else Nx H3) := by
  refine ⟨fun i m H1 => m = xs.length - i ∧ i ≤ xs.length ∧ ∃ acc, acc.length = i ∧ Same H H1 ∧ H1 D = some (.lst acc) ∧ P acc H1, ⟨xs.length, rfl, Nat.zero_le _, [], rfl, same_mk hD, upd_same, h0⟩, ?_⟩
  rintro i m H1 ⟨rfl, hi, acc, rfl, e, hacc, p⟩
  by_cases c : acc.length < xs.length
  · refine .inr ⟨S.go H1 _ e c, fun H' => ∃ m', m' < xs.length - acc.length ∧ (m' = xs.length - (acc.length + 1) ∧ acc.length + 1 ≤ xs.length ∧ ∃ acc', acc'.length = acc.length + 1 ∧ Same H H' ∧ H' D = some (.lst acc') ∧ P acc' H'), fun H' z => z, fun x H' y => ?_⟩
    obtain ⟨rfl, hx⟩ := S.yld H1 _ x H' e y
    refine ⟨hw x, ?_⟩
    refine tyes (iteT ?_)
    refine mono _ _ _ _ (fun y H2 z => ?_) (hs x acc H' (hx c) e hacc p)
    obtain ⟨s2, p2⟩ := z
    refine ⟨acc, s2 _ _ hacc, Nat.lt_of_lt_of_le (by omega : acc.length < 100000) (by decide), xs.length - (acc.length + 1), by omega, rfl, by omega, acc ++ [y], by simp, ?_, upd_same, p2⟩
    exact same_mut (Same.trans e s2) hD
  · have e1 : acc.length = xs.length := by omega
    refine .inl ⟨?_, hq acc H1 e1 e hacc p⟩
    rw [e1]; exact S.stop H1 e
/-- each element is reckoned to a value that needs no heap -/
theorem lcMap (f : Nat → V) (S : Src J xs H) (hz : xs.length ≤ 100000) (hw : ∀ x : V, wipe ((wipe σ vs).set j (some x)) vs = wipe σ vs)
    (hs : ∀ (n : Nat) (x : V) (H1 : Hp) (Q1 : VK), xs[n]? = some x → Same H H1 → (∀ H2, Same H1 H2 → Q1 (f n) H2) → te ((wipe σ vs).set j (some x)) H1 Q1)
    (hq : ∀ (p : Addr) (H1 : Hp), H p = none → Same H H1 → H1 p = some (.lst ((List.range xs.length).map f)) → Qd p H1)
    (D : Addr) (hD : H D = none) :
    ∃ W : Nat → Nat → Hp → Prop, (∃ m, W 0 m (upd H D (.lst []))) ∧ ∀ i m H, W i m H →
      (J.stop i H ∧ Qd D H) ∨ (J.go i H ∧ ∃ Nx : Hp → Prop, (∀ H', Nx H' → ∃ m', m' < m ∧ W (i + 1) m' H') ∧ ∀ x H', J.yld i H x H' → gName j x (wipe σ vs) H' fun σ2 H2 => wipe σ2 vs = wipe σ vs ∧ tYes σ2 H2 fun b H3 =>
        if b = true then te σ2 H3 fun y H4 => ∃ acc, H4 D = some (.lst
              acc) ∧ acc.length < sizeLine ∧ Nx (upd H4 D (.lst (acc ++ [y]))) else Nx H3) := by
  refine ⟨fun i m H1 => m = xs.length - i ∧ i ≤ xs.length ∧ Same H H1 ∧ H1 D = some (.lst ((List.range i).map f)), ⟨xs.length, rfl, Nat.zero_le _, same_mk hD, upd_same⟩, ?_⟩
  rintro i m H1 ⟨rfl, hi, e, hacc⟩
  by_cases c : i < xs.length
  · refine .inr ⟨S.go H1 _ e c, fun H' => Same H H' ∧ H' D = some (.lst ((List.range (i + 1)).map f)), fun H' z => ⟨xs.length - (i + 1), by omega, rfl, c, z⟩, fun x H' y => ?_⟩
    obtain ⟨rfl, hx⟩ := S.yld H1 _ x H' e y
    refine ⟨hw x, ?_⟩
    refine tyes (iteT ?_)
    refine hs i x H' _ (hx c) e fun H2 s2 => ?_
    refine ⟨_, s2 _ _ hacc, ?_, same_mut (Same.trans e s2) hD, ?_⟩
    · rw [List.length_map,
          List.length_range]
      exact Nat.lt_of_lt_of_le (by omega : i < 100000) (by decide)
    · rw [upd_same, List.range_succ, List.map_append]; rfl
  · have e1 : i = xs.length := by omega
    subst e1
    exact .inl ⟨S.stop H1 e, hq D H1 hD e hacc⟩
/-- each element is a new object -/
theorem lcNew (obj : Nat → HO → Prop) (S : Src J xs H) (hz : xs.length ≤ 100000) (hw : ∀ x : V, wipe ((wipe σ vs).set j (some x)) vs = wipe σ vs)
    (hs : ∀ (n : Nat) (x : V) (H1 : Hp) (Q1 : VK), xs[n]? = some x → Same H H1 → (∀ (p : Addr) (H2 : Hp) (o : HO), H1 p = none → Same H1 H2 → H2 p = some o → obj n o → Q1 (.ref p) H2) → te ((wipe σ vs).set j (some x)) H1 Q1)
    (hq : ∀ (p : Addr) (as : List Addr) (H1 : Hp), H p = none → Same H H1 → H1 p = some (.lst (as.map V.ref)) → as.length = xs.length → (∀ (n : Nat) (a : Addr), as[n]? = some a → (∃ o, H1 a = some o ∧ obj n o) ∧ H a = none ∧ a ≠ p) → as.Nodup → Qd p H1)
    (D : Addr) (hD : H D = none) :
    ∃ W : Nat → Nat → Hp → Prop, (∃ m, W 0 m (upd H D (.lst []))) ∧ ∀ i m H, W i m H →
      (J.stop i H ∧ Qd D H) ∨ (J.go i H ∧ ∃ Nx : Hp → Prop, (∀ H', Nx H' → ∃ m', m' < m ∧ W (i + 1) m' H') ∧ ∀ x H', J.yld i H x H' → gName j x (wipe σ vs) H' fun σ2 H2 => wipe σ2 vs = wipe σ vs ∧ tYes σ2 H2 fun b H3 =>
        if b = true then te σ2 H3 fun y H4 => ∃ acc, H4 D = some (.lst
              acc) ∧ acc.length < sizeLine ∧ Nx (upd H4 D (.lst (acc ++ [y]))) else Nx H3) := by
  refine ⟨fun i m H1 => m = xs.length - i ∧ i ≤ xs.length ∧ ∃ as : List Addr, as.length = i ∧ Same H H1 ∧ H1 D = some (.lst (as.map V.ref)) ∧ (∀ (n : Nat) (a : Addr), as[n]? = some a → (∃ o, H1 a = some o ∧ obj n o) ∧ H a = none ∧ a ≠ D) ∧ as.Nodup,
    ⟨xs.length, rfl, Nat.zero_le _, [], rfl, same_mk hD, upd_same, fun n a h => by simp at h, List.nodup_nil⟩, ?_⟩
  rintro i m H1 ⟨rfl, hi, as, rfl, e, hacc, ho, nd⟩
  by_cases c : as.length < xs.length
  · refine .inr ⟨S.go H1 _ e c, fun H' => ∃ as' : List Addr, as'.length = as.length + 1 ∧ Same H H' ∧ H' D = some (.lst (as'.map V.ref)) ∧ (∀ (n : Nat) (a : Addr), as'[n]? = some a → (∃ o, H' a = some o ∧ obj n o) ∧ H a = none ∧ a ≠ D) ∧ as'.Nodup,
      fun H' z => ⟨xs.length - (as.length + 1), by omega, rfl, c, z⟩, fun x H' y => ?_⟩
    obtain ⟨rfl, hx⟩ := S.yld H1 _ x H' e y
    refine ⟨hw x, ?_⟩
    refine tyes (iteT ?_)
    refine hs as.length x H' _ (hx c) e fun p H2 ob hp s2 h2 hob => ?_
    have npD : p ≠ D := fun z => by rw [z, hacc] at hp; cases hp
    have pn : p ∉ as := fun hm => by
      obtain ⟨n, hn⟩ := List.getElem?_of_mem hm
      obtain ⟨_, w, _⟩ := (ho n p hn).1
      rw [w] at hp; cases hp
    refine ⟨_, s2 _ _ hacc, ?_, as ++ [p], by simp, same_mut (Same.trans e s2) hD, by rw [upd_same, List.map_append]; rfl, fun n a hn => ?_, ?_⟩
    · rw [List.length_map]
      exact Nat.lt_of_lt_of_le (by omega : as.length < 100000) (by decide)
    · by_cases q : n < as.length
      · rw [List.getElem?_append_left q] at hn
        obtain ⟨⟨o1, a1, b1⟩, a2, a3⟩ := ho n a hn
        exact ⟨⟨o1, by rw [upd_ne a3]; exact s2 _ _ a1, b1⟩, a2, a3⟩
      · rw [List.getElem?_append_right (by omega)] at hn
        have q0 : n - as.length = 0 := by
          apply Classical.byContradiction
          intro z
          rw [List.getElem?_eq_none (by simp; omega)] at hn
          cases hn
        rw [q0] at hn
        cases hn
        have q1 : n = as.length := by omega
        rw [q1]
        exact ⟨⟨ob, by rw [upd_ne npD]; exact h2, hob⟩, Same.free e hp, npD⟩
    · refine List.nodup_append.mpr ⟨nd, by simp, fun a ha b hb => ?_⟩
      rw [List.mem_singleton.mp hb]
      intro z
      rw [z] at ha
      exact pn ha
  · have e1 : as.length = xs.length := by omega
    refine .inl ⟨?_, hq D as H1 hD e hacc e1 ho nd⟩
    rw [e1]; exact S.stop H1 e
end
theorem enT {K : PySem.W.Frag} {ta : TA} {σ : L2.St} {H : Hp} {R : It → Hp → Prop} (h : ta σ H fun vs H1 => ∃ a xs, vs = [.ref a] ∧ SqT K H1 a xs ∧ R (Rx.IteT K a) H1) : Rx.iEnumT K ta σ H R := h
theorem enL {K : PySem.W.Frag} {ta : TA} {σ : L2.St} {H : Hp} {R : It → Hp → Prop} (h : ta σ H fun vs H1 => ∃ a xs, vs = [.ref a] ∧ SqL K H1 a xs ∧ R (Ite K a) H1) : iEnum K ta σ H R := h
/-! ### data: lists of ints, lists of lists of ints, tuples of them -/
def iL (ns : List Int) : PyData := .list (ns.map .int)
def iT (ns : List Int) : PyData := .tuple (ns.map .int)
theorem dpInts {K : PySem.W.Frag} {H : Hp} : ∀ ns : List Int, DpAll K H (ns.map V.int) (ns.map .int)
  | [] => .nil
  | n :: ns => .cons (.int n) (dpInts ns)
theorem dpL {K : PySem.W.Frag} {H : Hp} {a : Addr} {ns : List Int} (h : SqL K H a (ns.map V.int)) : Dp K H (.ref a) (iL ns) := .lst h (dpInts ns)
theorem dpT {K : PySem.W.Frag} {H : Hp} {a : Addr} {ns : List Int} (h : SqT K H a (ns.map V.int)) : Dp K H (.ref a) (iT ns) := .tup h (dpInts ns)
theorem layInts : ∀ ns : List Int, PyData.canLayAll0 (ns.map PyData.int) = true
  | [] => by simp
        [PyData.canLayAll0]
  | n :: ns => by simp [PyData.canLayAll0, PyData.canLay0, layInts ns]
theorem depInts : ∀ ns : List Int, PyData.depthAll (ns.map PyData.int) ≤ 1
  | [] => by simp
        [PyData.depthAll]
  | n :: ns => by
    have := depInts ns
    simp only [List.map_cons,
          PyData.depthAll, PyData.depth]
    omega
theorem iL_shaped (ns : List Int) : SeqAt.shaped (iL ns) = true := by
  have h := depInts ns
  show (PyData.canLay0 (iL ns) && decide (PyData.depth (iL ns) ≤ 64)) = true
  rw [Bool.and_eq_true]
  refine ⟨by simp only [iL, PyData.canLay0]; exact layInts ns, decide_eq_true ?_⟩
  simp only [iL, PyData.depth]; omega
theorem iT_shaped (ns : List Int) : SeqAt.shaped (iT ns) = true := by
  have h := depInts ns
  show (PyData.canLay0 (iT ns) && decide (PyData.depth (iT ns) ≤ 64)) = true
  rw [Bool.and_eq_true]
  refine ⟨by simp only [iT, PyData.canLay0]; exact layInts ns, decide_eq_true ?_⟩
  simp only [iT, PyData.depth]; omega
theorem eqvInts : ∀ ns ms : List Int, PyData.eqvAll (ns.map .int) (ms.map .int) = decide (ns = ms)
  | [], [] => by simp
        [PyData.eqvAll]
  | [], _ :: _ =>
        by simp [PyData.eqvAll]
  | _ :: _, [] =>
        by simp [PyData.eqvAll]
  | n :: ns, m :: ms => by
    have ih := eqvInts ns ms
    simp only [List.map_cons, PyData.eqvAll, PyData.eqv, ih]
    by_cases h : n = m
    · subst h; simp
    · simp [h]
theorem iL_eqv (ns ms : List Int) : PyData.eqv (iL ns) (iL ms) = decide (ns = ms) := by simp only [iL, PyData.eqv]; exact eqvInts ns ms
theorem iT_eqv (ns ms : List Int) : PyData.eqv (iT ns) (iT ms) = decide (ns = ms) := by simp only [iT, PyData.eqv]; exact eqvInts ns ms
def lL (t : List (List Int)) : PyData := .list (t.map iL)
def tT (t : List (List Int)) : PyData := .tuple (t.map iT)
theorem layLL : ∀ t : List (List Int), PyData.canLayAll0 (t.map iL) = true
  | [] => by simp
        [PyData.canLayAll0]
  | r :: t => by
    have h : PyData.canLay0 (iL r) = true := by simp only [iL, PyData.canLay0]; exact layInts r
    simp [PyData.canLayAll0, h, layLL t]
theorem layTT : ∀ t : List (List Int), PyData.canLayAll0 (t.map iT) = true
  | [] => by simp
        [PyData.canLayAll0]
  | r :: t => by
    have h : PyData.canLay0 (iT r) = true := by simp only [iT, PyData.canLay0]; exact layInts r
    simp [PyData.canLayAll0, h, layTT t]
theorem depLL : ∀ t : List (List Int), PyData.depthAll (t.map iL) ≤ 3
  | [] => by simp
        [PyData.depthAll]
  | r :: t => by
    have h1 := depLL t
    have h2 := depInts r
    have h3 : (iL r).depth = 1 + PyData.depthAll (r.map PyData.int) ∨ (iL r).depth = PyData.depthAll (r.map PyData.int) + 1 := by
      simp only [iL, PyData.depth]; omega
    simp only [List.map_cons,
          PyData.depthAll]
    omega
theorem depTT : ∀ t : List (List Int), PyData.depthAll (t.map iT) ≤ 3
  | [] => by simp
        [PyData.depthAll]
  | r :: t => by
    have h1 := depTT t
    have h2 := depInts r
    have h3 : (iT r).depth = 1 + PyData.depthAll (r.map PyData.int) ∨ (iT r).depth = PyData.depthAll (r.map PyData.int) + 1 := by
      simp only [iT, PyData.depth]; omega
    simp only [List.map_cons,
          PyData.depthAll]
    omega
theorem lL_shaped (t : List (List Int)) : SeqAt.shaped (lL t) = true := by
  have h := depLL t
  show (PyData.canLay0 (lL t) && decide (PyData.depth (lL t) ≤ 64)) = true
  rw [Bool.and_eq_true]
  refine ⟨by simp only [lL, PyData.canLay0]; exact layLL t, decide_eq_true ?_⟩
  simp only [lL, PyData.depth]; omega
theorem tT_shaped (t : List (List Int)) : SeqAt.shaped (tT t) = true := by
  have h := depTT t
  show (PyData.canLay0 (tT t) && decide (PyData.depth (tT t) ≤ 64)) = true
  rw [Bool.and_eq_true]
  refine ⟨by simp only [tT, PyData.canLay0]; exact layTT t, decide_eq_true ?_⟩
  simp only [tT, PyData.depth]; omega
theorem eqvLL : ∀ t u : List (List Int), PyData.eqvAll (t.map iL) (u.map iL) = decide (t = u)
  | [], [] => by simp
        [PyData.eqvAll]
  | [], _ :: _ =>
        by simp [PyData.eqvAll]
  | _ :: _, [] =>
        by simp [PyData.eqvAll]
  | r :: t, q :: u => by
    have ih := eqvLL t u
    simp only [List.map_cons, PyData.eqvAll, iL_eqv, ih]
    by_cases h : r = q
    · subst h; simp
    · simp [h]
theorem eqvTT : ∀ t u : List (List Int), PyData.eqvAll (t.map iT) (u.map iT) = decide (t = u)
  | [], [] => by simp
        [PyData.eqvAll]
  | [], _ :: _ =>
        by simp [PyData.eqvAll]
  | _ :: _, [] =>
        by simp [PyData.eqvAll]
  | r :: t, q :: u => by
    have ih := eqvTT t u
    simp only [List.map_cons, PyData.eqvAll, iT_eqv, ih]
    by_cases h : r = q
    · subst h; simp
    · simp [h]
theorem lL_eqv (t u : List (List Int)) : PyData.eqv (lL t) (lL u) = decide (t = u) := by simp only [lL, PyData.eqv]; exact eqvLL t u
theorem tT_eqv (t u : List (List Int)) : PyData.eqv (tT t) (tT u) = decide (t = u) := by simp only [tT, PyData.eqv]; exact eqvTT t u
section
variable {K : PySem.W.Frag} {H : Hp} {Q : VK} {a b : Addr} {ns ms : List Int}
theorem eqLL (h1 : SqL K H a (ns.map V.int)) (h2 : SqL K H b (ms.map V.int)) (h : Q (.bl (decide (ns = ms))) H) : rEqD K (.ref a) (.ref b) H Q := ⟨_, _, dpL h1, dpL h2, iL_shaped _, iL_shaped _, by rw [iL_eqv]; exact h⟩
theorem neLL (h1 : SqL K H a (ns.map V.int)) (h2 : SqL K H b (ms.map V.int)) (h : Q (.bl (!decide (ns = ms))) H) : rNeD K (.ref a) (.ref b) H Q := ⟨_, _, dpL h1, dpL h2, iL_shaped _, iL_shaped _, by rw [iL_eqv]; exact h⟩
theorem eqTT (h1 : SqT K H a (ns.map V.int)) (h2 : SqT K H b (ms.map V.int)) (h : Q (.bl (decide (ns = ms))) H) : rEqD K (.ref a) (.ref b) H Q := ⟨_, _, dpT h1, dpT h2, iT_shaped _, iT_shaped _, by rw [iT_eqv]; exact h⟩
theorem neTT (h1 : SqT K H a (ns.map V.int)) (h2 : SqT K H b (ms.map V.int)) (h : Q (.bl (!decide (ns = ms))) H) : rNeD K (.ref a) (.ref b) H Q := ⟨_, _, dpT h1, dpT h2, iT_shaped _, iT_shaped _, by rw [iT_eqv]; exact h⟩
end
end Rd

set_option Elab.async false
set_option linter.all false
set_option maxRecDepth 100000
set_option maxHeartbeats 2000000
/-! defs, methods, classes as they are called; what they raise -/
namespace Rd
open PySem PySem.Spec PyProof.Rows L2
theorem fnUp {P : Program} {w : World} {K : PySem.W.Frag} {mg : Str → Option Value} {base : Heap} {CX : CXT} {k : Nat} {f : Addr} {fd : FuncData} {ps : List Str} {sp : Sp} (F : FnOk P w K mg base CX0 k f fd ps sp) : FnOk P w K mg base CX k f fd ps sp :=
  ⟨F.len, fun A outer s H args us vs Q E hr he hb hv hs => codeAny_mono (F.run A outer s H args us vs Q E hr he hb hv hs) fun r s' h => by
    cases r with
    | ok fl => cases fl <;> exact h
    | error e => exact False.elim h⟩
/-- a method of
      the class at C -/
structure MOk (P : Program) (w : World) (K : PySem.W.Frag) (mg : Str → Option Value) (base : Heap) (CX : CXT) (C : Addr) (m : Str) (k : Nat) (ps : List Str) (sp : Sp) : Prop where
  cl : Cls K C
  ok : ∃ f fd, Meth K C m f ∧ FnOk P w K mg base CX k f fd ps sp ∧ Binds K fd ps []
/-- a class that is made by its __init__ -/
structure KOk (P : Program) (w : World) (K : PySem.W.Frag) (mg : Str → Option Value) (base : Heap) (CX : CXT) (x : Str) (C : Addr) (k : Nat) (ps : List Str) (sp : Sp) : Prop where
  ok : ∃ f fd, Mk K C f ∧ FnOk P w K mg base CX k f fd ps sp ∧ mg x = some (.ref C) ∧ Binds K fd ps []
section
variable {X : Cx} {x m : Str} {p pos apos : Pos} {e o : Expr} {es : List Expr} {ts : TA} {ta : TE} {k : Nat} {ps : List Str} {sp : Sp} {CX : CXT} {E : XK} {C : Addr}
/-- what a def lets out, its callee's too -/
theorem passX {E₁ : Value → Shared → Prop} (hs : X.stack = X.env :: X.outer) (hf : X.env.frame = some X.env.locals) (hex : X.ex = [])
    (hx : X.xe = fun e s' => wpAny (model X.prog X.w) X.A (leaving X.env e) (fun _ s'' => L2.CX X.prog X.w X.outer X.H_0 X.s_0 E e s'') E₁ s') : Passes (L2.CX X.prog X.w) X E :=
  passes_call (takes_of hs hf hex hx) fun _ _ _ _ h => h
theorem passN {X : Cx} {CX : CXT} (h : Passes CX X E0 := by first | exact pass0 | exact passL) : Passes CX X E0 := h
theorem callX (D : DOk X.prog X.w X.K X.mg X.base CX x k ps sp) (hr : Room k X.A) (hx : Passes CX X E) (ha : PA X (e :: es) ts) (hg : Gl X x := by rfl) (hdb : (x == ("__debug__" : Str)) = false := by decide)
    (he : starEach (e :: es) X.env = (false, eval e X.env) :: starEach es X.env :=
          by rfl) (hpl : (backTo pos (starEach es X.env)).any (·.1) = false := by rfl) :
    PE X (.Call (.Name x p) (e :: es) [] pos) (tCall sp [] E ts) := by
  obtain ⟨f, fd, F, hm, hk, hb⟩ := D.ok
  exact pe_call F hr hg hm hk hb .nil hx ha hdb he hpl
theorem callX0 (D : DOk X.prog X.w X.K X.mg X.base CX x k ps sp) (hr : Room k X.A) (hx : Passes CX X E) (hg : Gl X x := by rfl) (hdb : (x == ("__debug__" : Str)) = false := by decide) :
    PE X (.Call (.Name x p) [] [] pos) (tCall sp [] E tNil) := by
  obtain ⟨f, fd, F, hm, hk, hb⟩ := D.ok
  exact pe_call0 F hr hg hm hk hb .nil hx hdb
theorem methX {pl : Sem Bool} (M : MOk X.prog X.w X.K X.mg X.base CX C m k ps sp) (hr : Room k X.A) (hx : Passes CX X E) (he : PE X o ta) (ha : PA X (e :: es) ts)
    (hst : starEach (e :: es) X.env = (false, eval e X.env) :: starEach es X.env :=
          by rfl) (hpl : (backTo pos (starEach es X.env)).any (·.1) = false := by rfl)
    (ht : eval (.Call (.Attribute o m
          apos) (e :: es) [] pos) X.env = (do
      let ov ← eval o X.env
      standAt apos.atName
      let (f, first) ← holding [ov] (getMethod
            ov m pl)
      callWith pos f first (backTo pos (starEach (e :: es)
            X.env)) (backToKw pos (keywordEach [] X.env))) := by rfl) :
    PE X (.Call (.Attribute o m apos) (e :: es) [] pos) (tMeth C m sp [] E ta ts) := by
  obtain ⟨f, fd, hm, F, hb⟩ := M.ok
  exact pe_meth he M.cl hm F hr hb .nil hx ha hst hpl ht
theorem methX0 {pl : Sem Bool} (M : MOk X.prog X.w X.K X.mg X.base CX C m k ps sp) (hr : Room k X.A) (hx : Passes CX X E) (he : PE X o ta)
    (ht : eval (.Call (.Attribute o
          m apos) [] [] pos) X.env = (do
      let ov ← eval o X.env
      standAt apos.atName
      let (f, first) ← holding [ov] (getMethod
            ov m pl)
      callWith pos f first [] []) := by rfl) : PE X (.Call (.Attribute o m apos) [] [] pos) (tMeth C m sp [] E ta tNil) := by
  obtain ⟨f, fd, hm, F, hb⟩ := M.ok
  exact pe_meth0 he M.cl hm F hr hb .nil hx ht
theorem makeX (D : KOk X.prog X.w X.K X.mg X.base CX x C k ps sp) (hr : Room (k + 1) X.A) (hx : Passes CX X E) (ha : PA X (e :: es) ts) (hg : Gl X x := by rfl) (hdb : (x == ("__debug__" : Str)) = false := by decide)
    (he : starEach (e :: es) X.env = (false, eval e X.env) :: starEach es X.env :=
          by rfl) (hpl : (backTo pos (starEach es X.env)).any (·.1) = false := by rfl) :
    PE X (.Call (.Name x p) (e :: es) [] pos) (tMake C sp [] E ts) := by
  obtain ⟨f, fd, M, F, hm, hb⟩ := D.ok
  exact pe_make M F hr hg hm hb .nil hx ha hdb he hpl
end
/-- what the head tells of an error's class -/
structure ExF (K : PySem.W.Frag) (mg : Str → Option Value) (x : Str) (C : Addr) : Prop where
  gP : mg x = some (.ref C)
  xP : PySem.W.excIn K C [.type "ValueError", .type "Exception", .type "BaseException", .type "object"] "ValueError.__new__" = true
  kP : PySem.W.keepIn K (.ref C) = true
  bP : PySem.W.subIn K (.ref C) (.type "BaseException") = some true
  tP : PySem.W.typeIn K (.ref C) = some (.type "type")
section
variable {D : Ends} {σ : L2.St} {H : Hp} {ta tv : TE} {Q : VK} {K : PySem.W.Frag} {f : Str} {a C dx : Addr} {fs : List (Str × V)} {v : V}
theorem fld (h : ta σ H fun x H1 => ∃ a C dx fs v, x = .ref a ∧ H1 a = some (.ins C dx fs) ∧ Cls K C ∧ NoAttr K C f ∧ fs.lookup f = some v ∧ Q v H1) : tFld K ta f σ H Q := h
theorem fld' {P : V → Prop} (h1 : H a = some (.ins C dx fs)) (c : Cls K C) (n : NoAttr K C f) (hl : fs.lookup f = some v) (h : P v) : ∃ b C dx fs v, V.ref a = .ref b ∧ H b = some (.ins C dx fs) ∧ Cls K C ∧ NoAttr K C f ∧ fs.lookup f = some v ∧ P v :=
  ⟨a, C, dx, fs, v, rfl, h1, c, n, hl, h⟩
theorem sfld (h : tv σ H fun y H1 => ta σ H1 fun x H2 => ∃ a C dx fs, x = .ref a ∧ H2 a = some (.ins C dx fs) ∧ Cls K C ∧ NoAttr K C f ∧ fs.length < 1000 ∧ D.nx σ (upd H2 a (.ins C dx (putF f y fs)))) : sFld K ta tv f D σ H := h
theorem meth {m : Str} {sp : Sp} {E : XK} {ts : TA} (h : ta σ H fun x H1 => ∃ a dx fs, x = .ref a ∧ H1 a = some (.ins C dx fs) ∧ fs.lookup m = none ∧ ts σ H1 fun vs H2 => sp (x :: (vs ++ [])) H2 Q E) : tMeth C m sp [] E ta ts σ H Q := h
theorem make {sp : Sp} {E : XK} {ts : TA} (h : ts σ H fun vs H1 => ∀ x dx, H1 x = none → H1 dx = none → dx ≠ x → sp (.ref x :: (vs ++ [])) (upd (upd H1 dx (.own x)) x (.ins C dx [])) (fun v H2 => v = .non ∧ Q (.ref x) H2) E) : tMake C sp [] E ts σ H Q := h
end
end Rd
namespace Rd
open PySem PySem.Spec PyProof.Rows L2
/-- t.index(n), t a tuple of ints that has it -/
theorem mt_tup_indexI {X : Cx} : MtR X "tuple.index" (fun x xs H Q => ∃ p, ∃ ys : List Int, ∃ (z : Int) (j : Nat), x = .ref p ∧ xs = [.int z] ∧ SqT X.K H p (ys.map V.int) ∧ ys[j]? = some z ∧ (∀ m, m < j → ys[m]? ≠ some z) ∧ Q (.int (j : Nat)) H) := by
  intro pins s σ H x
        xs v us Q I rx rs h
  obtain ⟨p, ys, z, j, rfl,
        rfl, hq, hy, hno, q⟩ := h
  cases rx
  obtain ⟨u, rfl, t,
        rfl⟩ := vals1 rs
  obtain ⟨its, r, pl,
        hz⟩ := I.tuple hq
  obtain ⟨⟨cls, dd, dt,
        sl⟩, ho, hc, n, hd⟩ := pl
  simp only at hc hd
  subst hc
  subst hd
  have nn := Rs.nums_of r
  have hj : j < its.toArray.size := by rw [nn.1]; exact (List.getElem?_eq_some_iff.mp hy).1
  have fl : (ys.map V.int).all flatV = true := by rw [List.all_map]; exact List.all_eq_true.mpr fun _ _ => rfl
  have get : ∀ (m : Nat) (hm : m < its.toArray.size), ∃ y t', ys[m]? = some y ∧ its.toArray[m] = Value.int y t' := fun m hm => by
    have hm' : m < ys.length := by rw [← nn.1]; exact hm
    obtain ⟨t', e⟩ := nn.2 m ys[m] (List.getElem?_eq_getElem hm')
    refine ⟨ys[m], t',
          List.getElem?_eq_getElem hm', ?_⟩
    have := (Array.getElem?_eq_some_iff.mp e).2
    exact this
  refine call_meets PySem.F.slot_tuple_index ⟨_, ho, rfl⟩ PySem.F.entry_tuple_index (PySem.F.args_tuple_index_2 _ _) (TI.tuple_indexAt p its.toArray n dd sl (.int z t) (eqU (.int z)) j hj ?_ ?_)
    ⟨ho, fun w hw => mem_eqAt (x := .int z) ⟨t, rfl⟩ rfl r fl w (by simpa using hw), ⟨.int (j : Nat), H, I.tok _, ⟨_, rfl⟩, q⟩⟩
  · obtain ⟨y, t', h1, h2⟩ := get j hj
    rw [hy] at h1
    cases h1
    rw [h2]
    show (z == z) = true
    exact beq_self_eq_true z
  · intro m hm hmj
    obtain ⟨y, t', h1, h2⟩ := get m hm
    rw [h2]
    show (y == z) = false
    exact beq_eq_false_iff_ne.mpr fun e => hno m hmj (e
          ▸ h1)
theorem un64 {k : Nat} {A : Around} (hr : Room k A) : A.units + 64 < cLine := by have := hr.un; omega
theorem un8 {k : Nat} {A : Around} (hr : Room k A) : A.units + 8 < cLine := by have := hr.un; omega
theorem un65 {k : Nat} {A : Around} (hr : Room k A) : A.units + 65 < cLine := by have := hr.un; omega
theorem inV_int {n : Int} {ns : List Int} : inV (.int n) (ns.map V.int) = decide (n ∈ ns) := by
  unfold inV
  rw [List.any_map, Bool.eq_iff_iff,
        List.any_eq_true, decide_eq_true_eq]
  constructor
  · rintro ⟨x, hx, h⟩
    have : x = n := by simpa [eqV] using h
    rw [← this]; exact hx
  · intro h
    exact ⟨n, h, by simp [eqV]⟩
theorem flat_ints (ns : List Int) : (ns.map V.int).all flatV = true := by rw [List.all_map]; exact List.all_eq_true.mpr fun _ _ => rfl
section
variable {K : PySem.W.Frag} {H : Hp} {Q : VK} {p : Addr} {n : Int} {ns : List Int}
theorem inI (h : SqL K H p (ns.map V.int) ∨ SqT K H p (ns.map V.int)) (q : Q (.bl (decide (n ∈ ns))) H) : rIn K false (.int n) (.ref p) H Q := ⟨p, _, rfl, h, rfl, flat_ints ns, by rw [inV_int]; exact q⟩
theorem notInI (h : SqL K H p (ns.map V.int) ∨ SqT K H p (ns.map V.int)) (q : Q (.bl (!decide (n ∈ ns))) H) : rIn K true (.int n) (.ref p) H Q := ⟨p, _, rfl, h, rfl, flat_ints ns, by rw [inV_int]; exact q⟩
theorem gtup2 {i j : Nat} {a : Addr} {x y : V} {σ : L2.St} {P : L2.St → Hp → Prop} (h : SqT K H a [x, y]) (hq : P ((σ.set i (some x)).set j (some y)) H) : gTup K 2 (gCons (gName i) (gCons (gName j) gNil)) (.ref a) σ H P :=
  ⟨a, [x, y], rfl, h, rfl, x, [y], rfl, y, [], rfl, rfl, hq⟩
end
end Rd
namespace Rd
open PySem PySem.Spec L2 PyProof.Rows
/-- a tuple made by the run: it has no dictionary -/
def TupN (H : Hp) (a : Addr) (xs : List V) : Prop := ∃ ob : Obj, ob.dict = none ∧ H a = some (.frz ob (.tup xs))
section
variable {H H' : Hp} {a b : Addr} {xs ys : List V}
theorem TupN.sq {K : PySem.W.Frag} (h : TupN H a xs) : SqT K H a xs := by
  obtain ⟨ob, _, q⟩ := h
  exact .inl (.inr ⟨ob, q⟩)
theorem TupN.same (h : TupN H a xs) (e : Same H H') : TupN H' a xs := by
  obtain ⟨ob, d, q⟩ := h
  exact ⟨ob, d, e _ _ q⟩
theorem TupN.but (h : TupN H a xs) (e : But b H H') (n : a ≠ b) : TupN H' a xs := by
  obtain ⟨ob, d, q⟩ := h
  exact ⟨ob, d, e _ _ n q⟩
theorem TupN.ne (h : TupN H a xs) (n : H b = none) : a ≠ b := by
  obtain ⟨ob, d, q⟩ := h
  exact ne_of_none q n
theorem TupN.put {o : HO} (h : TupN H a xs) (n : a ≠ b) : TupN (upd H b o) a xs := by
  obtain ⟨ob, d, q⟩ := h
  exact ⟨ob, d, by rw [upd_ne n]; exact q⟩
theorem TupN.mk {ob : Obj} (d : ob.dict = none) : TupN (upd H a (.frz ob (.tup xs))) a xs := ⟨ob, d, upd_same⟩
theorem TupN.fn (h : TupN H a xs) : ∀ {C dx : Addr} {fs : List (Str × V)}, H a ≠ some (.ins C dx fs) := by
  obtain ⟨ob, d, q⟩ := h
  intro C dx fs z
  rw [q] at z
  cases z
theorem TupN.nl (h : TupN H a xs) : H a ≠ some (.lst ys) := by
  obtain ⟨ob, d, q⟩ := h
  intro z
  rw [q] at z
  cases z
end
/-- tuple(x): of a list a new one, of a tuple itself -/
def rTup (K : PySem.W.Frag) : List V → Hp → VK → Prop := fun vs H Q => ∃ p ys, vs = [.ref p] ∧
  ((SqL K H p ys ∧ ∀ (l : Addr) (ob : Obj), H l = none → ob.dict = none → Q (.ref l) (upd H l (.frz ob (.tup ys)))) ∨ (SqT K H p ys ∧ Q (.ref p) H))
theorem cr_tup {X : Cx} : CallR X (.type "tuple") (rTup X.K) := by
  intro _ s σ H _ _ Q I r ⟨p, ys, e, way⟩
  subst e
  obtain ⟨u, rfl,
        ru⟩ := vals1 r
  obtain rfl : u =
        Value.ref p := ru
  cases way with
  | inr tw =>
    obtain ⟨its, _, at_, _⟩ := I.tuple tw.1
    exact call_tuple_same at_ ⟨.ref p, H, I, rfl, tw.2⟩
  | inl lw =>
    obtain ⟨its, vals, at_, fit⟩ := I.list lw.1
    have few := vals.length
    refine call_tuple_list at_.isList (fun hp grow => ?_) (by rw [List.size_toArray]; omega)
    have J := I.kept (t' := s.toks) grow
    let ob : Obj := { cls := .type "tuple", data := .seq its.toArray }
    have lay : ObjOk X.prog X.w (upd H hp.objs.size (.frz ob (.tup ys))) (hp.push ob) hp.objs.size (.frz ob (.tup ys)) := ⟨Heap.get?_push_size _ rfl, fit, its, vals, IsTup.new _ _⟩
    exact ⟨.ref hp.objs.size, _, J.laid (t' := s.toks) (fun _ _ z => Heap.get?_push_of_some _ z) (Nat.le_refl _) lay, rfl, lw.2 _ ob (J.hok.fresh (Nat.le_refl _)) rfl⟩
section
variable {X : Cx}
theorem tup_is {pins : List (Addr × Obj)} {σ : L2.St} {H : Hp} {s : Shared} {p : Addr} {xs : List V} {v : Value} (I : L2.Inv X pins σ H s) (rv : RelV (.ref p) v) (h : TupN H p xs) :
    s.TypeIs v "tuple" ∧ ∀ a, v = .ref a → ∃ ob, s.heap.get? a = some ob ∧ ob.dict = none := by
  obtain ⟨ob, d, q⟩ := h
  obtain ⟨g, _, its, _, o2, g2, c, _⟩ := I.hok p _ q
  rw [g] at g2
  cases g2
  obtain rfl : v = Value.ref p := rv
  refine ⟨⟨ob, g, c⟩, fun a e => ?_⟩
  cases e
  exact ⟨ob, g, d⟩
/-- t.m(..), t such a tuple -/
def tBT (r : V → List V → Hp → VK → Prop) (to : TE) (t : TA) : TE := fun σ H Q => to σ H fun x H1 => (∃ p xs, x = .ref p ∧ TupN H1 p xs) ∧ t σ H1 fun xs H2 => r x xs H2 Q
theorem pe_bt {o e : Expr} {es : List Expr} {to : TE} {t : TA} {name : Str} {apos cpos : Pos} {id : String} {r : V → List V → Hp → VK → Prop}
    (pa : PlainAttrs "tuple") (slot : Slot "tuple" name id) (hty : typeOf (.builtin id) = pure (.type "method_descriptor")) (hm : MtR X id r) (ho : PE X o to) (ha : PA X (e :: es) t)
    (hbase : attributeBase o name X.env
          (eval o X.env) = eval o X.env := by rfl)
    (hfew : ((backTo cpos (starEach (e :: es) X.env)).all (fun x => !x.1)
          && (backToKw cpos (keywordEach [] X.env)).all (fun x => x.1.isSome)
      && decide ((e :: es).length + 0 + 0 < 30)) = true := by rfl)
    (hline : (apos.endLine == cpos.line) = true := by rfl) (hs : starEach (e :: es) X.env = (false, eval e X.env) :: starEach es X.env := by rfl) (hp : (backTo cpos (starEach es X.env)).any (·.1) = false := by rfl) :
    PE X (.Call (.Attribute o name apos) (e :: es) [] cpos) (tBT r to t) := by
  constructor
  intro pins s σ H Q I way
  refine wpAny_Call_method_late hbase hfew hline rfl (thn (ho.run pins s σ H _ I way) ?_)
  rintro v s1 ⟨_, H1, J, rv, ⟨p, xs, rfl, tn⟩, q1⟩
  have is := tup_is J rv tn
  refine ⟨"tuple", id, pa, slot, hty, is.1, is.2, ?_⟩
  have args := ha.run cpos pins s1 σ H1 _ J q1
  rw [hs] at args ⊢
  refine Calls.callWith_builtin (by rw [show (backTo cpos ((false, eval e X.env) :: starEach es X.env)).any (·.1) = (false || (backTo cpos (starEach es X.env)).any (·.1)) from rfl, hp]; rfl) (Calls.evalArgs_plain (thn args ?_))
  rintro us s2 ⟨vs, H2, J2, r2, q2⟩
  exact hm pins s2 σ H2 _ vs v us Q J2 rv r2 q2
theorem bm {K : PySem.W.Frag} {T : String} {σ : L2.St} {H : Hp} {to : TE} {t : TA} {r : V → List V → Hp → VK → Prop} {Q : VK} (h : to σ H fun x H1 => tyV K T x H1 ∧ t σ H1 fun xs H2 => r x xs H2 Q) : tBM K T r to t σ H Q := h
theorem bm0 {K : PySem.W.Frag} {T : String} {σ : L2.St} {H : Hp} {to : TE} {r : V → List V → Hp → VK → Prop} {Q : VK} (h : to σ H fun x H1 => tyV K T x H1 ∧ r x [] H1 Q) : tBM0 K T r to σ H Q := h
theorem tyL {K : PySem.W.Frag} {p : Addr} {xs : List V} {H : Hp} {B : Prop} (h : H p = some (.lst xs)) (b : B) : tyV K "list" (.ref p) H ∧ B := ⟨.inl ⟨rfl, xs, SqL.of h⟩, b⟩
theorem app {H : Hp} {Q : VK} {l : Addr} {xs : List V} {y : V} (h : H l = some (.lst xs)) (z : xs.length < sizeLine) (q : Q .non (upd H l (.lst (xs ++ [y])))) : rAppend (.ref l) [y] H Q := ⟨l, xs, y, rfl, rfl, h, z, q⟩
theorem bt {σ : L2.St} {H : Hp} {to : TE} {t : TA} {r : V → List V → Hp → VK → Prop} {Q : VK} (h : to σ H fun x H1 => (∃ p xs, x = .ref p ∧ TupN H1 p xs) ∧ t σ H1 fun xs H2 => r x xs H2 Q) : tBT r to t σ H Q := h
end
end Rd
/-! the rules with the written part named: within a comprehension it must not hang on the block -/
namespace Rk
open PySem PySem.Spec PyProof.Rows L2 Rd
section
variable {X : Cx} (K : PySem.W.Frag) (h : X.K = K := by rfl)
include h
theorem ixL : IxR X (rIxL K) := h ▸ ix_list
theorem ixT : IxR X (rIxT K) := h ▸ ix_tup
theorem inS : OpR X (compareOp .In) (rIn K false) := h ▸ op_in_seq
theorem ninS : OpR X (compareOp .NotIn) (rIn K true) := h ▸ op_notIn_seq
theorem bt {id : String} {name : Str} {r : V → List V → Hp → VK → Prop} {o e : Expr} {es : List Expr} {to : TE} {t : TA} {apos cpos : Pos} (pa : PlainAttrs "tuple") (slot : Slot "tuple" name id) (hty : typeOf (.builtin id) = pure (.type "method_descriptor")) (hm : MtR X id r) (ho : PE X o to) (ha : PA X (e :: es) t)
    (hbase : attributeBase o name X.env
          (eval o X.env) = eval o X.env := by rfl)
    (hfew : ((backTo cpos (starEach (e :: es) X.env)).all (fun x => !x.1)
          && (backToKw cpos (keywordEach [] X.env)).all (fun x => x.1.isSome)
      && decide ((e :: es).length + 0 + 0 < 30)) = true := by rfl)
    (hline : (apos.endLine == cpos.line) = true := by rfl) (hs : starEach (e :: es) X.env = (false, eval e X.env) :: starEach es X.env := by rfl) (hp : (backTo cpos (starEach es X.env)).any (·.1) = false := by rfl) :
    PE X (.Call (.Attribute o name apos) (e :: es) [] cpos) (tBT r to t) := pe_bt pa slot hty hm ho ha hbase hfew hline hs hp
theorem len : CallR X (.builtin "len") (fun xs H Q => ∃ p ys, xs = [.ref p] ∧ (SqL K H p ys ∨ SqT K H p ys) ∧ Q (.int ys.length) H) := h ▸ call_len_seq
theorem tup : CallR X (.type "tuple") (rTup K) := h ▸ cr_tup
theorem lis : CallR X (.type "list") (fun xs H Q => ∃ p ys, xs = [.ref p] ∧ (SqL K H p ys ∨ SqT K H p ys) ∧ ∀ l, H l = none → Q (.ref l) (upd H l (.lst ys))) := h ▸ call_list_of
theorem all (hc : X.calm = true) : CallR X (.builtin "all") (rAll K) := h ▸ cr_all hc
theorem any (hc : X.calm = true) : CallR X (.builtin "any") (rAny K) := h ▸ cr_any hc
theorem sum (hc : X.calm = true) : CallR X (.builtin "sum") (rSum K) := h ▸ cr_sum hc
theorem sortI : CallR X (.builtin "sorted") (rSortedI K) := h ▸ cr_sortedI
theorem sortLL (hu : X.A.units + 8 < cLine) : CallR X (.builtin "sorted") (Rs.rSortLL K) := h ▸ Rs.cr_sortLL hu
theorem isi : CallR X (.builtin "isinstance") (rIsi K) := h ▸ call_isi
theorem eqD (hu : X.A.units + 64 < cLine) : OpR X (compareOp .Eq) (rEqD K) := h ▸ op_eqD hu
theorem neD (hu : X.A.units + 64 < cLine) : OpR X (compareOp .NotEq) (rNeD K) := h ▸ op_neD hu
theorem inD (hu : X.A.units + 65 < cLine) : OpR X (compareOp .In) (rInD K) := h ▸ op_inD hu
theorem ninD (hu : X.A.units + 65 < cLine) : OpR X (compareOp .NotIn) (rNotInD K) := h ▸ op_notInD hu
theorem index : MtR X "list.index" (rIndex K) := h ▸ mt_index
theorem indexD (hu : X.A.units + 65 < cLine) : MtR X "list.index" (rIndexD K) := h ▸ mt_indexD hu
theorem tindex : MtR X "tuple.index" (fun x xs H Q => ∃ p, ∃ ys : List Int, ∃ (z : Int) (j : Nat), x = .ref p ∧ xs = [.int z] ∧ SqT K H p (ys.map V.int) ∧ ys[j]? = some z ∧ (∀ m, m < j → ys[m]? ≠ some z) ∧ Q (.int (j : Nat)) H) := h ▸ mt_tup_indexI
theorem fld {e : Expr} {ta : TE} {f : Str} {pos : Pos} (he : PE X e ta) (hb : attributeBase e f X.env (eval e X.env) = eval e X.env) : PE X (.Attribute e f pos) (tFld K ta f) := h ▸ pe_fld he hb
theorem pl {tg l : Expr} {tl : TE} (hl : PE X l tl) : PI X tg l (iList K tl) := h ▸ pi_list hl
theorem pt {tg l : Expr} {tl : TE} (hl : PE X l tl) : PI X tg l (iTup K tl) := h ▸ pi_tup hl
theorem bm0 {T id : String} {name : Str} {r : V → List V → Hp → VK → Prop} {o : Expr} {to : TE} {apos cpos : Pos} (pa : PlainAttrs T) (slot : Slot T name id) (hty : typeOf (.builtin id) = pure (.type "method_descriptor")) (hm : MtR X id r) (ho : PE X o to)
    (hbase : attributeBase o name X.env (eval o X.env) = eval o X.env := by rfl) (hline : (apos.endLine == cpos.line) = true := by rfl) : PE X (.Call (.Attribute o name apos) [] [] cpos) (tBM0 K T r to) := h ▸ pe_bm0 pa slot hty hm ho hbase hline
theorem bm {T id : String} {name : Str} {r : V → List V → Hp → VK → Prop} {o e : Expr} {es : List Expr} {to : TE} {t : TA} {apos cpos : Pos} (pa : PlainAttrs T) (slot : Slot T name id) (hty : typeOf (.builtin id) = pure (.type "method_descriptor")) (hm : MtR X id r) (ho : PE X o to) (ha : PA X (e :: es) t)
    (hbase : attributeBase o name X.env
          (eval o X.env) = eval o X.env := by rfl)
    (hfew : ((backTo cpos (starEach (e :: es) X.env)).all (fun x => !x.1)
          && (backToKw cpos (keywordEach [] X.env)).all (fun x => x.1.isSome)
      && decide ((e :: es).length + ([] : List Keyword).length + (if ([]
            : List Keyword).isEmpty then 0 else 1) < 30)) = true := by rfl)
    (hline : (apos.endLine == cpos.line) = true := by rfl) (hs : starEach (e :: es) X.env = (false, eval e X.env)
          :: starEach es X.env := by rfl) (hplain : (backTo cpos (starEach es X.env)).any (·.1) = false := by rfl) :
    PE X (.Call (.Attribute o name apos) (e :: es) [] cpos) (tBM K T r to t) := h ▸ pe_bm pa slot hty hm ho ha hbase hfew hline hs hplain
theorem gtup {es : List Expr} {k : Nat} {t : TGs} {n : Nat} {pos : Pos} (hc : X.calm = true) (hg : PGs X es t)
    (hn : (assignEach es X.env).length = n := by rfl) (hst : (assignEach es X.env).findIdx? (·.1) = none := by rfl) : PG X (.Tuple es k pos) (gTup K n t) := h ▸ pg_tup hc hg hn hst
end
end Rk

set_option linter.all false
/-! tables of groups: plain Lean, and how they lie in the heap -/
namespace GT
open PySem PySem.Spec PyProof.Rows L2 Rd
/-- entry y of row x -/
def at2 (t : List (List Int)) (x y : Nat) : Int := (t.getD x []).getD y 0
structure Sq (t : List (List Int)) : Prop where
  pos : 0 < t.length
  row : ∀ r ∈ t, r.length = t.length ∧ ∀ e ∈ r, 0 ≤ e ∧ e < (t.length : Int)
def Idn (t : List (List Int)) : Prop := ∀ x, x < t.length → at2 t 0 x = (x : Int) ∧ at2 t x 0 = (x : Int)
def Inv (t : List (List Int)) : Prop := ∀ r ∈ t, (0 : Int) ∈ r
def Asc (t : List (List Int)) : Prop := ∀ x y z, x < t.length → y < t.length → z < t.length → at2 t (at2 t x y).toNat z = at2 t x (at2 t y z).toNat
structure Grp (t : List (List Int)) : Prop where
  sq : Sq t
  idn : Idn t
  inv : Inv t
  asc : Asc t
theorem getD_of {α : Type} {l : List α} {i : Nat} {x d : α} (h : l[i]? = some x) : l.getD i d = x := by
  rw [List.getD_eq_getElem?_getD, h]; rfl
theorem Sq.rowAt {t : List (List Int)} (S : Sq t) {x : Nat} (h : x < t.length) : ∃ r, t[x]? = some r ∧ r.length = t.length ∧ t.getD x [] = r ∧ ∀ e ∈ r, 0 ≤ e ∧ e < (t.length : Int) := by
  refine ⟨t[x], List.getElem?_eq_getElem h, (S.row _ (List.getElem_mem h)).1, getD_of (List.getElem?_eq_getElem h), (S.row _ (List.getElem_mem h)).2⟩
theorem Sq.at {t : List (List Int)} (S : Sq t) {x y : Nat} (hx : x < t.length) (hy : y < t.length) : 0 ≤ at2 t x y ∧ at2 t x y < (t.length : Int) ∧ ∃ r, t[x]? = some r ∧ r[y]? = some (at2 t x y) := by
  obtain ⟨r, h1, h2, h3, h4⟩ := S.rowAt hx
  have h5 : r[y]? = some r[y] := List.getElem?_eq_getElem (by omega)
  have h6 : at2 t x y = r[y] := by unfold at2; rw [h3, getD_of h5]
  rw [h6]
  obtain ⟨a, b⟩ := h4 _ (List.getElem_mem (by omega : y < r.length))
  exact ⟨a, b, r, h1, h5⟩
theorem at2_of {t : List (List Int)} {x y : Nat} {r : List Int} {e : Int} (h1 : t[x]? = some r) (h2 : r[y]? = some e) : at2 t x y = e := by
  unfold at2; rw [getD_of h1, getD_of h2]
/-- the product as a natural number -/
def mul (t : List (List Int)) (x y : Nat) : Nat := (at2 t x y).toNat
theorem Sq.mul_lt {t : List (List Int)} (S : Sq t) {x y : Nat} (hx : x < t.length) (hy : y < t.length) : mul t x y < t.length := by
  obtain ⟨a, b, _⟩ := S.at hx hy
  unfold mul; omega
theorem Sq.mul_eq {t : List (List Int)} (S : Sq t) {x y : Nat} (hx : x < t.length) (hy : y < t.length) : at2 t x y = (mul t x y : Int) := by
  obtain ⟨a, b, _⟩ := S.at hx hy
  unfold mul; omega
theorem intAt {r : List Int} {n : Nat} {y : V} (h : (r.map V.int)[n]? = some y) : ∃ z, r[n]? = some z ∧ y = .int z := by
  rw [List.getElem?_map] at h
  cases q : r[n]? with
  | none => rw [q] at h; cases h
  | some z => rw [q] at h; cases h; exact ⟨z, rfl, rfl⟩
theorem all_id {n : Nat} {f : Nat → Bool} : ((List.range n).map f).all id = true ↔ ∀ i, i < n → f i = true := by
  rw [List.all_map, List.all_eq_true]
  simp
theorem map_bl (n : Nat) (f : Nat → Bool) : (List.range n).map (fun i => V.bl (f i)) = ((List.range n).map f).map V.bl := by rw [List.map_map]; rfl
theorem map_in (n : Nat) (f : Nat → Int) : (List.range n).map (fun i => V.int (f i)) = ((List.range n).map f).map V.int := by rw [List.map_map]; rfl
theorem rgV_eq (n : Nat) : rgV 0 (n : Int) = ((List.range n).map fun i => ((i : Nat) : Int)).map V.int := by
  unfold rgV
  rw [List.map_map]
  have e : ((n : Int) - 0).toNat = n := by omega
  rw [e]
  refine List.map_congr_left
        fun i _ => ?_
  show V.int (0 + (i : Int)) = V.int (i : Int)
  rw [Int.zero_add]
theorem eq_range {l : List Int} {n : Nat} : l = (List.range n).map (fun i => ((i : Nat) : Int)) ↔ l.length = n ∧ ∀ i, i < n → l[i]? = some (i : Int) := by
  constructor
  · rintro rfl
    refine ⟨by simp, fun i h => ?_⟩
    rw [List.getElem?_map, List.getElem?_range h]; rfl
  · rintro ⟨h1, h2⟩
    refine List.ext_getElem? fun i => ?_
    by_cases c : i < n
    · rw [h2 i c, List.getElem?_map, List.getElem?_range c]; rfl
    · rw [List.getElem?_eq_none (by omega), List.getElem?_eq_none (by simp; omega)]
/-! ### how they lie -/
/-- a list -/
def LstN (H : Hp) (a : Addr) (xs : List V) : Prop := H a = some (.lst xs)
abbrev AtK : Type := Hp → Addr → List V → Prop
/-- objects (lists or tuples of ints) at the addresses -/
structure Rows (at_ : AtK) (H : Hp) (rs : List Addr) (t : List (List Int)) : Prop where
  len : rs.length = t.length
  row : ∀ (i : Nat) (a : Addr) (r : List Int), rs[i]? = some a → t[i]? = some r → at_ H a (r.map V.int)
section
variable {H H' : Hp} {rs : List Addr} {t : List (List Int)} {at_ : AtK}
theorem Rows.map (R : Rows at_ H rs t) (k : ∀ a xs, a ∈ rs → at_ H a xs → at_ H' a xs) : Rows at_ H' rs t := ⟨R.len, fun i a r h1 h2 => k _ _ (List.mem_of_getElem? h1) (R.row i a r h1 h2)⟩
theorem Rows.same (R : Rows TupN H rs t) (e : Same H H') : Rows TupN H' rs t := R.map fun _ _ _ h => h.same e
theorem Rows.sameL (R : Rows LstN H rs t) (e : Same H H') : Rows LstN H' rs t := R.map fun _ _ _ h => e _ _ h
theorem Rows.get (R : Rows at_ H rs t) {i : Nat} (h : i < t.length) : ∃ a r, rs[i]? = some a ∧ t[i]? = some r ∧ at_ H a (r.map V.int) := by
  have h2 : i < rs.length := by rw [R.len]; exact h
  exact ⟨rs[i], t[i], List.getElem?_eq_getElem h2, List.getElem?_eq_getElem h, R.row i _ _ (List.getElem?_eq_getElem h2) (List.getElem?_eq_getElem h)⟩
theorem Rows.at (R : Rows at_ H rs t) {i : Nat} {x : V} (h : (rs.map V.ref)[i]? = some x) : ∃ a r, x = .ref a ∧ rs[i]? = some a ∧ t[i]? = some r ∧ at_ H a (r.map V.int) := by
  have hi : i < t.length := by
    have := (List.getElem?_eq_some_iff.mp h).1
    rw [List.length_map, R.len] at this
    exact this
  obtain ⟨a, r, h1, h2, h3⟩ := R.get hi
  rw [List.getElem?_map, h1] at h
  cases h
  exact ⟨a, r, rfl, h1, h2, h3⟩
end
/-- the group's object -/
def gfs (n : Int) (R I : Addr) : List (Str × V) := [("order", .int n), ("rows", .ref R), ("inverses", .ref I)]
/-- the first place of 0 in each row -/
def invs (t : List (List Int)) : List Int := t.map fun r => ((r.idxOf 0 : Nat) : Int)
theorem _root_.Rd.TupN.butL {H H' : Hp} {a b : Addr} {xs ys : List V} (h : TupN H a ys) (hb : H b = some (.lst xs)) (e : But b H H') : TupN H' a ys := h.but e fun z => h.nl (ys := xs) (z ▸ hb)
structure GrpAt (C : Addr) (H : Hp) (g : Addr) (t : List (List Int)) : Prop where
  grp : Grp t
  le : t.length ≤ 32
  ob : ∃ dx R I rs, H g = some (.ins C dx (gfs (t.length : Int) R I)) ∧ TupN H R (rs.map V.ref) ∧ Rows TupN H rs t ∧ TupN H I ((invs t).map V.int)
section
variable {C : Addr} {H H' : Hp} {g b : Addr} {t : List (List Int)} {xs : List V}
theorem GrpAt.same (G : GrpAt C H g t) (e : Same H H') : GrpAt C H' g t := by
  obtain ⟨dx, R, I, rs, h1, h2, h3, h4⟩ := G.ob
  exact ⟨G.grp, G.le, dx, R, I, rs, e _ _ h1, h2.same e, h3.same e, h4.same e⟩
theorem GrpAt.but (G : GrpAt C H g t) (hb : H b = some (.lst xs)) (e : But b H H') : GrpAt C H' g t := by
  obtain ⟨dx, R, I, rs, h1, h2, h3, h4⟩ := G.ob
  exact ⟨G.grp, G.le, dx, R, I, rs, e _ _ (fun z => by rw [z, hb] at h1; cases h1) h1, h2.butL hb e, h3.map fun _ _ _ h => h.butL hb e, h4.butL hb e⟩
end
theorem lkHere {k : Str} {v : V} {r : List (Str × V)} : List.lookup k ((k, v) :: r) = some v := by
  have e : (k ==
        k) = true := beq_self_eq_true k
  simp only [List.lookup, e]
theorem lkPast {k g : Str} {v : V} {r : List (Str × V)} (h : (k == g) = false) : List.lookup k ((g, v) :: r) = List.lookup k r := by
  simp only [List.lookup, h]
theorem lk_order (n : Int) (R I : Addr) : (gfs n R I).lookup ("order" : Str) = some (.int n) := lkHere
theorem lk_rows (n : Int) (R I : Addr) : (gfs n R I).lookup ("rows" : Str) = some (.ref R) := (lkPast (by decide +kernel)).trans lkHere
theorem lk_inv (n : Int) (R I : Addr) : (gfs n R I).lookup ("inverses" : Str) = some (.ref I) := (lkPast (by decide +kernel)).trans ((lkPast (by decide +kernel)).trans lkHere)
theorem lk_no {m : Str} (h1 : (m == ("order" : Str)) = false) (h2 : (m == ("rows" : Str)) = false) (h3 : (m == ("inverses" : Str)) = false) (n : Int) (R I : Addr) : (gfs n R I).lookup m = none :=
  (lkPast h1).trans ((lkPast h2).trans ((lkPast h3).trans rfl))
theorem put3 (n : Int) (R I : Addr) : putF "inverses" (.ref I) (putF "rows" (.ref R) (putF "order" (.int n) [])) = gfs n R I := by
  have e1 : ¬ (("order" : Str) = "rows") := by decide +kernel
  have e2 : ¬ (("order" : Str) = "inverses") := by decide +kernel
  have e3 : ¬ (("rows" : Str) = "inverses") := by decide +kernel
  show putF "inverses" (.ref I) (if ("order" : Str) = "rows" then _ else (("order" : Str), V.int n) :: putF "rows" (.ref R) []) = _
  rw [if_neg e1]
  show (if ("order" : Str) = "inverses" then _ else (("order" : Str), V.int n) :: (if ("rows" : Str) = "inverses" then _ else (("rows" : Str), V.ref R) :: putF "inverses" (.ref I) [])) = _
  rw [if_neg e2, if_neg e3]; rfl
theorem put2_len (n : Int) (R : Addr) : (putF "rows" (.ref R) (putF "order" (.int n) [])).length < 1000 := by
  have e1 : ¬ (("order" : Str) = "rows") := by decide +kernel
  show (if ("order" : Str) = "rows" then _ else (("order" : Str), V.int n) :: putF "rows" (.ref R) []).length < 1000
  rw [if_neg e1]
  show 2 < 1000
  decide
end GT

set_option linter.all false
/-! powers, orders, closures in a table that is a group's -/
namespace GT
section
variable {t : List (List Int)} (G : Grp t)
include G
theorem Grp.pos : 0 < t.length := G.sq.pos
theorem Grp.lt {x y : Nat} (hx : x < t.length) (hy : y < t.length) : mul t x y < t.length := G.sq.mul_lt hx hy
theorem Grp.assoc {x y z : Nat} (hx : x < t.length) (hy : y < t.length) (hz : z < t.length) : mul t (mul t x y) z = mul t x (mul t y z) :=
  congrArg Int.toNat (G.asc x y z hx hy hz)
theorem Grp.one_mul {x : Nat} (hx : x < t.length) : mul t 0 x = x := by
  show (at2 t 0 x).toNat = x
  rw [(G.idn x hx).1]; rfl
theorem Grp.mul_one {x : Nat} (hx : x < t.length) : mul t x 0 = x := by
  show (at2 t x 0).toNat = x
  rw [(G.idn x hx).2]; rfl
end
/-- the inverse: the first place of 0 in the row -/
def ivn (t : List (List Int)) (x : Nat) : Nat := (t.getD x []).idxOf 0
section
variable {t : List (List Int)} (G : Grp t)
include G
theorem Grp.inv_at {x : Nat} (hx : x < t.length) : ivn t x < t.length ∧ mul t x (ivn t x) = 0 := by
  obtain ⟨r, h1, h2, h3, h4⟩ := G.sq.rowAt hx
  have h5 := G.inv r (List.mem_of_getElem? h1)
  have h6 : r.idxOf 0 < r.length := List.idxOf_lt_length_of_mem h5
  have h7 : r[r.idxOf 0]? = some 0 := by
    rw [List.getElem?_eq_getElem h6]
    exact congrArg some (List.getElem_idxOf h6)
  unfold ivn
  rw [h3]
  refine ⟨by omega, ?_⟩
  show (at2 t x (r.idxOf 0)).toNat = 0
  rw [at2_of h1 h7]; rfl
theorem Grp.inv_lt {x : Nat} (hx : x < t.length) : ivn t x < t.length := (G.inv_at hx).1
theorem Grp.mul_inv {x : Nat} (hx : x < t.length) : mul t x (ivn t x) = 0 := (G.inv_at hx).2
theorem Grp.cancel {a b x : Nat} (ha : a < t.length) (hb : b < t.length) (hx : x < t.length) (h : mul t a x = mul t b x) : a = b := by
  have q := congrArg (fun u => mul t u (ivn t x)) h
  rw [G.assoc ha hx (G.inv_lt hx), G.assoc hb hx (G.inv_lt hx), G.mul_inv hx, G.mul_one ha, G.mul_one hb] at q
  exact q
theorem Grp.inv_mul {x : Nat} (hx : x < t.length) : mul t (ivn t x) x = 0 := by
  have hy := G.inv_lt hx
  have hz := G.inv_lt hy
  have p := G.lt hy hx
  have e1 : mul t (mul t (ivn t x) x) (mul t (ivn t x) (ivn t (ivn t x))) = mul t (ivn t x) (ivn t (ivn t x)) := by
    rw [G.assoc hy hx (G.lt hy hz), ← G.assoc hx hy hz, G.mul_inv hx, G.one_mul hz]
  rw [G.mul_inv hy, G.mul_one p] at e1
  exact e1
end
/-- x multiplied k times from the right to 0 -/
def pw (t : List (List Int)) (x : Nat) : Nat → Nat
  | 0 => 0
  | k + 1 => mul t (pw t x k) x
structure IsOrd (t : List (List Int)) (x k : Nat) : Prop where
  pos : 1 ≤ k
  one : pw t x k = 0
  least : ∀ j, 1 ≤ j → j < k → pw t x j ≠ 0
section
variable {t : List (List Int)} (G : Grp t)
include G
theorem Grp.pw_lt {x : Nat} (hx : x < t.length) : ∀ k, pw t x k < t.length
  | 0 => G.pos
  | k + 1 => G.lt (Grp.pw_lt hx k) hx
theorem Grp.pw_one {x : Nat} (hx : x < t.length) : pw t x 1 = x := G.one_mul hx
theorem Grp.pw_add {x : Nat} (hx : x < t.length) (a : Nat) : ∀ b, pw t x (a + b) = mul t (pw t x a) (pw t x b)
  | 0 => (G.mul_one (G.pw_lt hx a)).symm
  | b + 1 => by
    show mul t (pw t x (a + b)) x = _
    rw [Grp.pw_add hx a b, G.assoc (G.pw_lt hx a) (G.pw_lt hx b) hx]; rfl
theorem Grp.pw_back {x : Nat} (hx : x < t.length) : ∀ i j, i ≤ j → pw t x i = pw t x j → pw t x (j - i) = 0
  | 0, j, _, h => h.symm
  | i + 1, j, hij, h => by
    obtain ⟨m, rfl⟩ : ∃ m, j = m + 1 := ⟨j - 1, by omega⟩
    have := Grp.pw_back hx i m (by omega) (G.cancel (G.pw_lt hx i) (G.pw_lt hx m) hx h)
    rw [show m + 1 - (i + 1) = m - i by omega]
    exact this
theorem Grp.pw_zero {x : Nat} (hx : x < t.length) : ∃ k, 1 ≤ k ∧ k ≤ t.length ∧ pw t x k = 0 := by
  apply Classical.byContradiction
  intro no
  have nd : ((List.range (t.length + 1)).map (pw t x)).Nodup := by
    rw [List.Nodup, List.pairwise_map, List.pairwise_iff_getElem]
    intro i j hi hj hij
    rw [List.getElem_range, List.getElem_range]
    rw [List.length_range] at hi hj
    intro e
    exact no ⟨j - i, by omega, by omega, G.pw_back hx i j (by omega) e⟩
  have := nd.length_le_of_subset (l₂ := List.range t.length) (fun y hy => by
    obtain ⟨k, _, rfl⟩ := List.mem_map.mp hy
    exact List.mem_range.mpr (G.pw_lt hx k))
  rw [List.length_map, List.length_range, List.length_range] at this
  omega
theorem Grp.has_ord {x : Nat} (hx : x < t.length) : ∃ k, IsOrd t x k ∧ k ≤ t.length := by
  have H : ∀ n k, k ≤ n → 1 ≤ k → k ≤ t.length → pw t x k = 0 → ∃ k, IsOrd t x k ∧ k ≤ t.length := by
    intro n
    induction n with
    | zero => intro k h1 h2; omega
    | succ n ih =>
      intro k h1 h2 h3 h4
      by_cases c : ∃ j, 1 ≤ j ∧ j < k ∧ pw t x j = 0
      · obtain ⟨j, j1, j2, j3⟩ := c
        exact ih j (by omega) j1 (by omega) j3
      · exact ⟨k, ⟨h2, h4, fun j j1 j2 j3 => c ⟨j, j1, j2, j3⟩⟩, h3⟩
  obtain ⟨k, h1, h2, h3⟩ := G.pw_zero hx
  exact H k k (Nat.le_refl k) h1 h2 h3
theorem Grp.pw_mod {x k : Nat} (hx : x < t.length) (hk : IsOrd t x k) (e : Nat) : pw t x (e % k) = pw t x e := by
  have add : ∀ a q, pw t x (a + k * q) = pw t x a := by
    intro a q
    induction q with
    | zero => rfl
    | succ q ih =>
      rw [Nat.mul_succ, ← Nat.add_assoc, G.pw_add hx, hk.one, G.mul_one (G.pw_lt hx _)]
      exact ih
  have := add (e % k) (e / k)
  rw [Nat.mod_add_div] at this
  exact this.symm
theorem Grp.pw_inv {x : Nat} (hx : x < t.length) : ∀ e, mul t (pw t (ivn t x) e) (pw t x e) = 0
  | 0 => G.one_mul G.pos
  | e + 1 => by
    have hy := G.inv_lt hx
    have e1 : pw t x (e + 1) = mul t x (pw t x e) := by
      rw [Nat.add_comm e 1, G.pw_add hx 1 e, G.pw_one hx]
    rw [e1]
    show mul t (mul t (pw t (ivn t x) e) (ivn t x)) (mul t x (pw t x e)) = 0
    rw [G.assoc (G.pw_lt hy e) hy (G.lt hx (G.pw_lt hx e)), ← G.assoc hy hx (G.pw_lt hx e), G.inv_mul hx, G.one_mul (G.pw_lt hx e)]
    exact Grp.pw_inv hx e
theorem Grp.pw_neg {x k : Nat} (hx : x < t.length) (hk : IsOrd t x k) (e : Nat) : pw t x ((-(e : Int)) % (k : Int)).toNat = pw t (ivn t x) e := by
  have kp := hk.pos
  have h0 := Int.emod_nonneg (-(e : Int)) (by omega : (k : Int) ≠ 0)
  refine G.cancel (G.pw_lt hx _) (G.pw_lt (G.inv_lt hx) e) (G.pw_lt hx e) ?_
  rw [G.pw_inv hx e, ← G.pw_add hx, ← G.pw_mod hx hk]
  have h2 : (((-(e : Int)) % (k : Int)).toNat + e) % k = 0 := by
    have h3 : (((((-(e : Int)) % (k : Int)).toNat + e : Nat) : Int)) % (k : Int) = 0 := by
      rw [Int.natCast_add, Int.toNat_of_nonneg h0, Int.emod_add_emod]
      rw [show -(e : Int) + (e : Int) = 0 by omega]
      exact Int.zero_emod _
    have := Int.ofNat.inj (show ((((((-(e : Int)) % (k : Int)).toNat + e) % k : Nat)) : Int) = ((0 : Nat) : Int) by rw [Int.natCast_emod]; exact h3)
    exact this
  rw [h2]; rfl
end
theorem IsOrd.uniq {t : List (List Int)} {x k j : Nat} (h1 : IsOrd t x k) (h2 : IsOrd t x j) : k = j := by
  rcases Nat.lt_trichotomy k j with h | h | h
  · exact absurd h1.one (h2.least k h1.pos h)
  · exact h
  · exact absurd h2.one (h1.least j h2.pos h)
/-- what products of the elements reach from 0 -/
inductive Reach (t : List (List Int)) (ms : List Int) : Int → Prop
  | zero : Reach t ms 0
  | step {x m : Int} : Reach t ms x → m ∈ ms → Reach t ms (at2 t x.toNat m.toNat)
/-- the list of them, ascending -/
structure Closed (t : List (List Int)) (ms out : List Int) : Prop where
  asc : out.Pairwise (· < ·)
  mem : ∀ z, z ∈ out ↔ Reach t ms z
theorem Closed.uniq {t : List (List Int)} {ms a b : List Int} (h1 : Closed t ms a) (h2 : Closed t ms b) : a = b := by
  have n1 : a.Nodup := h1.asc.imp fun h => Int.ne_of_lt h
  have n2 : b.Nodup := h2.asc.imp fun h => Int.ne_of_lt h
  refine ((List.perm_ext_iff_of_nodup n1 n2).mpr fun z => (h1.mem z).trans (h2.mem z).symm).eq_of_pairwise (le := fun a b => a ≤ b) (fun x y _ _ h3 h4 => Int.le_antisymm h3 h4) (h1.asc.imp fun h => Int.le_of_lt h) (h2.asc.imp fun h => Int.le_of_lt h)
theorem Reach.lt {t : List (List Int)} {ms : List Int} (S : Sq t) (hm : ∀ m ∈ ms, 0 ≤ m ∧ m < (t.length : Int)) {z : Int} (h : Reach t ms z) : 0 ≤ z ∧ z < (t.length : Int) := by
  induction h with
  | zero => exact ⟨Int.le_refl 0, by have := S.pos; omega⟩
  | @step x m r hm2 ih =>
    obtain ⟨a, b⟩ := hm _ hm2
    have hx : x.toNat < t.length := by omega
    have hy : m.toNat < t.length := by omega
    obtain ⟨p, q, _⟩ := S.at hx hy
    exact ⟨p, q⟩
/-- a sorted list without duplicates is strictly ascending -/
theorem asc_of {a b : List Int} (p : b.Perm a) (s : b.Pairwise (· ≤ ·)) (n : a.Nodup) : b.Pairwise (· < ·) := by
  have nb : b.Nodup := p.nodup_iff.mpr n
  refine (s.and nb).imp fun {x y} h => ?_
  have := h.1
  have := h.2
  omega
/-- found so far -/
structure GenF (t : List (List Int)) (ms fs : List Int) : Prop where
  nd : fs.Nodup
  re : ∀ z ∈ fs, Reach t ms z
  z0 : (0 : Int) ∈ fs
theorem GenF.start (t : List (List Int)) (ms : List Int) : GenF t ms [0] := ⟨by simp, fun z h => by rw [List.mem_singleton.mp h]; exact .zero, by simp⟩
theorem GenF.add {t : List (List Int)} {ms fs : List Int} {x m : Int} (F : GenF t ms fs) (hx : x ∈ fs) (hm : m ∈ ms) (no : at2 t x.toNat m.toNat ∉ fs) : GenF t ms (fs ++ [at2 t x.toNat m.toNat]) := by
  refine ⟨List.nodup_append.mpr ⟨F.nd, by simp, fun a ha b hb => ?_⟩, fun z hz => ?_, List.mem_append_left _ F.z0⟩
  · rw [List.mem_singleton.mp
        hb]
    intro e
    exact no (e ▸ ha)
  · rcases List.mem_append.mp hz with h | h
    · exact F.re z h
    · rw [List.mem_singleton.mp h]
      exact .step (F.re x hx) hm
theorem GenF.few {t : List (List Int)} {ms fs : List Int} (F : GenF t ms fs) (S : Sq t) (hm : ∀ m ∈ ms, 0 ≤ m ∧ m < (t.length : Int)) : fs.length ≤ t.length := by
  have := F.nd.length_le_of_subset (l₂ := (List.range t.length).map fun i => ((i : Nat) : Int)) (fun z hz => by
    obtain ⟨a, b⟩ := (F.re z hz).lt S hm
    exact List.mem_map.mpr ⟨z.toNat, List.mem_range.mpr (by omega), by omega⟩)
  rw [List.length_map, List.length_range] at this
  exact this
theorem GenF.done {t : List (List Int)} {ms fs out : List Int} (F : GenF t ms fs) (cl : ∀ x ∈ fs, ∀ m ∈ ms, at2 t x.toNat m.toNat ∈ fs) (p : out.Perm fs) (s : out.Pairwise (· ≤ ·)) : Closed t ms out := by
  refine ⟨asc_of p s F.nd, fun z => ⟨fun h => F.re z (p.mem_iff.mp h), fun h => p.mem_iff.mpr ?_⟩⟩
  induction h with
  | zero => exact F.z0
  | step r hm ih => exact cl _ ih _ hm
/-- the marks of what is found -/
structure GenK (n : Nat) (fs : List Int) (kb : List Bool) : Prop where
  len : kb.length = n
  iff : ∀ i, i < n → (kb[i]? = some true ↔ ((i : Nat) : Int) ∈ fs)
theorem GenK.start {n : Nat} (h : 0 < n) : GenK n [0] ((List.replicate n false).set 0 true) := by
  refine ⟨by simp, fun i hi => ?_⟩
  rw [List.getElem?_set]
  by_cases c : 0 = i
  · subst c
    rw [if_pos rfl, if_pos (by simpa using h)]
    simp
  · rw [if_neg c, List.getElem?_replicate, if_pos hi]
    constructor
    · intro e; cases e
    · intro e
      have := List.mem_singleton.mp e
      omega
theorem GenK.add {n : Nat} {fs : List Int} {kb : List Bool} {p : Int} (Kb : GenK n fs kb) (h0 : 0 ≤ p) (h1 : p < (n : Int)) : GenK n (fs ++ [p]) (kb.set p.toNat true) := by
  refine ⟨by rw [List.length_set]; exact Kb.len, fun i hi => ?_⟩
  rw [List.getElem?_set]
  by_cases c : p.toNat = i
  · rw [if_pos c, if_pos (by rw [Kb.len]; omega)]
    refine iff_of_true rfl (List.mem_append_right _ (List.mem_singleton.mpr (by omega)))
  · rw [if_neg c, Kb.iff i hi, List.mem_append, List.mem_singleton]
    constructor
    · exact .inl
    · rintro (h | h)
      · exact h
      · omega
theorem GenK.get {n : Nat} {fs : List Int} {kb : List Bool} {p : Int} (Kb : GenK n fs kb) (h0 : 0 ≤ p) (h1 : p < (n : Int)) : kb[p.toNat]? = some (decide (p ∈ fs)) := by
  have h2 : p.toNat < kb.length := by rw [Kb.len]; omega
  have h3 := Kb.iff p.toNat (by omega)
  rw [Int.toNat_of_nonneg h0] at h3
  rw [List.getElem?_eq_getElem h2] at h3 ⊢
  congr 1
  by_cases c : p ∈ fs
  · rw [decide_eq_true c]
    exact Option.some.inj (h3.mpr c)
  · rw [decide_eq_false c]
    cases q : kb[p.toNat] with
    | false => rfl
    | true => rw [q] at h3; exact absurd (h3.mp rfl) c
theorem ixN_of {n j : Nat} {i : Int} (e : i = (j : Int)) (h : j < n) : L2.ixN n i = some j := by
  unfold L2.ixN
  rw [if_pos (by omega),
        if_pos (by omega)]
  congr 1
  omega
theorem map_set_bl {kb : List Bool} {j : Nat} {b : Bool} : (kb.map L2.V.bl).set j (.bl b) = (kb.set j b).map L2.V.bl := by rw [List.map_set]
theorem map_add_int {fs : List Int} {p : Int} : fs.map L2.V.int ++ [.int p] = (fs ++ [p]).map L2.V.int := by rw [List.map_append]; rfl
theorem map_get_bl {kb : List Bool} {j : Nat} {b : Bool} (h : kb[j]? = some b) : (kb.map L2.V.bl)[j]? = some (.bl b) := by rw [List.getElem?_map, h]; rfl
theorem map_get_int {kb : List Int} {j : Nat} {b : Int} (h : kb[j]? = some b) : (kb.map L2.V.int)[j]? = some (.int b) := by rw [List.getElem?_map, h]; rfl
open Classical in
/-- the generators among the elements below i -/
noncomputable def gensTo (t : List (List Int)) : Nat → List Int
  | 0 => []
  | i + 1 => if Reach t (gensTo t i) (i : Int) then gensTo t i else gensTo t i ++ [(i : Int)]
theorem gens_yes {t : List (List Int)} {i : Nat} (h : Reach t (gensTo t i) (i : Int)) : gensTo t (i + 1) = gensTo t i := if_pos h
theorem gens_no {t : List (List Int)} {i : Nat} (h : ¬ Reach t (gensTo t i) (i : Int)) : gensTo t (i + 1) = gensTo t i ++ [(i : Int)] := if_neg h
theorem gens_lt {t : List (List Int)} : ∀ i, ∀ x ∈ gensTo t i, 0 ≤ x ∧ x < (i : Int)
  | 0 => fun x h => by cases h
  | i + 1 => fun x h => by
    by_cases c : Reach t (gensTo t i) (i : Int)
    · rw [gens_yes c] at h
      have := gens_lt i x h
      omega
    · rw [gens_no c] at h
      rcases List.mem_append.mp
            h with h | h
      · have := gens_lt i x h
        omega
      · rw [List.mem_singleton.mp h]
        omega
theorem gens_len {t : List (List Int)} : ∀ i, (gensTo t i).length ≤ i
  | 0 => Nat.le_refl 0
  | i + 1 => by
    have := gens_len (t := t) i
    by_cases c : Reach t (gensTo t i) (i : Int)
    · rw [gens_yes c]; omega
    · rw [gens_no c, List.length_append, List.length_singleton]; omega
theorem Closed.nil (t : List (List Int)) : Closed t [] [0] := by
  refine ⟨by simp, fun z => ⟨fun h => by rw [List.mem_singleton.mp h]; exact .zero, fun h => ?_⟩⟩
  cases h with
  | zero => exact List.mem_singleton.mpr rfl
  | step _ h => cases h
def Comm (t : List (List Int)) : Prop := ∀ x y, x < t.length → y < t.length → at2 t x y = at2 t y x
/-- the table read by columns -/
def cols (t : List (List Int)) : List (List Int) := (List.range t.length).map fun y => (List.range t.length).map fun x => at2 t x y
theorem cols_at {t : List (List Int)} {y : Nat} (h : y < t.length) : (cols t).getD y [] = (List.range t.length).map fun x => at2 t x y := getD_of (by unfold cols; rw [List.getElem?_map, List.getElem?_range h]; rfl)
theorem comm_iff {t : List (List Int)} (S : Sq t) : t = cols t ↔ Comm t := by
  have rowx : ∀ x, x < t.length → ∃ r, t[x]? = some r ∧ r.length = t.length ∧ ∀ y, y < t.length → r[y]? = some (at2 t x y) := fun x hx => by
    obtain ⟨r, h1, h2, _, _⟩ := S.rowAt hx
    refine ⟨r, h1, h2, fun y hy => ?_⟩
    obtain ⟨_, _, r', w1, w2⟩ := S.at hx hy
    rw [h1] at w1
    cases w1
    exact w2
  constructor
  · intro h x y hx hy
    obtain ⟨r, h1, h2, h3⟩ := rowx x hx
    have h4 : (cols t)[x]? = some r := by rw [← h]; exact h1
    unfold cols at h4
    rw [List.getElem?_map, List.getElem?_range hx] at h4
    have h5 := h3 y hy
    rw [← Option.some.inj h4, List.getElem?_map, List.getElem?_range hy] at h5
    exact (Option.some.inj h5).symm
  · intro h
    refine List.ext_getElem? fun x => ?_
    by_cases hx : x < t.length
    · obtain ⟨r, h1, h2, h3⟩ := rowx x hx
      rw [h1]
      unfold cols
      rw [List.getElem?_map, List.getElem?_range hx]
      congr 1
      refine List.ext_getElem? fun y => ?_
      by_cases hy : y < t.length
      · rw [h3 y hy, List.getElem?_map, List.getElem?_range hy, h x y hx hy]; rfl
      · rw [List.getElem?_eq_none (by omega), List.getElem?_eq_none (by simp; omega)]
    · rw [List.getElem?_eq_none (by omega), List.getElem?_eq_none (by unfold cols; simp; omega)]
open L2 Rd in
/-- such tables as data -/
theorem dpRows {K : PySem.W.Frag} {H : Hp} : ∀ {rs : List PySem.Addr} {t : List (List Int)}, Rows TupN H rs t → DpAll K H (rs.map V.ref) (t.map iT)
  | [], [], _ => .nil
  | [], _ :: _, R => absurd R.len (by simp)
  | _ :: _, [], R => absurd R.len (by simp)
  | a :: rs, r :: t, R => .cons (dpT (R.row 0 a r rfl rfl).sq) (dpRows ⟨by have := R.len; simpa using this, fun i b q h1 h2 => R.row (i + 1) b q h1 h2⟩)
open L2 Rd in
theorem dpTab {K : PySem.W.Frag} {H : Hp} {R : PySem.Addr} {rs : List PySem.Addr} {t : List (List Int)} (h : TupN H R (rs.map V.ref)) (r : Rows TupN H rs t) : Dp K H (.ref R) (tT t) := .tup h.sq (dpRows r)
open L2 Rd in
theorem eqTab {K : PySem.W.Frag} {H : Hp} {Q : VK} {R R' : PySem.Addr} {rs rs' : List PySem.Addr} {t u : List (List Int)} (h1 : TupN H R (rs.map V.ref)) (r1 : Rows TupN H rs t) (h2 : TupN H R' (rs'.map V.ref)) (r2 : Rows TupN H rs' u) (h : Q (.bl (decide (t = u))) H) : rEqD K (.ref R) (.ref R') H Q :=
  ⟨_, _, dpTab h1 r1, dpTab h2 r2, tT_shaped _, tT_shaped _, by rw [tT_eqv]; exact h⟩
end GT

set_option linter.all false
/-! comprehensions with a test; pairs; the tables that laws draw -/
namespace Rd
open PySem PySem.Spec PyProof.Rows L2
section
variable {J : It} {xs : List V} {j : Nat} {te : TE} {tt : TT} {vs : List Nat} {σ : L2.St} {H : Hp} {Q : VK} {Qd : Addr → Hp → Prop}
/-- a comprehension with a test; nothing needs the heap -/
theorem lcIf (f : Nat → V) (p : Nat → Bool) (S : Src J xs H) (hz : xs.length ≤ 100000) (hw : ∀ x : V, wipe ((wipe σ vs).set j (some x)) vs = wipe σ vs)
    (ht : ∀ (n : Nat) (x : V) (H1 : Hp) (Q1 : Bool → Hp → Prop), xs[n]? = some x → Same H H1 → Q1 (p n) H1 → tt ((wipe σ vs).set j (some x)) H1 Q1)
    (hs : ∀ (n : Nat) (x : V) (H1 : Hp) (Q1 : VK), xs[n]? = some x → p n = true → Same H H1 → (∀ H2, Same H1 H2 → Q1 (f n) H2) → te ((wipe σ vs).set j (some x)) H1 Q1)
    (hq : ∀ (q : Addr) (H1 : Hp), H q = none → Same H H1 → H1 q = some (.lst (((List.range xs.length).filter p).map f)) → Qd q H1)
    (D : Addr) (hD : H D = none) :
    ∃ W : Nat → Nat → Hp → Prop, (∃ m, W 0 m (upd H D (.lst []))) ∧ ∀ i m H, W i m H →
      (J.stop i H ∧ Qd D H) ∨ (J.go i H ∧ ∃ Nx : Hp → Prop, (∀ H', Nx H' → ∃ m', m' < m ∧ W (i + 1) m' H') ∧ ∀ x H', J.yld i H x H' → gName j x (wipe σ vs) H' fun σ2 H2 => wipe σ2 vs = wipe σ vs ∧ tt σ2 H2 fun b H3 =>
        if b = true then te σ2 H3 fun y H4 => ∃ acc, H4 D = some (.lst
              acc) ∧ acc.length < sizeLine ∧ Nx (upd H4 D (.lst (acc ++ [y]))) else Nx H3) := by
  refine ⟨fun i m H1 => m = xs.length - i ∧ i ≤ xs.length ∧ Same H H1 ∧ H1 D = some (.lst (((List.range i).filter p).map f)), ⟨xs.length, rfl, Nat.zero_le _, same_mk hD, upd_same⟩, ?_⟩
  rintro i m H1 ⟨rfl, hi, e, hacc⟩
  by_cases c : i < xs.length
  · refine .inr ⟨S.go H1 _ e c, fun H' => Same H H' ∧ H' D = some (.lst (((List.range (i + 1)).filter p).map f)), fun H' z => ⟨xs.length - (i + 1), by omega, rfl, c, z⟩, fun x H' y => ?_⟩
    obtain ⟨rfl, hx⟩ := S.yld H1 _ x H' e y
    refine ⟨hw x, ht i x H' _ (hx c) e ?_⟩
    cases hp : p i with
    | true =>
      refine (if_pos rfl).mpr (hs i x H' _ (hx c) hp e fun H2 s2 => ?_)
      refine ⟨_, s2 _ _ hacc, ?_, same_mut (Same.trans e s2) hD, ?_⟩
      · rw [List.length_map]
        have := List.length_filter_le p (List.range i)
        rw [List.length_range] at this
        exact Nat.lt_of_lt_of_le (by omega : _ < 100000) (by decide)
      · rw [upd_same, List.range_succ, List.filter_append, List.map_append, List.filter_cons_of_pos hp]; rfl
    | false =>
      refine (if_neg Bool.false_ne_true).mpr ⟨e, ?_⟩
      rw [hacc, List.range_succ, List.filter_append, List.map_append, List.filter_cons_of_neg (by rw [hp]; exact Bool.false_ne_true)]
      simp
  · have e1 : i = xs.length := by omega
    subst e1
    exact .inl ⟨S.stop H1 e, hq D H1 hD e hacc⟩
end
/-- tuples of two ints: their addresses with what stands there -/
structure Prs (H : Hp) (ts : List Addr) (l : List (Int × Int)) : Prop where
  len : ts.length = l.length
  at_ : ∀ (i : Nat) (t : Addr) (q : Int × Int), ts[i]? = some t → l[i]? = some q → H t = some (.tup [.int q.1, .int q.2])
section
variable {H H' : Hp} {ts : List Addr} {l : List (Int × Int)}
theorem Prs.nil : Prs H [] [] := ⟨rfl, fun i t q h => by simp at h⟩
theorem Prs.same (h : Prs H ts l) (e : Same H H') : Prs H' ts l := ⟨h.len, fun i t q a b => e _ _ (h.at_ i t q a b)⟩
theorem Prs.but {p : Addr} {xs : List V} (h : Prs H ts l) (hp : H p = some (.lst xs)) (e : But p H H') : Prs H' ts l := ⟨h.len, fun i t q a b => by
  have z := h.at_ i t q a b
  exact e _ _ (ne_of z hp (by intro z; cases z)) z⟩
theorem Prs.snoc {t : Addr} {q : Int × Int} (h : Prs H ts l) (ht : H t = some (.tup [.int q.1, .int q.2])) : Prs H (ts ++ [t]) (l ++ [q]) := by
  refine ⟨by rw [List.length_append, List.length_append, h.len]; rfl, fun i u r a b => ?_⟩
  by_cases c : i < ts.length
  · rw [List.getElem?_append_left c] at a
    rw [List.getElem?_append_left (by rw [← h.len]; exact c)] at b
    exact h.at_ i u r a b
  · have lu := (List.getElem?_eq_some_iff.mp a).1
    rw [List.length_append, List.length_singleton] at lu
    have e : i = ts.length := by omega
    subst e
    rw [List.getElem?_append_right (Nat.le_refl _), Nat.sub_self] at a
    rw [h.len, List.getElem?_append_right (Nat.le_refl _), Nat.sub_self] at b
    cases a; cases b; exact ht
theorem Prs.pick (h : Prs H ts l) (idx : List Nat) (hi : ∀ j ∈ idx, j < l.length) : Prs H (idx.map fun j => ts.getD j 0) (idx.map fun j => l.getD j (0, 0)) := by
  refine ⟨by rw [List.length_map, List.length_map], fun i t q a b => ?_⟩
  rw [List.getElem?_map] at a b
  cases e : idx[i]? with
  | none => rw [e] at a; cases a
  | some j =>
    rw [e] at a b
    have hj := hi j (List.mem_of_getElem? e)
    have h1 : l[j]? = some l[j] := List.getElem?_eq_getElem hj
    have hj2 : j < ts.length := by rw [h.len]; exact hj
    have h2 : ts[j]? = some ts[j] := List.getElem?_eq_getElem hj2
    simp only [Option.map_some, List.getD_eq_getElem?_getD, h1, h2, Option.getD_some, Option.some.injEq] at a b
    subst a
    subst b
    exact h.at_ j _ _ h2 h1
theorem pick_mem (idx : List Nat) (hi : ∀ j ∈ idx, j < l.length) : ∀ q ∈ (idx.map fun j => l.getD j (0, 0)), q ∈ l := by
  intro q hq
  obtain ⟨j, hj, rfl⟩ := List.mem_map.mp hq
  have h := hi j hj
  rw [List.getD_eq_getElem?_getD, List.getElem?_eq_getElem h]
  exact List.getElem_mem h
theorem Prs.get (h : Prs H ts l) {i : Nat} {x : V} (hx : (ts.map V.ref)[i]? = some x) : ∃ t q, x = .ref t ∧ ts[i]? = some t ∧ l[i]? = some q ∧ H t = some (.tup [.int q.1, .int q.2]) := by
  rw [List.getElem?_map] at hx
  cases q : ts[i]? with
  | none => rw [q] at hx; cases hx
  | some t =>
    rw [q] at hx
    cases hx
    have hi : i < l.length := by rw [← h.len]; exact (List.getElem?_eq_some_iff.mp q).1
    exact ⟨t, l[i], rfl, rfl, List.getElem?_eq_getElem hi, h.at_ i t _ q (List.getElem?_eq_getElem hi)⟩
end
end Rd
namespace GT
/-- powers modulo n -/
def pwm (b n : Int) : Nat → Int
  | 0 => 1 % n
  | k + 1 => pwm b n k * b % n
theorem pwm_range {b n : Int} (hn : 1 ≤ n) : ∀ k, 0 ≤ pwm b n k ∧ pwm b n k < n
  | 0 => ⟨Int.emod_nonneg _ (by omega), Int.emod_lt_of_pos _ (by omega)⟩
  | k + 1 => ⟨Int.emod_nonneg _ (by omega), Int.emod_lt_of_pos _ (by omega)⟩
theorem pwm_one {n : Int} : ∀ k, pwm 1 n k = 1 % n
  | 0 => rfl
  | k + 1 => by
    show pwm 1 n k * 1 % n = _
    rw [pwm_one k, Int.mul_one, Int.emod_emod]
/-- entry y of row x of the metacyclic table times a cyclic one -/
def metaE (n m k r s x y : Int) : Int :=
  let a := x / (m * k) + pwm r n (x / k % m).toNat * (y / (m * k))
  let b := x / k % m + y / k % m
  ((if m ≤ b then a + s else a) % n * m + b % m) * k + (x + y) % k
theorem pack_lt {u v n m : Int} (hu0 : 0 ≤ u) (hu : u < n) (hv0 : 0 ≤ v) (hv : v < m) : 0 ≤ u * m + v ∧ u * m + v < n * m := by
  have h1 : 0 ≤ u * m := Int.mul_nonneg hu0 (by omega)
  have h2 : (u + 1) * m ≤ n * m := Int.mul_le_mul_of_nonneg_right (by omega) (by omega)
  rw [Int.add_mul,
        Int.one_mul] at h2
  omega
theorem metaE_range {n m k r s x y : Int} (hn : 1 ≤ n) (hm : 1 ≤ m) (hk : 1 ≤ k) : 0 ≤ metaE n m k r s x y ∧ metaE n m k r s x y < n * m * k := by
  unfold metaE
  simp only []
  have a := pack_lt (Int.emod_nonneg (if m ≤ x / k % m + y / k % m then x / (m * k) + pwm r n (x / k % m).toNat * (y / (m * k)) + s else x / (m * k) + pwm r n (x / k % m).toNat * (y / (m * k))) (by omega : n ≠ 0)) (Int.emod_lt_of_pos _ (by omega)) (Int.emod_nonneg (x / k % m + y / k % m) (by omega : m ≠ 0)) (Int.emod_lt_of_pos _ (by omega))
  exact pack_lt a.1 a.2 (Int.emod_nonneg (x + y) (by omega : k ≠ 0)) (Int.emod_lt_of_pos _ (by omega))
def metaT (n m k r s : Int) : List (List Int) := (List.range (n * m * k).toNat).map fun x => (List.range (n * m * k).toNat).map fun y => metaE n m k r s (x : Nat) (y : Nat)
structure MetaOk (n m k r s : Int) : Prop where
  n1 : 1 ≤ n
  m1 : 1 ≤ m
  k1 : 1 ≤ k
  r1 : 1 ≤ r
  rn : r ≤ n
  s0 : 0 ≤ s
  sn : s < n
  one : pwm r n m.toNat = 1 % n
  fix : (r - 1) * s % n = 0
theorem MetaOk.sq {n m k r s : Int} (M : MetaOk n m k r s) : Sq (metaT n m k r s) ∧ ((metaT n m k r s).length : Int) = n * m * k := by
  have p1 : 1 ≤ n * m := Int.mul_le_mul M.n1 M.m1 (by decide) (by have := M.n1; omega)
  have p2 : 1 ≤ n * m * k := Int.mul_le_mul p1 M.k1 (by decide) (by omega)
  have l : ((metaT n m k r s).length : Int) = n * m * k := by unfold metaT; rw [List.length_map, List.length_range]; omega
  refine ⟨⟨by omega, fun q hq => ?_⟩, l⟩
  rw [l]
  unfold metaT at hq ⊢
  obtain ⟨x, _, rfl⟩ := List.mem_map.mp hq
  refine ⟨by simp, fun e he => ?_⟩
  obtain ⟨y, _, rfl⟩ := List.mem_map.mp he
  exact metaE_range M.n1 M.m1 M.k1
end GT

set_option linter.all false
set_option maxRecDepth 100000
/-! permutations of four points -/
namespace GT
def quads : List (List Int) := [0, 1, 2, 3].flatMap fun a => [0, 1, 2, 3].flatMap fun b => [0, 1, 2, 3].flatMap fun c => [0, 1, 2, 3].map fun d => [a, b, c, d]
def perms4 : List (List Int) := quads.filter fun r => decide r.Nodup
/-- q after p -/
def comp (q p : List Int) : List Int := p.map fun x => q.getD x.toNat 0
def id4 : List Int := [0, 1, 2, 3]
theorem p4_len : perms4.length = 24 := by decide +kernel
theorem p4_id : id4 ∈ perms4 := by decide +kernel
theorem p4_comp : ∀ q ∈ perms4, ∀ p ∈ perms4, comp q p ∈ perms4 := by decide +kernel
theorem p4_rng : ∀ p ∈ perms4, p.length = 4 ∧ ∀ x ∈ p, 0 ≤ x ∧ x < 4 := by decide +kernel
theorem p4_one : ∀ p ∈ perms4, comp id4 p = p ∧ comp p id4 = p := by decide +kernel
theorem p4_of {r : List Int} (h : r.Perm [0, 1, 2, 3]) : r ∈ perms4 := by
  have l := h.length_eq
  have m : ∀ x ∈ r, x ∈ ([0, 1, 2, 3] : List Int) := fun x hx => h.mem_iff.mp hx
  have n : r.Nodup := h.nodup_iff.mpr (by decide)
  match r, l with
  | [a, b, c, d], _ =>
    refine List.mem_filter.mpr ⟨?_, decide_eq_true n⟩
    refine List.mem_flatMap.mpr ⟨a, m a (by simp), List.mem_flatMap.mpr ⟨b, m b (by simp), List.mem_flatMap.mpr ⟨c, m c (by simp), List.mem_map.mpr ⟨d, m d (by simp), rfl⟩⟩⟩⟩
theorem comp_assoc {a b c : List Int} (hb : b.length = 4) (hc : ∀ x ∈ c, 0 ≤ x ∧ x < 4) : comp (comp a b) c = comp a (comp b c) := by
  unfold comp
  rw [List.map_map]
  refine List.map_congr_left fun x hx => ?_
  obtain ⟨h0, h1⟩ := hc x hx
  show (b.map fun x => a.getD x.toNat 0).getD x.toNat 0 = a.getD (b.getD x.toNat 0).toNat 0
  have hl : x.toNat < b.length := by omega
  rw [List.getD_eq_getElem?_getD, List.getElem?_map, List.getD_eq_getElem?_getD (l := b), List.getElem?_eq_getElem hl]; rfl
/-- words in the makers -/
inductive Word (ms : List (List Int)) : List Int → Prop
  | one : Word ms id4
  | step {m z : List Int} : m ∈ ms → Word ms z → Word ms (comp m z)
structure GenP (ms fs : List (List Int)) : Prop where
  nd : fs.Nodup
  p4 : ∀ z ∈ fs, z ∈ perms4
  re : ∀ z ∈ fs, Word ms z
  one : id4 ∈ fs
theorem GenP.start (ms : List (List Int)) : GenP ms [id4] := ⟨by simp, fun z h => by rw [List.mem_singleton.mp h]; exact p4_id, fun z h => by rw [List.mem_singleton.mp h]; exact .one, by simp⟩
theorem GenP.add {ms fs : List (List Int)} {m z : List Int} (F : GenP ms fs) (hp : ∀ m ∈ ms, m ∈ perms4) (hm : m ∈ ms) (hz : z ∈ fs) (no : comp m z ∉ fs) : GenP ms (fs ++ [comp m z]) := by
  refine ⟨List.nodup_append.mpr ⟨F.nd, by simp, fun a ha b hb => ?_⟩, fun y hy => ?_, fun y hy => ?_, List.mem_append_left _ F.one⟩
  · rw [List.mem_singleton.mp
        hb]
    intro e
    exact no (e ▸ ha)
  · rcases List.mem_append.mp hy with h | h
    · exact F.p4 y h
    · rw [List.mem_singleton.mp h]
      exact p4_comp m (hp m hm) z (F.p4 z hz)
  · rcases List.mem_append.mp hy with h | h
    · exact F.re y h
    · rw [List.mem_singleton.mp h]
      exact .step hm (F.re z hz)
theorem GenP.few {ms fs : List (List Int)} (F : GenP ms fs) : fs.length ≤ 24 := by
  have := F.nd.length_le_of_subset (l₂ := perms4) F.p4
  rw [p4_len] at this
  exact this
theorem GenP.closed {ms fs : List (List Int)} (F : GenP ms fs) (hp : ∀ m ∈ ms, m ∈ perms4) (cl : ∀ z ∈ fs, ∀ m ∈ ms, comp m z ∈ fs) : ∀ q ∈ fs, ∀ p ∈ fs, comp q p ∈ fs := by
  intro q hq p hp2
  have hw := F.re q hq
  clear hq
  have pr := (p4_rng p (F.p4 p hp2)).2
  have key : ∀ q, Word ms q → q ∈ perms4 ∧ comp q p ∈ fs := by
    intro q hw
    induction hw with
    | one => exact ⟨p4_id, by rw [(p4_one p (F.p4 p hp2)).1]; exact hp2⟩
    | @step m z hm _ ih =>
      refine ⟨p4_comp m (hp m hm) z ih.1, ?_⟩
      rw [comp_assoc (p4_rng z ih.1).1 pr]
      exact cl _ ih.2 m hm
  exact (key q hw).2
/-- a set of permutations that is a group, in some order -/
structure PermOk (fs : List (List Int)) : Prop where
  nd : fs.Nodup
  p4 : ∀ z ∈ fs, z ∈ perms4
  one : id4 ∈ fs
  cl : ∀ q ∈ fs, ∀ p ∈ fs, comp q p ∈ fs
  le : fs.length ≤ 24
  asc : fs.Pairwise (fun x y => Rs.ltL y x = false)
def permT (fs : List (List Int)) : List (List Int) := fs.map fun p => fs.map fun q => ((fs.idxOf (comp q p) : Nat) : Int)
theorem PermOk.sq {fs : List (List Int)} (O : PermOk fs) : Sq (permT fs) ∧ (permT fs).length = fs.length := by
  have l : (permT fs).length = fs.length := by unfold permT; rw [List.length_map]
  refine ⟨⟨by rw [l]; exact List.length_pos_of_mem O.one, fun r hr => ?_⟩, l⟩
  rw [l]
  unfold permT at hr
  obtain ⟨p, hp, rfl⟩ := List.mem_map.mp hr
  refine ⟨by rw [List.length_map], fun e he => ?_⟩
  obtain ⟨q, hq, rfl⟩ := List.mem_map.mp he
  have := List.idxOf_lt_length_of_mem (O.cl q hq p hp)
  omega
open L2 Rd in
theorem dpRowsL {K : PySem.W.Frag} {H : Hp} : ∀ {rs : List PySem.Addr} {t : List (List Int)}, Rows LstN H rs t → DpAll K H (rs.map V.ref) (t.map iL)
  | [], [], _ => .nil
  | [], _ :: _, R => absurd R.len (by simp)
  | _ :: _, [], R => absurd R.len (by simp)
  | a :: rs, r :: t, R => .cons (dpL (SqL.of (R.row 0 a r rfl rfl))) (dpRowsL ⟨by have := R.len; simpa using this, fun i b q h1 h2 => R.row (i + 1) b q h1 h2⟩)
open Rd in
theorem anyL (d : List Int) : ∀ t : List (List Int), ((t.map iL).any fun z => PySem.PyData.eqv z (iL d)) = decide (d ∈ t)
  | [] => rfl
  | r :: t => by
    rw [List.map_cons, List.any_cons, anyL d t, iL_eqv, Bool.eq_iff_iff, Bool.or_eq_true, decide_eq_true_eq, decide_eq_true_eq, decide_eq_true_eq, List.mem_cons]
    constructor
    · rintro (h | h)
      · exact .inl h.symm
      · exact .inr h
    · rintro (h | h)
      · exact .inl h.symm
      · exact .inr h
open L2 Rd in
theorem notInLL {K : PySem.W.Frag} {H : Hp} {Q : VK} {a p : PySem.Addr} {rs : List PySem.Addr} {t : List (List Int)} {d : List Int} (hd : H a = some (.lst (d.map V.int))) (hp : H p = some (.lst (rs.map V.ref))) (R : Rows LstN H rs t) (h : Q (.bl (!decide (d ∈ t))) H) : rNotInD K (.ref a) (.ref p) H Q :=
  ⟨iL d, t.map iL, dpL (SqL.of hd), .lst (SqL.of hp) (dpRowsL R), iL_shaped d, lL_shaped t, by rw [anyL]; exact h⟩
open L2 Rd in
theorem indexLL {K : PySem.W.Frag} {H : Hp} {Q : VK} {a p : PySem.Addr} {rs : List PySem.Addr} {t : List (List Int)} {d : List Int} (hd : H a = some (.lst (d.map V.int))) (hp : H p = some (.lst (rs.map V.ref))) (R : Rows LstN H rs t) (m : d ∈ t) (h : Q (.int (t.idxOf d : Nat)) H) : rIndexD K (.ref p) [.ref a] H Q := by
  have h1 : t.idxOf d < t.length := List.idxOf_lt_length_of_mem m
  refine ⟨p, .ref a, iL d, t.map iL, t.idxOf d, iL d, rfl, rfl, .lst (SqL.of hp) (dpRowsL R), dpL (SqL.of hd), lL_shaped t, iL_shaped d, ?_, by rw [iL_eqv]; exact decide_eq_true rfl, fun n z' hn hz => ?_, h⟩
  · rw [List.getElem?_map, List.getElem?_eq_getElem h1, List.getElem_idxOf h1]; rfl
  · have hn2 : n < t.length := by omega
    rw [List.getElem?_map, List.getElem?_eq_getElem hn2] at hz
    cases hz
    rw [iL_eqv]
    refine decide_eq_false fun e => ?_
    have := List.not_of_lt_findIdx (p := fun x => x == d) (xs := t) (i := n) hn
    rw [e] at this
    simp at this
theorem erase_perm {α : Type} {l : List α} {k : Nat} {y : α} (h : l[k]? = some y) : (y :: l.eraseIdx k).Perm l := by
  obtain ⟨hk, e⟩ := List.getElem?_eq_some_iff.mp h
  have e2 : l = l.take k ++ y :: l.drop (k + 1) := by
    rw [← e, List.getElem_cons_drop hk, List.take_append_drop]
  rw [List.eraseIdx_eq_take_drop_succ]
  refine List.Perm.trans ?_ (List.Perm.of_eq e2.symm)
  exact List.perm_middle.symm
theorem ref_int {as : List PySem.Addr} {m : List Int} (h : as.map L2.V.ref = m.map L2.V.int) : m = [] := by
  cases m with
  | nil => rfl
  | cons x xs =>
    cases as with
    | nil => cases h
    | cons a as => cases h
end GT

set_option linter.all false
/-! tables with other numbers -/
namespace GT
structure NmOk (n : Nat) (ns : List Int) : Prop where
  len : ns.length = n
  rng : ∀ x ∈ ns, 0 ≤ x ∧ x < (n : Int)
  nd : ns.Nodup
  zero : 0 < n → ns[0]? = some 0
theorem NmOk.start (n : Nat) : NmOk n ((List.range n).map fun i => ((i : Nat) : Int)) := by
  refine ⟨by rw [List.length_map, List.length_range], fun x hx => ?_, ?_, fun h => by rw [List.getElem?_map, List.getElem?_range h]; rfl⟩
  · obtain ⟨i, hi, rfl⟩ := List.mem_map.mp hx
    have := List.mem_range.mp hi
    omega
  · rw [List.Nodup, List.pairwise_map]
    exact List.nodup_range.imp fun {a b} h e => h (by omega)
theorem swap_at {ns : List Int} {x y i : Nat} {a b : Int} (hx : ns[x]? = some a) (hy : ns[y]? = some b) : ((ns.set x b).set y a)[i]? = ns[if i = y then x else if i = x then y else i]? := by
  have lx := (List.getElem?_eq_some_iff.mp hx).1
  have ly := (List.getElem?_eq_some_iff.mp hy).1
  rw [List.getElem?_set, List.getElem?_set, List.length_set]
  by_cases c : i = y
  · subst c
    rw [if_pos rfl, if_pos ly, if_pos rfl, hx]
  · rw [if_neg (fun z => c z.symm), if_neg c]
    by_cases d : i = x
    · subst d
      rw [if_pos rfl, if_pos lx, if_pos rfl, hy]
    · rw [if_neg (fun z => d z.symm), if_neg d]
theorem NmOk.swap {n : Nat} {ns : List Int} {x y : Nat} {a b : Int} (N : NmOk n ns) (hx : ns[x]? = some a) (hy : ns[y]? = some b) (x1 : 1 ≤ x) (y1 : 1 ≤ y) : NmOk n ((ns.set x b).set y a) := by
  have lx := (List.getElem?_eq_some_iff.mp hx).1
  have ly := (List.getElem?_eq_some_iff.mp hy).1
  refine ⟨by rw [List.length_set, List.length_set]; exact N.len, fun z hz => ?_, ?_, fun h => ?_⟩
  · obtain ⟨i, hi⟩ := List.getElem?_of_mem hz
    rw [swap_at hx hy] at hi
    exact N.rng z (List.mem_of_getElem? hi)
  · rw [List.Nodup, List.pairwise_iff_getElem]
    intro i j hi hj hij e
    have e1 : ((ns.set x b).set y a)[i]? = ((ns.set x b).set y a)[j]? := by rw [List.getElem?_eq_getElem hi, List.getElem?_eq_getElem hj, e]
    rw [List.length_set, List.length_set] at hi hj
    rw [swap_at hx hy, swap_at hx hy] at e1
    have lt : (if i = y then x else if i = x then y else i) < ns.length := by
      split
      · exact lx
      · split
        · exact ly
        · exact hi
    have := (List.getElem?_inj lt N.nd).mp e1
    split at this <;> split at this <;> (try split at this) <;> (try split at this) <;> omega
  · rw [swap_at hx hy, if_neg (by omega), if_neg (by omega)]
    exact N.zero h
theorem NmOk.onto {n : Nat} {ns : List Int} (N : NmOk n ns) {k : Nat} (hk : k < n) : ∃ i, i < n ∧ ns[i]? = some (k : Int) := by
  have m : (k : Int) ∈ ns := by
    apply Classical.byContradiction
    intro no
    have := (List.nodup_cons.mpr ⟨no, N.nd⟩).length_le_of_subset (l₂ := (List.range n).map fun i => ((i : Nat) : Int)) (fun z hz => by
      rcases List.mem_cons.mp hz with h | h
      · rw [h]
        exact List.mem_map.mpr ⟨k, List.mem_range.mpr hk, rfl⟩
      · obtain ⟨h1, h2⟩ := N.rng z h
        exact List.mem_map.mpr ⟨z.toNat, List.mem_range.mpr (by omega), by omega⟩)
    rw [List.length_cons, List.length_map, List.length_range, N.len] at this
    omega
  obtain ⟨i, hi⟩ := List.getElem?_of_mem m
  exact ⟨i, by rw [← N.len]; exact (List.getElem?_eq_some_iff.mp hi).1, hi⟩
/-- the name of x -/
def nm (ns : List Int) (x : Nat) : Nat := (ns.getD x 0).toNat
theorem NmOk.at_ {n : Nat} {ns : List Int} (N : NmOk n ns) {x : Nat} (hx : x < n) : ns[x]? = some (nm ns x : Int) ∧ nm ns x < n := by
  have lx : x < ns.length := by rw [N.len]; exact hx
  obtain ⟨h1, h2⟩ := N.rng ns[x] (List.getElem_mem lx)
  unfold nm
  rw [getD_of (List.getElem?_eq_getElem lx), List.getElem?_eq_getElem lx]
  exact ⟨congrArg some (by omega), by omega⟩
theorem NmOk.inj {n : Nat} {ns : List Int} (N : NmOk n ns) {x y : Nat} (hx : x < n) (hy : y < n) (h : nm ns x = nm ns y) : x = y := by
  refine (List.getElem?_inj (by rw [N.len]; exact hx) N.nd).mp ?_
  rw [(N.at_ hx).1, (N.at_ hy).1, h]
structure Ren (t : List (List Int)) (ns : List Int) (u : List (List Int)) : Prop where
  nms : NmOk t.length ns
  len : u.length = t.length
  row : ∀ r ∈ u, r.length = t.length
  at_ : ∀ x y, x < t.length → y < t.length → at2 u (nm ns x) (nm ns y) = (nm ns (mul t x y) : Int)
theorem Ren.sq {t u : List (List Int)} {ns : List Int} (R : Ren t ns u) (S : Sq t) : Sq u := by
  refine ⟨by rw [R.len]; exact S.pos, fun r hr => ⟨by rw [R.len]; exact R.row r hr, fun e he => ?_⟩⟩
  obtain ⟨i, hi⟩ := List.getElem?_of_mem hr
  obtain ⟨j, hj⟩ := List.getElem?_of_mem he
  have li : i < t.length := by rw [← R.len]; exact (List.getElem?_eq_some_iff.mp hi).1
  have lj : j < t.length := by rw [← R.row r hr]; exact (List.getElem?_eq_some_iff.mp hj).1
  obtain ⟨x, hx, ex⟩ := R.nms.onto li
  obtain ⟨y, hy, ey⟩ := R.nms.onto lj
  have nx : nm ns x = i := by
    have := (R.nms.at_ hx).1
    rw [ex] at this
    have := Option.some.inj this
    omega
  have ny : nm ns y = j := by
    have := (R.nms.at_ hy).1
    rw [ey] at this
    have := Option.some.inj this
    omega
  have h := R.at_ x y hx hy
  rw [nx, ny, at2_of hi hj] at h
  have l := (R.nms.at_ (S.mul_lt hx hy)).2
  rw [h, R.len]
  omega
theorem at2_set {u : List (List Int)} {X Y : Nat} {r : List Int} {v : Int} (hr : u[X]? = some r) (hY : Y < r.length) (X' Y' : Nat) : at2 (u.set X (r.set Y v)) X' Y' = if X' = X ∧ Y' = Y then v else at2 u X' Y' := by
  have lX := (List.getElem?_eq_some_iff.mp hr).1
  unfold at2
  rw [List.getD_eq_getElem?_getD (l := u.set X (r.set Y v)), List.getElem?_set]
  by_cases c : X = X'
  · subst c
    rw [if_pos rfl, if_pos lX, Option.getD_some, List.getD_eq_getElem?_getD, List.getElem?_set, getD_of hr]
    by_cases d : Y = Y'
    · subst d
      rw [if_pos rfl, if_pos hY, if_pos ⟨rfl, rfl⟩]; rfl
    · rw [if_neg d, if_neg (fun z => d z.2.symm), List.getD_eq_getElem?_getD]
  · rw [if_neg c, if_neg (fun z => c z.1.symm), ← List.getD_eq_getElem?_getD]
open PySem L2 Rd in
theorem Rows.put {H : Hp} {ra : List Addr} {u : List (List Int)} {X : Nat} {a : Addr} {r : List Int} (R : Rows LstN H ra u) (nd : ra.Nodup) (ha : ra[X]? = some a) : Rows LstN (upd H a (.lst (r.map V.int))) ra (u.set X r) := by
  have lX := (List.getElem?_eq_some_iff.mp ha).1
  refine ⟨by rw [List.length_set]; exact R.len, fun i b q h1 h2 => ?_⟩
  unfold LstN
  rw [List.getElem?_set] at h2
  by_cases c : X = i
  · subst c
    rw [ha] at h1
    cases h1
    rw [if_pos rfl, if_pos (by rw [← R.len]; exact lX)] at h2
    cases h2
    exact upd_same
  · rw [if_neg c] at h2
    rw [upd_ne (fun z => c ((List.getElem?_inj lX nd).mp (by rw [ha, h1, z])))]
    exact R.row i b q h1 h2
end GT
namespace Rd
open PySem PySem.Spec PyProof.Rows L2
theorem rng3 {ta : TA} {σ : L2.St} {H : Hp} {R : It → Hp → Prop} (h : ta σ H fun vs H1 => ∃ (i j c : Int) (n : Nat), vs = [.int i, .int j, .int c] ∧ RgC i j c n ∧ R (Itc i c n) H1) : iRng3 ta σ H R := h
end Rd

set_option linter.all false
/-! what is tried -/
namespace Rd
open PySem PySem.Spec L2 PyProof.Rows
/-- what a callee lets out, to an except clause that asks nothing of the slots but how many they are -/
theorem passT {X : Cx} {W : WX} {n : Nat} (tk : Takes X W) (hn : X.N.length = n) : Passes (L2.CX X.prog X.w) X (fun cls d H' => ∀ σ' : L2.St, σ'.length = n → W cls d σ' H') :=
  fun _ σ _ _ e s' I c => tk e s' (XE.of_call I (fun _ _ _ h => h σ (I.len.trans hn)) c)
theorem psIf {X : Cx} {b : List Stmt} {P : Prop} {t : TS} (h : P → PSs X b t) : PSs X b (fun D σ H => P ∧ t D σ H) :=
  ⟨fun pins s σ H D I q => (h q.1).run pins s σ H D I q.2⟩
theorem zc_of {cls c : Value} {d : Option Addr} {oe : Obj} (h : Zc cls d oe) (e : cls = c) (z : d = none) : Zc c none oe := by
  subst e
  subst z
  exact h
theorem excOk {K : PySem.W.Frag} {C : Addr} {b : Bool} {cls : Value} (E : ExcC K C) (t : PySem.W.typeIn K (.ref C) = some (.type "type")) (s : PySem.W.subIn K cls (.ref C) = some b) : PySem.W.exmOne K cls (.ref C) = some b :=
  PySem.W.exm_ref E.hs E.hd t s
end Rd

namespace Rd
open PySem PySem.Spec L2 PyProof.Rows
abbrev Cl : Type := Value × Nat × (Addr → Value → Option Addr → TS)
/-- the ends of a suite whose name is unbound behind it -/
abbrev endsAs (D : Ends) (i : Nat) : Ends := { nx := fun σ' H' => D.nx (σ'.set i none) H', rt := D.rt, bk := fun σ' H' => D.bk (σ'.set i none) H', ct := fun σ' H' => D.ct (σ'.set i none) H' }
/-- what several clauses 'except x as n' wish, one after the other -/
def wAsMany (K : PySem.W.Frag) (Wout : WX) (D : Ends) : List Cl → WX
  | [] => Wout
  | (c, i, ts) :: r => fun cls d σ H => ∃ b, PySem.W.exmOne K cls c = some b ∧ (b = true → ∀ a, H a = none → ts a cls d (endsAs D i) (σ.set i (some (.ref a))) H) ∧ (b = false → wAsMany K Wout D r cls d σ H)
inductive HdsAs (X : Cx) : List ExceptHandler → List Cl → Prop
  | nil : HdsAs X [] []
  | cons {x n : Str} {c : Value} {i : Nat} {ts : Addr → Value → Option Addr → TS} {b₀ : Stmt} {suite : List Stmt} {np q : Pos} {hds : List ExceptHandler} {l : List Cl} (hi : X.N[i]? = some n) (hln : X.env.kindOf n = some .local) (hc : Names X x c)
      (hsu : ∀ (a : Addr) (oe : Obj) (cls : Value) (d : Option Addr) (pn : List (Addr × Obj)), Zc cls d oe → (∃ vs, oe.data = .fields vs) → PSs (X.suite a ((a, oe) :: pn)) (b₀ :: suite) (ts a cls d))
      (r : HdsAs X hds l) : HdsAs X (.ExceptHandler (some (.Name x np)) (some n) (b₀ :: suite) q :: hds) ((c, i, ts) :: l)
section
variable {X : Cx} {body : List Stmt} {h₀ : ExceptHandler} {hds : List ExceptHandler} {l : List Cl} {pos : Pos} {tb : WX → TS} {Wout : WX}
theorem ps_try_asMany (hs : X.stack = X.env :: X.outer) (hf : X.env.frame = some X.env.locals) (hN : X.N.Nodup) (tk : Takes X Wout)
    (hb : ∀ (W : WX) (pn : List (Addr × Obj)) (xe : Value → Shared → Prop), Takes (X.tr pn xe) W → PassesOwn (model X.prog X.w) X.A X.env xe → PSs (X.tr pn xe) body (tb W))
    (hh : HdsAs X (h₀ :: hds) l) : PS X (.Try body (h₀ :: hds) [] [] pos) (fun D σ H => tb (wAsMany X.K Wout D l) D σ H) := by
  constructor
  intro pins s σ H D I way
  have ok := I.ok
  have fr : X.A.frames = some (X.env :: X.outer) := by rw [ok.frames, hs]
  refine wpAny_Try_except ?_
  have run := fun xe t p => (hb (wAsMany X.K Wout D l) (X.pn ++ pins) xe t p).run [] s σ H D (I.toTry _) way
  refine wpAny_mono (run (fun e s₁ => wpAny (model X.prog X.w) X.A (noteFrame e X.env) (fun _ s₂ => wpAny (model X.prog X.w) X.A (setFlight e none) (fun _ s₃ =>
    wpAny (model X.prog X.w) X.A (handleBy e X.env (h₀ :: hds)) (SP X pins D) X.xe s₃) X.xe s₂) X.xe s₁) ?_ PassesOwn.looking) ?_ (fun _ _ z => z)
  · rintro u s' ⟨a, B, sI, pins', σ', H', cls, d, rfl, J', nb, up, sky, na, os, ag, wish⟩
    have J : Inv X pins σ' H' sI := J'.ofTry ok
    rw [hs] at sky
    show wpAny _ X.A (noteFrame (.ref a) X.env) _ _ _
    refine Sky.land Zc.steady fr hf sky fun h3 fl3 up3 => ?_
    have up13 := up.trans up3
    have J3 : Inv X pins σ' H' { s' with heap := h3 } := J.landed nb fl3.1 up13 os ag
    obtain ⟨oe3, vs3, he3, hz3, hd3⟩ := fl3.there
    have nfr : a ∉ frs (X.env :: X.outer) := fun hm => by
      obtain ⟨_, o2, e2, k2⟩ := fl3.2.2.1.mem hm
      rw [he3] at e2
      cases e2
      exact k2 _ hd3
    have nL : a ≠ X.env.locals := fun z => nfr (List.mem_filterMap.mpr ⟨X.env, List.mem_cons_self, by rw [z]; exact hf⟩)
    have nF : a ∉ X.fs := fun hm => by
      obtain ⟨e2, h2, q2⟩ := List.mem_filterMap.mp hm
      exact nfr (List.mem_filterMap.mpr ⟨e2, List.mem_cons_of_mem _ h2, q2⟩)
    have S3 := J3.suite he3 hd3 na nL nF
    have go : ∀ {hds2 : List ExceptHandler} {l2 : List Cl}, HdsAs X hds2 l2 → wAsMany X.K Wout D l2 cls d σ' H' → wpAny (model X.prog X.w) X.A (handleBy (.ref a) X.env hds2) (SP X pins D) X.xe { s' with heap := h3 } := by
      intro hds2 l2 hk
      induction hk with
      | nil =>
        intro out
        refine wpAny_handleBy_nil ?_
        obtain ⟨_, _, _, oe, vs, T, _, _, he, _, hd, h1, _⟩ := id fl3
        unfold PySem.passOn
        refine wpAny_bind (wpAny_field he hd h1 ?_)
        rw [if_neg (by simp)]
        have fly : wpAny (model X.prog X.w) X.A (setFlight (.ref a) X.env.frame) (fun _ s4 => wpAny (model X.prog X.w) X.A (throw (.ref a) : Sem Flow) (SP X pins D) X.xe s4) X.xe { s' with heap := h3 } := by
          rw [hf]
          refine HandSPX.setFlight_upZ fl3 fun h4 held up4 => wpAny_throw (tk _ _ ⟨a, B, sI, pins, σ', H', cls, d, rfl, J, nb, up13.trans up4, .inr (.inr ?_), na, os, ag, out⟩)
          rw [hs]
          exact held
        first
          | exact wpAny_bind fly
          | exact wpAny_bind (wpAny_pure (wpAny_bind fly))
      | @cons x n c i ts b₀ suite np q hds3 l3 hi hln hc hsu r ih =>
        rintro ⟨b, hb1, yes, no⟩
        have loc : Loc X.env.scope n := .inl hln
        refine wpAny_handleBy_cons (codeAny_handlers_test ?_) (by intro z; cases z)
        have look : PySem.W.Looks (model X.prog X.w) h3 (typeOf (.ref a)) cls := fun _ _ _ _ k z => wpAny_typeOf_ref (k _ _ he3) (by rw [hz3.1]; exact z)
        have ans := PySem.W.exm_one (M := model X.prog X.w) J3.kIn look hb1
        have ask : ∀ {Q E : Value → Shared → Prop}, Q c { s' with heap := h3 } → wpAny (model X.prog X.w) (X.A.mark (some (.ref a))) (eval (.Name x np) X.env) Q E { s' with heap := h3 } := by
          intro Q E z
          obtain ⟨hg, hdb, own | ⟨hm, hv, hn⟩⟩ := hc
          · exact ld_glob (X := X.suite a ((a, oe3) :: (X.pn ++ pins))) S3 hg own z hdb
          · exact ld_blt (X := X.suite a ((a, oe3) :: (X.pn ++ pins))) S3 hg hm hv z hn hdb
        refine ask (ans.here ?_)
        cases b with
        | false =>
          show wpAny _ X.A (handleBy (.ref a) X.env hds3) _ _ _
          exact ih (no rfl)
        | true =>
          refine codeAny_handlers_suite_as (HandSPX.lands_againZ fl3 fun h4 fl4 up4 => ?_)
          have J4 : Inv X pins σ' H' { s' with heap := h4 } := J.landed nb fl4.1 (up13.trans up4) os ag
          obtain ⟨oe4, vs4, he4, hz4, hd4⟩ := fl4.there
          have S4 := J4.suite he4 hd4 na nL nF
          refine store_ok (X := X.suite a ((a, oe4) :: (X.pn ++ pins))) (v := .ref a) S4 hN hi loc rfl (fun s5 S5 => ?_) (.inr hln)
          have went := (hsu a oe4 cls d (X.pn ++ pins) hz4 ⟨_, hd4⟩).run [] s5 _ H' _ S5 (yes rfl a na)
          refine wpAny_mono went (fun f s6 out => ?_) (fun _ _ z => z.elim)
          have behind : ∀ {σ6 : L2.St} {H6 : Hp} {Q : Shared → Prop}, Inv (X.suite a ((a, oe4) :: (X.pn ++ pins))) [] σ6 H6 s6 → (∀ s7, Inv X pins (σ6.set i none) H6 s7 → Q s7) →
              wpAny (model X.prog X.w) X.A (do bindName X.env n .none; unbindBehindTheSuite X.env n q) (fun _ s7 => Q s7) X.xe s6 := fun S6 k => gone_ok (S6.unsuite ok) hN hi hln k
          cases f with
          | ret u =>
            obtain ⟨v6, σ6, H6, S6, r6, q6⟩ := out
            exact behind S6 fun s7 J7 => ⟨_, _, _, J7, r6, q6⟩
          | next =>
            obtain ⟨σ6, H6, S6, q6⟩ := out
            exact behind S6 fun s7 J7 => ⟨_, _, J7, q6⟩
          | brk =>
            obtain ⟨σ6, H6, S6, q6⟩ := out
            exact behind S6 fun s7 J7 => ⟨_, _, J7, q6⟩
          | cont =>
            obtain ⟨σ6, H6, S6, q6⟩ := out
            exact behind S6 fun s7 J7 => ⟨_, _, J7, q6⟩
    exact go hh wish
  · intro f s1 out
    cases f with
    | ret u =>
      obtain ⟨v, σ2, H2, J2, r2, q2⟩ := out
      exact ⟨v, σ2, H2, J2.ofTry ok, r2, q2⟩
    | next =>
      obtain ⟨σ2, H2, J2, q2⟩ := out
      exact wpAny_execs_nil ⟨σ2, H2, J2.ofTry ok, q2⟩
    | brk =>
      obtain ⟨σ2, H2, J2, q2⟩ := out
      exact ⟨σ2, H2, J2.ofTry ok, q2⟩
    | cont =>
      obtain ⟨σ2, H2, J2, q2⟩ := out
      exact ⟨σ2, H2, J2.ofTry ok, q2⟩
end
end Rd
namespace Rd
open PySem PySem.Spec L2 PyProof.Rows
/-- the own == of the class at C -/
structure EqOk (P : Program) (w : World) (K : PySem.W.Frag) (mg : Str → Option Value) (base : Heap) (CX : CXT) (C : Addr) (k : Nat) (ps : List Str) (sp : Sp) : Prop where
  ok : ∃ f fd, PySem.W.findIn K (.ref C) "__eq__" = some (some (.ref f)) ∧ PySem.W.isFn K (.ref f) = true ∧ FnOk P w K mg base CX k f fd ps sp ∧ Binds K fd ps []
def rInsEq (C : Addr) (sp : Sp) (E : XK) : R2 := fun x y H Q => ∃ a dx fs b dy gs, x = .ref a ∧ y = .ref b ∧ H a = some (.ins C dx fs) ∧ H b = some (.ins C dy gs) ∧ sp [x, y] H Q E
theorem op_insEq {X : Cx} {CX : CXT} {C : Addr} {k : Nat} {ps : List Str} {sp : Sp} {E : XK} (M : EqOk X.prog X.w X.K X.mg X.base CX C k ps sp) (hr : Room k X.A) (hx : Passes CX X E) : OpR X (compareOp .Eq) (rInsEq C sp E) := by
  intro pins s σ H x y v u Q I rx ry ⟨a, dx, fs, b, dy, gs, ex, ey, ha, hb, q⟩
  obtain ⟨f, fd, find, fn, F, bi⟩ := M.ok
  subst ex ey
  obtain rfl : v = Value.ref a := rx
  obtain rfl : u = Value.ref b := ry
  obtain ⟨_, ja, _⟩ := ins_get I.hok ha
  obtain ⟨_, jb, _⟩ := ins_get I.hok hb
  obtain ⟨_, la, _⟩ := ja.look
  obtain ⟨_, lb, _⟩ := jb.look
  obtain ⟨_, fr⟩ := I.fr
  show wpAny _ X.A (richCompare .Eq (.ref a) (.ref b)) _ _ _
  refine PySem.W.cmp_K (op := .Eq) (tb := .ref C) hr.units0 fr I.ok.mod.kin la lb.type (by simp [PySem.W.notFirst]) find fn ?_
  refine wpAny_mono (run_fn (us := [.ref a, .ref b]) (vs := [.ref a, .ref b]) F hr bi .nil hx I (.cons rfl (.cons rfl .nil)) q) ?_ (fun _ _ z => z)
  rintro w2 s2 ⟨z, H2, I2, rz, qz⟩
  exact SlX.cmpback rz ⟨z, H2, I2, rz, qz⟩
end Rd

set_option linter.all false
namespace GT
/-- congruent modulo n -/
def Cg (n a b : Int) : Prop := ∃ q, a = b + n * q
section
variable {n a b c d : Int}
theorem Cg.refl (n a : Int) : Cg n a a := ⟨0, by grind⟩
theorem Cg.symm (h : Cg n a b) : Cg n b a := by obtain ⟨q, h⟩ := h; exact ⟨-q, by grind⟩
theorem Cg.trans (h : Cg n a b) (h2 : Cg n b c) : Cg n a c := by obtain ⟨q, h⟩ := h; obtain ⟨q2, h2⟩ := h2; exact ⟨q + q2, by grind⟩
theorem Cg.add (h : Cg n a b) (h2 : Cg n c d) : Cg n (a + c) (b + d) := by obtain ⟨q, h⟩ := h; obtain ⟨q2, h2⟩ := h2; exact ⟨q + q2, by grind⟩
theorem Cg.mul (h : Cg n a b) (h2 : Cg n c d) : Cg n (a * c) (b * d) := by obtain ⟨q, h⟩ := h; obtain ⟨q2, h2⟩ := h2; exact ⟨q * d + b * q2 + n * q * q2, by grind⟩
theorem Cg.mod (n a : Int) : Cg n (a % n) a := ⟨-(a / n), by have := Int.emod_add_mul_ediv a n; grind⟩
theorem Cg.eq (h : Cg n a b) : a % n = b % n := by obtain ⟨q, rfl⟩ := h; exact Int.add_mul_emod_self_left ..
theorem Cg.of (h : a % n = b % n) : Cg n a b := ((Cg.mod n a).symm).trans ((h ▸ Cg.mod n b : Cg n (a % n) b))
theorem Cg.small (h : Cg n a b) (h0 : 0 ≤ b) (h1 : b < n) : a % n = b := h.eq.trans (Int.emod_eq_of_lt h0 h1)
end
theorem pwm_cg (b n : Int) (k : Nat) : Cg n (pwm b n (k + 1)) (pwm b n k * b) := Cg.mod _ _
theorem pwm_add (b n : Int) (i : Nat) : ∀ j, Cg n (pwm b n (i + j)) (pwm b n i * pwm b n j)
  | 0 => by
    have h := (Cg.refl n (pwm b n i)).mul (Cg.mod n 1).symm
    rw [Int.mul_one] at h; exact h
  | j + 1 => by
    have h1 : Cg n (pwm b n (i + j + 1)) (pwm b n (i + j) * b) := pwm_cg b n (i + j)
    have h2 := (pwm_add b n i j).mul (Cg.refl n b)
    have h3 := (Cg.refl n (pwm b n i)).mul (pwm_cg b n j).symm
    rw [← Int.mul_assoc] at h3
    exact h1.trans (h2.trans h3)
namespace MetaOk
variable {n m k r s : Int} (M : MetaOk n m k r s)
include M
theorem pmul (q : Nat) : Cg n (pwm r n (m.toNat * q)) 1 := by
  induction q with
  | zero => exact Cg.mod n 1
  | succ q ih =>
    rw [Nat.mul_succ]
    refine (pwm_add r n _ _).trans ?_
    have h : Cg n (pwm r n m.toNat) 1 := by rw [M.one]; exact Cg.mod n 1
    have := ih.mul h
    rw [Int.mul_one] at this; exact this
theorem pmod (i : Nat) : Cg n (pwm r n (i % m.toNat)) (pwm r n i) := by
  have h := pwm_add r n (i % m.toNat) (m.toNat * (i / m.toNat))
  rw [Nat.mod_add_div] at h
  have h2 := (Cg.refl n (pwm r n (i % m.toNat))).mul (M.pmul (i / m.toNat))
  rw [Int.mul_one] at h2
  exact (h.trans h2).symm
theorem pfix (i : Nat) : Cg n (pwm r n i * s) s := by
  have rs : Cg n (r * s) s := by
    have h : Cg n ((r - 1) * s) 0 := Cg.of (by rw [M.fix, Int.zero_emod])
    have := h.add (Cg.refl n s)
    rw [Int.zero_add, show (r - 1) * s + s = r * s by grind] at this; exact this
  induction i with
  | zero => have := (Cg.mod n 1).mul (Cg.refl n s); rw [Int.one_mul] at this; exact this
  | succ i ih =>
    have h := (pwm_cg r n i).mul (Cg.refl n s)
    rw [Int.mul_assoc] at h
    exact h.trans (((Cg.refl n _).mul rs).trans ih)
theorem dec {u v c : Int} (v0 : 0 ≤ v) (v1 : v < m) (c0 : 0 ≤ c) (c1 : c < k) :
    ((u * m + v) * k + c) / (m * k) = u ∧ ((u * m + v) * k + c) / k % m = v ∧ ((u * m + v) * k + c) % k = c := by
  have m1 := M.m1
  have k1 := M.k1
  have e1 : ((u * m + v) * k + c) / k = u * m + v := by
    rw [Int.add_comm, Int.add_mul_ediv_right _ _ (by omega), Int.ediv_eq_zero_of_lt c0 c1, Int.zero_add]
  have e2 : (u * m + v) / m = u := by
    rw [Int.add_comm, Int.add_mul_ediv_right _ _ (by omega), Int.ediv_eq_zero_of_lt v0 v1, Int.zero_add]
  refine ⟨?_, ?_, ?_⟩
  · rw [Int.mul_comm m k, ← Int.ediv_ediv_of_nonneg (by omega : 0 ≤ k), e1, e2]
  · rw [e1, Int.add_comm, Int.add_mul_emod_self_right, Int.emod_eq_of_lt v0 v1]
  · rw [Int.add_comm, Int.add_mul_emod_self_right, Int.emod_eq_of_lt c0 c1]
theorem enc (y : Int) : (y / (m * k) * m + y / k % m) * k + y % k = y := by
  have k1 := M.k1
  have h1 := Int.emod_add_mul_ediv y k
  have h2 := Int.emod_add_mul_ediv (y / k) m
  rw [Int.mul_comm m k, ← Int.ediv_ediv_of_nonneg (by omega : 0 ≤ k)]
  grind
/-- the carry -/
abbrev ca (m x y : Int) : Int := if m ≤ x + y then 1 else 0
theorem eq (x y : Int) : metaE n m k r s x y = ((x / (m * k) + pwm r n (x / k % m).toNat * (y / (m * k)) + ca m (x / k % m) (y / k % m) * s) % n * m + (x / k % m + y / k % m) % m) * k + (x + y) % k := by
  unfold metaE ca
  simp only []
  split
  · rw [Int.one_mul]
  · rw [Int.zero_mul, Int.add_zero]
theorem comps (x y : Int) : metaE n m k r s x y / (m * k) = (x / (m * k) + pwm r n (x / k % m).toNat * (y / (m * k)) + ca m (x / k % m) (y / k % m) * s) % n ∧ metaE n m k r s x y / k % m = (x / k % m + y / k % m) % m ∧ metaE n m k r s x y % k = (x + y) % k := by
  have m1 := M.m1
  have k1 := M.k1
  rw [M.eq]
  exact M.dec (Int.emod_nonneg _ (by omega)) (Int.emod_lt_of_pos _ (by omega)) (Int.emod_nonneg _ (by omega)) (Int.emod_lt_of_pos _ (by omega))
theorem assoc (x y z : Int) : metaE n m k r s (metaE n m k r s x y) z = metaE n m k r s x (metaE n m k r s y z) := by
  have m1 := M.m1
  rw [M.eq (metaE n m k r s x y) z, M.eq x (metaE n m k r s y z)]
  obtain ⟨a1, b1, c1⟩ := M.comps x y
  obtain ⟨a2, b2, c2⟩ := M.comps y z
  have hc : (metaE n m k r s x y + z) % k = (x + metaE n m k r s y z) % k :=
    ((Cg.of c1 : Cg k _ (x + y)).add (Cg.refl k z)).trans ((by rw [Int.add_assoc]; exact ((Cg.refl k x).add (Cg.of c2)).symm : Cg k (x + y + z) _)) |>.eq
  rw [hc, a1, b1, a2, b2]
  have bx := Int.emod_nonneg (x / k) (by omega : m ≠ 0)
  have by_ := Int.emod_nonneg (y / k) (by omega : m ≠ 0)
  have bz := Int.emod_nonneg (z / k) (by omega : m ≠ 0)
  have bx' := Int.emod_lt_of_pos (x / k) (by omega : 0 < m)
  have by' := Int.emod_lt_of_pos (y / k) (by omega : 0 < m)
  have bz' := Int.emod_lt_of_pos (z / k) (by omega : 0 < m)
  generalize x / k % m = X at bx bx' ⊢
  generalize y / k % m = Y at by_ by' ⊢
  generalize z / k % m = Z at bz bz' ⊢
  generalize x / (m * k) = A
  generalize y / (m * k) = B
  generalize z / (m * k) = C
  have hb : ((X + Y) % m + Z) % m = (X + (Y + Z) % m) % m := by
    refine (((Cg.mod m (X + Y)).add (Cg.refl m Z)).trans ?_).eq
    rw [Int.add_assoc]
    exact ((Cg.refl m X).add (Cg.mod m (Y + Z))).symm
  rw [hb]
  have mod1 : (X + Y) % m = X + Y - ca m X Y * m := by
    unfold ca
    split
    · rw [← Int.emod_eq_of_lt (by omega : 0 ≤ X + Y - 1 * m) (by omega : X + Y - 1 * m < m)]
      exact Cg.eq ⟨1, by grind⟩
    · rw [Int.emod_eq_of_lt (by omega) (by omega)]; omega
  have mod2 : (Y + Z) % m = Y + Z - ca m Y Z * m := by
    unfold ca
    split
    · rw [← Int.emod_eq_of_lt (by omega : 0 ≤ Y + Z - 1 * m) (by omega : Y + Z - 1 * m < m)]
      exact Cg.eq ⟨1, by grind⟩
    · rw [Int.emod_eq_of_lt (by omega) (by omega)]; omega
  have car : ca m X Y + ca m ((X + Y) % m) Z = ca m Y Z + ca m X ((Y + Z) % m) := by
    rw [mod1, mod2]
    unfold ca
    repeat' split
    all_goals omega
  have pw : Cg n (pwm r n ((X + Y) % m).toNat) (pwm r n X.toNat * pwm r n Y.toNat) := by
    have e : ((X + Y) % m).toNat = (X.toNat + Y.toNat) % m.toNat := by
      have : (((X + Y) % m).toNat : Int) = (((X.toNat + Y.toNat) % m.toNat : Nat) : Int) := by
        rw [Int.toNat_of_nonneg (Int.emod_nonneg _ (by omega)), Int.natCast_emod, Int.natCast_add, Int.toNat_of_nonneg bx, Int.toNat_of_nonneg by_, Int.toNat_of_nonneg (by omega)]
      omega
    rw [e]
    exact (M.pmod _).trans (pwm_add r n _ _)
  refine congrArg (fun u => (u * m + (X + (Y + Z) % m) % m) * k + (x + metaE n m k r s y z) % k) (Cg.eq ?_)
  have l1 : Cg n ((A + pwm r n X.toNat * B + ca m X Y * s) % n) (A + pwm r n X.toNat * B + ca m X Y * s) := Cg.mod _ _
  have l2 := ((l1.add (pw.mul (Cg.refl n C))).add (Cg.refl n (ca m ((X + Y) % m) Z * s)))
  refine l2.trans ?_
  have q1 : Cg n ((B + pwm r n Y.toNat * C + ca m Y Z * s) % n) (B + pwm r n Y.toNat * C + ca m Y Z * s) := Cg.mod _ _
  have q2 := (((Cg.refl n A).add ((Cg.refl n (pwm r n X.toNat)).mul q1)).add (Cg.refl n (ca m X ((Y + Z) % m) * s)))
  refine Cg.trans ?_ q2.symm
  have f := (M.pfix X.toNat).mul (Cg.refl n (ca m Y Z))
  obtain ⟨w, hw⟩ := f
  refine ⟨-w, ?_⟩
  generalize ca m X Y = c1 at *
  generalize ca m ((X + Y) % m) Z = c2 at *
  generalize ca m Y Z = c3 at *
  generalize ca m X ((Y + Z) % m) = c4 at *
  grind
theorem zero_l {y : Int} (y0 : 0 ≤ y) (y1 : y < n * m * k) : metaE n m k r s 0 y = y := by
  have m1 := M.m1
  have k1 := M.k1
  rw [M.eq, Int.zero_ediv, Int.zero_ediv, Int.zero_emod]
  have by_ := Int.emod_nonneg (y / k) (by omega : m ≠ 0)
  have by' := Int.emod_lt_of_pos (y / k) (by omega : 0 < m)
  have a0 : 0 ≤ y / (m * k) := Int.ediv_nonneg y0 (Int.mul_nonneg (by omega) (by omega))
  have a1 : y / (m * k) < n := Int.ediv_lt_of_lt_mul (Int.mul_pos (by omega) (by omega)) (by rw [← Int.mul_assoc]; exact y1)
  have hca : ca m 0 (y / k % m) = 0 := if_neg (by omega)
  have h : Cg n (0 + pwm r n (0 : Int).toNat * (y / (m * k)) + 0 * s) (y / (m * k)) := by
    have := (Cg.mod n 1).mul (Cg.refl n (y / (m * k)))
    rw [Int.one_mul] at this
    have e : 0 + pwm r n (0 : Int).toNat * (y / (m * k)) + 0 * s = 1 % n * (y / (m * k)) := by
      show 0 + 1 % n * (y / (m * k)) + 0 * s = _
      grind
    rw [e]; exact this
  rw [hca, h.small a0 a1, Int.zero_add, Int.zero_add, Int.emod_emod, M.enc]
theorem zero_r {x : Int} (x0 : 0 ≤ x) (x1 : x < n * m * k) : metaE n m k r s x 0 = x := by
  have m1 := M.m1
  have k1 := M.k1
  rw [M.eq, Int.zero_ediv, Int.zero_ediv, Int.zero_emod]
  have bx := Int.emod_nonneg (x / k) (by omega : m ≠ 0)
  have bx' := Int.emod_lt_of_pos (x / k) (by omega : 0 < m)
  have a0 : 0 ≤ x / (m * k) := Int.ediv_nonneg x0 (Int.mul_nonneg (by omega) (by omega))
  have a1 : x / (m * k) < n := Int.ediv_lt_of_lt_mul (Int.mul_pos (by omega) (by omega)) (by rw [← Int.mul_assoc]; exact x1)
  have hca : ca m (x / k % m) 0 = 0 := if_neg (by omega)
  rw [hca, Int.mul_zero, Int.add_zero, Int.zero_mul, Int.add_zero, Int.emod_eq_of_lt a0 a1, Int.add_zero, Int.add_zero, Int.emod_emod, M.enc]
theorem inv_ex (x : Int) : ∃ y, 0 ≤ y ∧ y < n * m * k ∧ metaE n m k r s x y = 0 := by
  have n1 := M.n1
  have m1 := M.m1
  have k1 := M.k1
  have bx := Int.emod_nonneg (x / k) (by omega : m ≠ 0)
  have bx' := Int.emod_lt_of_pos (x / k) (by omega : 0 < m)
  generalize hX : x / k % m = X at bx bx'
  generalize hA : x / (m * k) = A
  have v0 := Int.emod_nonneg (-X) (by omega : m ≠ 0)
  have v1 := Int.emod_lt_of_pos (-X) (by omega : 0 < m)
  have c0 := Int.emod_nonneg (-x) (by omega : k ≠ 0)
  have c1 := Int.emod_lt_of_pos (-x) (by omega : 0 < k)
  obtain ⟨V, hV⟩ : ∃ V, V = (-X) % m := ⟨_, rfl⟩
  obtain ⟨U, hU⟩ : ∃ U, U = (-(A + ca m X V * s) * pwm r n V.toNat) % n := ⟨_, rfl⟩
  have u0 : 0 ≤ U := by rw [hU]; exact Int.emod_nonneg _ (by omega)
  have u1 : U < n := by rw [hU]; exact Int.emod_lt_of_pos _ (by omega)
  rw [← hV] at v0 v1
  refine ⟨(U * m + V) * k + (-x) % k, ?_, ?_, ?_⟩
  · exact (pack_lt (pack_lt u0 u1 v0 v1).1 (pack_lt u0 u1 v0 v1).2 c0 c1).1
  · exact (pack_lt (pack_lt u0 u1 v0 v1).1 (pack_lt u0 u1 v0 v1).2 c0 c1).2
  · obtain ⟨d1, d2, d3⟩ := M.dec (u := U) v0 v1 c0 c1
    rw [M.eq, d1, d2, hX, hA]
    have hb : (X + V) % m = 0 := by
      have : Cg m (X + V) 0 := by
        have := (Cg.refl m X).add (Cg.mod m (-X))
        rw [← hV, Int.add_right_neg] at this; exact this
      rw [this.eq, Int.zero_emod]
    have hc : (x + ((U * m + V) * k + (-x) % k)) % k = 0 := by
      have h : Cg k ((U * m + V) * k + (-x) % k) (-x) := (Cg.of (d3.trans (Int.emod_emod ..).symm) : Cg k _ ((-x) % k)).trans (Cg.mod k (-x))
      have := (Cg.refl k x).add h
      rw [Int.add_right_neg] at this
      rw [this.eq, Int.zero_emod]
    have pw : Cg n (pwm r n X.toNat * pwm r n V.toNat) 1 := by
      have h := (pwm_add r n X.toNat V.toNat).symm
      have e : (X.toNat + V.toNat) % m.toNat = 0 := by
        have : (((X.toNat + V.toNat) % m.toNat : Nat) : Int) = 0 := by
          rw [Int.natCast_emod, Int.natCast_add, Int.toNat_of_nonneg bx, Int.toNat_of_nonneg v0, Int.toNat_of_nonneg (by omega), hb]
        omega
      have h2 := M.pmod (X.toNat + V.toNat)
      rw [e] at h2
      exact h.trans (h2.symm.trans (Cg.mod n 1))
    have ha : (A + pwm r n X.toNat * U + ca m X V * s) % n = 0 := by
      have h1 : Cg n U (-(A + ca m X V * s) * pwm r n V.toNat) := by rw [hU]; exact Cg.mod _ _
      have h2 := (Cg.refl n (pwm r n X.toNat)).mul h1
      obtain ⟨w, hw⟩ := h2
      obtain ⟨z, hz⟩ := pw
      have : Cg n (A + pwm r n X.toNat * U + ca m X V * s) 0 := by
        refine ⟨w - z * (A + ca m X V * s), ?_⟩
        generalize ca m X V = c at *
        grind
      rw [this.eq, Int.zero_emod]
    rw [ha, hb, hc, Int.zero_mul, Int.zero_add, Int.zero_mul, Int.zero_add]
end MetaOk
theorem metaT_at {n m k r s : Int} {x y : Nat} (hx : x < (n * m * k).toNat) (hy : y < (n * m * k).toNat) : at2 (metaT n m k r s) x y = metaE n m k r s x y := by
  refine at2_of (r := (List.range (n * m * k).toNat).map fun y => metaE n m k r s (x : Nat) (y : Nat)) ?_ ?_
  · unfold metaT; rw [List.getElem?_map, List.getElem?_range hx]; rfl
  · rw [List.getElem?_map, List.getElem?_range hy]; rfl
theorem MetaOk.grp {n m k r s : Int} (M : MetaOk n m k r s) : Grp (metaT n m k r s) := by
  have l : (metaT n m k r s).length = (n * m * k).toNat := by unfold metaT; rw [List.length_map, List.length_range]
  have rg : ∀ x y : Int, 0 ≤ metaE n m k r s x y ∧ metaE n m k r s x y < n * m * k := fun x y => metaE_range M.n1 M.m1 M.k1
  refine ⟨M.sq.1, fun x hx => ?_, fun q hq => ?_, fun x y z hx hy hz => ?_⟩
  · rw [l] at hx
    rw [metaT_at (by omega) hx, metaT_at hx (by omega)]
    exact ⟨M.zero_l (by omega) (by omega), M.zero_r (by omega) (by omega)⟩
  · unfold metaT at hq
    obtain ⟨x, _, rfl⟩ := List.mem_map.mp hq
    obtain ⟨y, y0, y1, e⟩ := M.inv_ex x
    refine List.mem_map.mpr ⟨y.toNat, List.mem_range.mpr (by omega), ?_⟩
    rw [Int.toNat_of_nonneg y0, e]
  · rw [l] at hx hy hz
    obtain ⟨a0, a1⟩ := rg x y
    obtain ⟨b0, b1⟩ := rg y z
    rw [metaT_at hx hy, metaT_at hy hz, metaT_at (by omega) hz, metaT_at hx (by omega), Int.toNat_of_nonneg a0, Int.toNat_of_nonneg b0]
    exact M.assoc _ _ _
end GT

set_option linter.all false
set_option maxRecDepth 100000
namespace GT
theorem p4_inv : ∀ p ∈ perms4, ∃ q ∈ perms4, comp p q = id4 := by decide +kernel
theorem p4_least : ∀ p ∈ perms4, p = id4 ∨ Rs.ltL id4 p = true := by decide +kernel
namespace PermOk
variable {fs : List (List Int)} (O : PermOk fs)
include O
theorem inj {q q' p : List Int} (hq : q ∈ perms4) (hq' : q' ∈ perms4) (hp : p ∈ perms4) (h : comp q p = comp q' p) : q = q' := by
  obtain ⟨z, hz, e⟩ := p4_inv p hp
  have h1 : comp (comp q p) z = comp (comp q' p) z := congrArg (fun w => comp w z) h
  rw [comp_assoc (p4_rng p hp).1 (p4_rng z hz).2, comp_assoc (p4_rng p hp).1 (p4_rng z hz).2, e, (p4_one q hq).2, (p4_one q' hq').2] at h1
  exact h1
theorem zero : fs[0]? = some id4 := by
  have pos := List.length_pos_of_mem O.one
  rw [List.getElem?_eq_getElem pos]
  obtain ⟨j, hj, e⟩ := List.getElem_of_mem O.one
  by_cases c : j = 0
  · subst c; exact congrArg some e
  · have h := (List.pairwise_iff_getElem.mp O.asc) 0 j pos hj (by omega)
    rw [e] at h
    rcases p4_least _ (O.p4 _ (List.getElem_mem pos)) with h2 | h2
    · exact congrArg some h2
    · rw [h2] at h; cases h
theorem at_ {x y : Nat} (hx : x < fs.length) (hy : y < fs.length) : at2 (permT fs) x y = (fs.idxOf (comp fs[y] fs[x]) : Nat) := by
  refine at2_of (r := fs.map fun q => ((fs.idxOf (comp q fs[x]) : Nat) : Int)) ?_ ?_
  · unfold permT; rw [List.getElem?_map, List.getElem?_eq_getElem hx]; rfl
  · rw [List.getElem?_map, List.getElem?_eq_getElem hy]; rfl
theorem get_ {x y : Nat} (hx : x < fs.length) (hy : y < fs.length) : ∃ h : (at2 (permT fs) x y).toNat < fs.length, fs[(at2 (permT fs) x y).toNat] = comp fs[y] fs[x] := by
  have m := O.cl fs[y] (List.getElem_mem hy) fs[x] (List.getElem_mem hx)
  have l := List.idxOf_lt_length_of_mem m
  have e : (at2 (permT fs) x y).toNat = fs.idxOf (comp fs[y] fs[x]) := by rw [O.at_ hx hy]; rfl
  refine ⟨by rw [e]; exact l, ?_⟩
  have h1 : fs[(at2 (permT fs) x y).toNat]? = fs[fs.idxOf (comp fs[y] fs[x])]? := by rw [e]
  rw [List.getElem?_eq_getElem (by rw [e]; exact l), List.getElem?_eq_getElem l] at h1
  exact (Option.some.inj h1).trans (List.getElem_idxOf l)
theorem grp : Grp (permT fs) := by
  have l := O.sq.2
  have p4 := fun x (hx : x < fs.length) => O.p4 fs[x] (List.getElem_mem hx)
  have pos := List.length_pos_of_mem O.one
  have z0 : fs[0] = id4 := by
    have h := O.zero
    rw [List.getElem?_eq_getElem pos] at h
    exact Option.some.inj h
  refine ⟨O.sq.1, fun x hx => ?_, fun r hr => ?_, fun x y z hx hy hz => ?_⟩
  · rw [l] at hx
    rw [O.at_ pos hx, O.at_ hx pos, z0, (p4_one _ (p4 x hx)).1, (p4_one _ (p4 x hx)).2, O.nd.idxOf_getElem x hx]
    exact ⟨rfl, rfl⟩
  · unfold permT at hr
    obtain ⟨p, hp, rfl⟩ := List.mem_map.mp hr
    have nd : (fs.map fun q => comp q p).Nodup := by
      rw [List.Nodup, List.pairwise_map]
      refine O.nd.imp_of_mem fun {a b} ha hb n e => n (O.inj (O.p4 a ha) (O.p4 b hb) (O.p4 p hp) e)
    have m : id4 ∈ fs.map fun q => comp q p := by
      apply Classical.byContradiction
      intro no
      have := (List.nodup_cons.mpr ⟨no, nd⟩).length_le_of_subset (l₂ := fs) (fun z hz => by
        rcases List.mem_cons.mp hz with h | h
        · rw [h]; exact O.one
        · obtain ⟨q, hq, rfl⟩ := List.mem_map.mp h
          exact O.cl q hq p hp)
      rw [List.length_cons, List.length_map] at this
      omega
    obtain ⟨q, hq, e⟩ := List.mem_map.mp m
    refine List.mem_map.mpr ⟨q, hq, ?_⟩
    have e' : comp q p = id4 := e
    rw [e', ← z0, O.nd.idxOf_getElem 0 pos]; rfl
  · rw [l] at hx hy hz
    obtain ⟨h1, e1⟩ := O.get_ hx hy
    obtain ⟨h2, e2⟩ := O.get_ hy hz
    rw [O.at_ h1 hz, O.at_ hx h2, e1, e2, comp_assoc (p4_rng _ (p4 y hy)).1 (p4_rng _ (p4 x hx)).2]
end PermOk
theorem Ren.grp {t u : List (List Int)} {ns : List Int} (R : Ren t ns u) (G : Grp t) : Grp u := by
  have N := R.nms
  have on : ∀ i, i < u.length → ∃ x, x < t.length ∧ nm ns x = i := fun i hi => by
    obtain ⟨x, hx, ex⟩ := N.onto (k := i) (by rw [← R.len]; exact hi)
    refine ⟨x, hx, ?_⟩
    have := (N.at_ hx).1
    rw [ex] at this
    have := Option.some.inj this
    omega
  have z0 : nm ns 0 = 0 := by
    have := (N.at_ G.sq.pos).1
    rw [N.zero G.sq.pos] at this
    have := Option.some.inj this
    omega
  have ml : ∀ {x y}, x < t.length → y < t.length → mul t x y < t.length := fun hx hy => G.sq.mul_lt hx hy
  have at_ : ∀ x y, x < t.length → y < t.length → at2 u (nm ns x) (nm ns y) = (nm ns (mul t x y) : Int) := R.at_
  refine ⟨R.sq G.sq, fun i hi => ?_, fun r hr => ?_, fun i j k hi hj hk => ?_⟩
  · obtain ⟨x, hx, rfl⟩ := on i hi
    have a := at_ 0 x G.sq.pos hx
    have b := at_ x 0 hx G.sq.pos
    rw [z0] at a b
    have e1 : mul t 0 x = x := by unfold mul; rw [(G.idn x hx).1]; rfl
    have e2 : mul t x 0 = x := by unfold mul; rw [(G.idn x hx).2]; rfl
    rw [e1] at a; rw [e2] at b
    exact ⟨a, b⟩
  · obtain ⟨i, hi, rfl⟩ := List.getElem_of_mem hr
    obtain ⟨x, hx, e⟩ := on i hi
    obtain ⟨r, h1, h2, h3, h4⟩ := G.sq.rowAt hx
    have hm := G.inv r (List.mem_of_getElem? h1)
    obtain ⟨y, hy, ey⟩ := List.getElem_of_mem hm
    have hy' : y < t.length := by rw [← h2]; exact hy
    have h5 : at2 t x y = 0 := at2_of h1 (by rw [List.getElem?_eq_getElem hy, ey])
    have h6 := at_ x y hx hy'
    have h7 : mul t x y = 0 := by unfold mul; rw [h5]; rfl
    rw [h7, z0, e] at h6
    have lu : nm ns y < (u[i]).length := by rw [R.row _ (List.getElem_mem hi)]; exact (N.at_ hy').2
    have h8 : at2 u i (nm ns y) = u[i][nm ns y] := at2_of (List.getElem?_eq_getElem hi) (List.getElem?_eq_getElem lu)
    rw [h8] at h6
    have h9 : u[i][nm ns y] = 0 := h6
    rw [← h9]
    exact List.getElem_mem lu
  · obtain ⟨x, hx, rfl⟩ := on i hi
    obtain ⟨y, hy, rfl⟩ := on j hj
    obtain ⟨z, hz, rfl⟩ := on k hk
    rw [at_ x y hx hy, at_ y z hy hz, Int.toNat_natCast, Int.toNat_natCast, at_ _ z (ml hx hy) hz, at_ x _ hx (ml hy hz)]
    have := G.asc x y z hx hy hz
    have e : mul t (mul t x y) z = mul t x (mul t y z) := congrArg Int.toNat this
    rw [e]
end GT

set_option linter.all false
set_option maxRecDepth 100000
namespace GT
/-! ### the table of an operation on a list -/
def tabOf {α : Type} [BEq α] (f : α → α → α) (l : List α) : List (List Int) := l.map fun x => l.map fun y => ((l.idxOf (f x y) : Nat) : Int)
section
variable {α : Type} [BEq α] [LawfulBEq α] {f : α → α → α} {l : List α}
theorem tabOf_len : (tabOf f l).length = l.length := by unfold tabOf; rw [List.length_map]
theorem tabOf_at {x y : Nat} (hx : x < l.length) (hy : y < l.length) : at2 (tabOf f l) x y = (l.idxOf (f l[x] l[y]) : Nat) := by
  refine at2_of (r := l.map fun q => ((l.idxOf (f l[x] q) : Nat) : Int)) ?_ ?_
  · unfold tabOf; rw [List.getElem?_map, List.getElem?_eq_getElem hx]; rfl
  · rw [List.getElem?_map, List.getElem?_eq_getElem hy]; rfl
theorem tabOf_sq (pos : 0 < l.length) (cl : ∀ x ∈ l, ∀ y ∈ l, f x y ∈ l) : Sq (tabOf f l) := by
  refine ⟨by rw [tabOf_len]; exact pos, fun r hr => ?_⟩
  rw [tabOf_len]
  unfold tabOf at hr
  obtain ⟨p, hp, rfl⟩ := List.mem_map.mp hr
  refine ⟨by rw [List.length_map], fun e he => ?_⟩
  obtain ⟨q, hq, rfl⟩ := List.mem_map.mp he
  have := List.idxOf_lt_length_of_mem (cl p hp q hq)
  omega
theorem tabOf_get (cl : ∀ x ∈ l, ∀ y ∈ l, f x y ∈ l) {x y : Nat} (hx : x < l.length) (hy : y < l.length) : ∃ h : (at2 (tabOf f l) x y).toNat < l.length, l[(at2 (tabOf f l) x y).toNat] = f l[x] l[y] := by
  have m := cl l[x] (List.getElem_mem hx) l[y] (List.getElem_mem hy)
  have lt := List.idxOf_lt_length_of_mem m
  have e : (at2 (tabOf f l) x y).toNat = l.idxOf (f l[x] l[y]) := by rw [tabOf_at hx hy]; rfl
  refine ⟨by rw [e]; exact lt, ?_⟩
  have h1 : l[(at2 (tabOf f l) x y).toNat]? = l[l.idxOf (f l[x] l[y])]? := by rw [e]
  rw [List.getElem?_eq_getElem (by rw [e]; exact lt), List.getElem?_eq_getElem lt] at h1
  exact (Option.some.inj h1).trans (List.getElem_idxOf lt)
theorem tabOf_grp (nd : l.Nodup) (cl : ∀ x ∈ l, ∀ y ∈ l, f x y ∈ l) {e : α} (h0 : l[0]? = some e) (ol : ∀ x ∈ l, f e x = x) (or_ : ∀ x ∈ l, f x e = x) (asc : ∀ x ∈ l, ∀ y ∈ l, ∀ z ∈ l, f (f x y) z = f x (f y z))
    (can : ∀ x ∈ l, ∀ y ∈ l, ∀ z ∈ l, f x y = f x z → y = z) : Grp (tabOf f l) := by
  obtain ⟨pos, z0⟩ := List.getElem?_eq_some_iff.mp h0
  have me : e ∈ l := z0 ▸ List.getElem_mem pos
  refine ⟨tabOf_sq pos cl, fun x hx => ?_, fun r hr => ?_, fun x y z hx hy hz => ?_⟩
  · rw [tabOf_len] at hx
    have mx := List.getElem_mem hx
    rw [tabOf_at pos hx, tabOf_at hx pos, z0, ol _ mx, or_ _ mx, nd.idxOf_getElem x hx]
    exact ⟨rfl, rfl⟩
  · unfold tabOf at hr
    obtain ⟨p, hp, rfl⟩ := List.mem_map.mp hr
    have nd2 : (l.map fun q => f p q).Nodup := by
      rw [List.Nodup, List.pairwise_map]
      exact nd.imp_of_mem fun {a b} ha hb n e => n (can p hp a ha b hb e)
    have m : e ∈ l.map fun q => f p q := by
      apply Classical.byContradiction
      intro no
      have := (List.nodup_cons.mpr ⟨no, nd2⟩).length_le_of_subset (l₂ := l) (fun z hz => by
        rcases List.mem_cons.mp hz with h | h
        · rw [h]; exact me
        · obtain ⟨q, hq, rfl⟩ := List.mem_map.mp h
          exact cl p hp q hq)
      rw [List.length_cons, List.length_map] at this
      omega
    obtain ⟨q, hq, e1⟩ := List.mem_map.mp m
    refine List.mem_map.mpr ⟨q, hq, ?_⟩
    rw [e1, ← z0, nd.idxOf_getElem 0 pos]; rfl
  · rw [tabOf_len] at hx hy hz
    obtain ⟨h1, e1⟩ := tabOf_get cl hx hy
    obtain ⟨h2, e2⟩ := tabOf_get cl hy hz
    rw [tabOf_at h1 hz, tabOf_at hx h2, e1, e2, asc _ (List.getElem_mem hx) _ (List.getElem_mem hy) _ (List.getElem_mem hz)]
theorem idxOf_map {β : Type} [BEq β] [LawfulBEq β] {φ : α → β} : ∀ {l : List α} {a : α}, (∀ x ∈ l, φ x = φ a → x = a) → (l.map φ).idxOf (φ a) = l.idxOf a
  | [], a, _ => rfl
  | b :: l, a, inj => by
    rw [List.map_cons, List.idxOf_cons, List.idxOf_cons]
    by_cases c : b = a
    · subst c
      rw [beq_self_eq_true, beq_self_eq_true]; rfl
    · have : φ b ≠ φ a := fun e => c (inj b List.mem_cons_self e)
      rw [beq_eq_false_iff_ne.mpr c, beq_eq_false_iff_ne.mpr this, idxOf_map fun x hx => inj x (List.mem_cons_of_mem _ hx)]
theorem tabOf_map {β : Type} [BEq β] [LawfulBEq β] {g : β → β → β} {φ : α → β} (inj : ∀ x ∈ l, ∀ y ∈ l, φ x = φ y → x = y) (hom : ∀ x ∈ l, ∀ y ∈ l, φ (f x y) = g (φ x) (φ y)) (cl : ∀ x ∈ l, ∀ y ∈ l, f x y ∈ l) : tabOf g (l.map φ) = tabOf f l := by
  unfold tabOf
  rw [List.map_map]
  refine List.map_congr_left fun x hx => ?_
  show (l.map φ).map _ = _
  rw [List.map_map]
  refine List.map_congr_left fun y hy => ?_
  show (((l.map φ).idxOf (g (φ x) (φ y)) : Nat) : Int) = _
  rw [← hom x hx y hy, idxOf_map fun z hz e => inj z hz _ (cl x hx y hy) e]
end
/-! ### subgroups -/
/-- product of ints -/
def mi (t : List (List Int)) (x y : Int) : Int := at2 t x.toNat y.toNat
def InT (t : List (List Int)) (x : Int) : Prop := 0 ≤ x ∧ x < (t.length : Int)
section
variable {t : List (List Int)} (G : Grp t) {ns ms : List Int}
include G
theorem Grp.mi_in {x y : Int} (hx : InT t x) (hy : InT t y) : InT t (mi t x y) := by
  obtain ⟨a, b, _⟩ := G.sq.at (x := x.toNat) (y := y.toNat) (by have := hx.1; have := hx.2; omega) (by have := hy.1; have := hy.2; omega)
  exact ⟨a, b⟩
theorem Grp.mi_assoc {x y z : Int} (hx : InT t x) (hy : InT t y) (hz : InT t z) : mi t (mi t x y) z = mi t x (mi t y z) :=
  G.asc x.toNat y.toNat z.toNat (by have := hx.1; have := hx.2; omega) (by have := hy.1; have := hy.2; omega) (by have := hz.1; have := hz.2; omega)
theorem Grp.mi_one {x : Int} (hx : InT t x) : mi t 0 x = x ∧ mi t x 0 = x := by
  have h := G.idn x.toNat (by have := hx.1; have := hx.2; omega)
  rw [Int.toNat_of_nonneg hx.1] at h
  exact h
theorem Grp.mi_zero : InT t 0 := ⟨Int.le_refl 0, by have := G.sq.pos; omega⟩
theorem Grp.mi_inv {x : Int} (hx : InT t x) : ∃ y, InT t y ∧ mi t x y = 0 ∧ mi t y x = 0 := by
  have hx' : x.toNat < t.length := by have := hx.1; have := hx.2; omega
  have h := G.inv_at hx'
  have h2 := G.inv_mul hx'
  refine ⟨(ivn t x.toNat : Nat), ⟨by omega, by have := h.1; omega⟩, ?_, ?_⟩
  · show at2 t x.toNat ((ivn t x.toNat : Nat) : Int).toNat = 0
    rw [Int.toNat_natCast, G.sq.mul_eq hx' h.1, h.2]; rfl
  · show at2 t ((ivn t x.toNat : Nat) : Int).toNat x.toNat = 0
    rw [Int.toNat_natCast, G.sq.mul_eq h.1 hx', h2]; rfl
theorem Grp.mi_lc {x y z : Int} (hx : InT t x) (hy : InT t y) (hz : InT t z) (e : mi t x y = mi t x z) : y = z := by
  obtain ⟨i, hi, _, h2⟩ := G.mi_inv hx
  have := congrArg (mi t i) e
  rw [← G.mi_assoc hi hx hy, ← G.mi_assoc hi hx hz, h2, (G.mi_one hy).1, (G.mi_one hz).1] at this
  exact this
theorem Grp.mi_rc {x y z : Int} (hx : InT t x) (hy : InT t y) (hz : InT t z) (e : mi t y x = mi t z x) : y = z := by
  obtain ⟨i, hi, h1, _⟩ := G.mi_inv hx
  have : mi t (mi t y x) i = mi t (mi t z x) i := congrArg (fun w => mi t w i) e
  rw [G.mi_assoc hy hx hi, G.mi_assoc hz hx hi, h1, (G.mi_one hy).2, (G.mi_one hz).2] at this
  exact this
theorem Grp.reach_in (hn : ∀ m ∈ ns, InT t m) {z : Int} (h : Reach t ns z) : InT t z := h.lt G.sq hn
theorem Grp.reach_mul (hn : ∀ m ∈ ns, InT t m) {x y : Int} (hx : Reach t ns x) (hy : Reach t ns y) : Reach t ns (mi t x y) := by
  induction hy with
  | zero => rw [(G.mi_one (G.reach_in hn hx)).2]; exact hx
  | @step y m r hm ih =>
    show Reach t ns (mi t x (mi t y m))
    rw [← G.mi_assoc (G.reach_in hn hx) (G.reach_in hn r) (hn m hm)]
    exact .step ih hm
/-- the list of a subgroup that is generated -/
structure SubG (t : List (List Int)) (ns ms : List Int) : Prop where
  gen : ∀ m ∈ ns, InT t m
  cl : Closed t ns ms
omit G in
theorem SubG.nd (S : SubG t ns ms) : ms.Nodup := S.cl.asc.imp fun h => Int.ne_of_lt h
theorem SubG.in_ (S : SubG t ns ms) : ∀ x ∈ ms, InT t x := fun x hx => G.reach_in S.gen ((S.cl.mem x).mp hx)
theorem SubG.mul (S : SubG t ns ms) : ∀ x ∈ ms, ∀ y ∈ ms, mi t x y ∈ ms := fun x hx y hy => (S.cl.mem _).mpr (G.reach_mul S.gen ((S.cl.mem x).mp hx) ((S.cl.mem y).mp hy))
theorem SubG.zero (S : SubG t ns ms) : ms[0]? = some 0 := by
  have m0 : (0 : Int) ∈ ms := (S.cl.mem 0).mpr .zero
  have pos := List.length_pos_of_mem m0
  rw [List.getElem?_eq_getElem pos]
  obtain ⟨j, hj, e⟩ := List.getElem_of_mem m0
  by_cases c : j = 0
  · subst c; exact congrArg some e
  · have h := (List.pairwise_iff_getElem.mp S.cl.asc) 0 j pos hj (by omega)
    have := (S.in_ G _ (List.getElem_mem pos)).1
    omega
theorem SubG.le (S : SubG t ns ms) : ms.length ≤ t.length := by
  have := S.nd.length_le_of_subset (l₂ := (List.range t.length).map fun i => ((i : Nat) : Int)) (fun z hz => by
    obtain ⟨a, b⟩ := S.in_ G z hz
    exact List.mem_map.mpr ⟨z.toNat, List.mem_range.mpr (by omega), by omega⟩)
  rw [List.length_map, List.length_range] at this
  exact this
theorem SubG.grp (S : SubG t ns ms) : Grp (tabOf (mi t) ms) :=
  tabOf_grp S.nd (S.mul G) (S.zero G) (fun x hx => (G.mi_one (S.in_ G x hx)).1) (fun x hx => (G.mi_one (S.in_ G x hx)).2) (fun x hx y hy z hz => G.mi_assoc (S.in_ G x hx) (S.in_ G y hy) (S.in_ G z hz))
    (fun x hx y hy z hz => G.mi_lc (S.in_ G x hx) (S.in_ G y hy) (S.in_ G z hz))
theorem SubG.grpT (S : SubG t ns ms) : Grp (tabOf (fun x y => mi t y x) ms) :=
  tabOf_grp S.nd (fun x hx y hy => S.mul G y hy x hx) (S.zero G) (fun x hx => (G.mi_one (S.in_ G x hx)).2) (fun x hx => (G.mi_one (S.in_ G x hx)).1) (fun x hx y hy z hz => (G.mi_assoc (S.in_ G z hz) (S.in_ G y hy) (S.in_ G x hx)).symm)
    (fun x hx y hy z hz => G.mi_rc (S.in_ G x hx) (S.in_ G y hy) (S.in_ G z hz))
end
end GT

set_option linter.all false
set_option maxRecDepth 100000
namespace GT
/-! ### words in lists, in order -/
inductive PReach (ps : List (List Int)) (e : List Int) : List Int → Prop
  | one : PReach ps e e
  | step {z p : List Int} : PReach ps e z → p ∈ ps → PReach ps e (comp p z)
structure PClosed (ps : List (List Int)) (e : List Int) (cs : List (List Int)) : Prop where
  asc : cs.Pairwise (fun x y => Rs.ltL x y = true)
  mem : ∀ z, z ∈ cs ↔ PReach ps e z
theorem ltL_tri : ∀ x y : List Int, Rs.ltL x y = false → Rs.ltL y x = false → x = y
  | [], [], _, _ => rfl
  | [], _ :: _, h, _ => by cases h
  | _ :: _, [], _, h => by cases h
  | a :: x, b :: y, h1, h2 => by
    have h1' : (if a = b then Rs.ltL x y else decide (a < b)) = false := h1
    have h2' : (if b = a then Rs.ltL y x else decide (b < a)) = false := h2
    by_cases e : a = b
    · rw [if_pos e] at h1'
      rw [if_pos e.symm] at h2'
      rw [e, ltL_tri x y h1' h2']
    · rw [if_neg e] at h1'
      rw [if_neg (fun q => e q.symm)] at h2'
      have := of_decide_eq_false h1'
      have := of_decide_eq_false h2'
      omega
theorem ltL_ne {x y : List Int} (h : Rs.ltL x y = true) : x ≠ y := fun e => by rw [e, Rs.ltL_irr] at h; cases h
theorem PClosed.nd {ps cs : List (List Int)} {e : List Int} (C : PClosed ps e cs) : cs.Nodup := C.asc.imp fun h => ltL_ne h
theorem PClosed.sorted {ps cs fs bs : List (List Int)} {e : List Int} (C : PClosed ps e cs) (nd : fs.Nodup) (m : ∀ z, z ∈ fs ↔ PReach ps e z) (p : bs.Perm fs) (s : bs.Pairwise fun x y => Rs.ltL y x = false) : bs = cs := by
  have nb : bs.Nodup := p.nodup_iff.mpr nd
  refine ((List.perm_ext_iff_of_nodup nb C.nd).mpr fun z => (p.mem_iff.trans (m z)).trans (C.mem z).symm).eq_of_pairwise (le := fun a b => Rs.ltL b a = false) (fun x y _ _ h3 h4 => ltL_tri x y h4 h3) s (C.asc.imp fun h => Rs.ltL_asym _ _ h)
/-- found so far -/
structure PGen (ps : List (List Int)) (e : List Int) (fs : List (List Int)) : Prop where
  nd : fs.Nodup
  re : ∀ z ∈ fs, PReach ps e z
  z0 : e ∈ fs
theorem PGen.start (ps : List (List Int)) (e : List Int) : PGen ps e [e] := ⟨by simp, fun z h => by rw [List.mem_singleton.mp h]; exact .one, by simp⟩
theorem PGen.add {ps fs : List (List Int)} {e z p : List Int} (F : PGen ps e fs) (hz : z ∈ fs) (hp : p ∈ ps) (no : comp p z ∉ fs) : PGen ps e (fs ++ [comp p z]) := by
  refine ⟨List.nodup_append.mpr ⟨F.nd, by simp, fun a ha b hb => ?_⟩, fun y hy => ?_, List.mem_append_left _ F.z0⟩
  · rw [List.mem_singleton.mp hb]
    intro e
    exact no (e ▸ ha)
  · rcases List.mem_append.mp hy with h | h
    · exact F.re y h
    · rw [List.mem_singleton.mp h]
      exact .step (F.re z hz) hp
theorem PGen.few {ps fs cs : List (List Int)} {e : List Int} (F : PGen ps e fs) (C : PClosed ps e cs) : fs.length ≤ cs.length := F.nd.length_le_of_subset fun z hz => (C.mem z).mpr (F.re z hz)
theorem PGen.room {ps fs cs : List (List Int)} {e z p : List Int} (F : PGen ps e fs) (C : PClosed ps e cs) (hz : z ∈ fs) (hp : p ∈ ps) (no : comp p z ∉ fs) : fs.length < cs.length := by
  have := (F.add hz hp no).few C
  rw [List.length_append, List.length_singleton] at this
  omega
theorem PGen.done {ps fs : List (List Int)} {e : List Int} (F : PGen ps e fs) (cl : ∀ z ∈ fs, ∀ p ∈ ps, comp p z ∈ fs) (z : List Int) : z ∈ fs ↔ PReach ps e z := by
  refine ⟨F.re z, fun h => ?_⟩
  induction h with
  | one => exact F.z0
  | step _ hp ih => exact cl _ ih _ hp
/-! ### widened lists -/
def rngI (n : Nat) : List Int := (List.range n).map fun i => ((i : Nat) : Int)
theorem rngI_len (n : Nat) : (rngI n).length = n := by unfold rngI; rw [List.length_map, List.length_range]
theorem rngI_get {n i : Nat} (h : i < n) : (rngI n)[i]? = some (i : Int) := by unfold rngI; rw [List.getElem?_map, List.getElem?_range h]; rfl
theorem rngI_mem {n : Nat} {x : Int} : x ∈ rngI n ↔ 0 ≤ x ∧ x < (n : Int) := by
  unfold rngI
  constructor
  · intro h
    obtain ⟨i, hi, rfl⟩ := List.mem_map.mp h
    have := List.mem_range.mp hi
    omega
  · rintro ⟨h0, h1⟩
    exact List.mem_map.mpr ⟨x.toNat, List.mem_range.mpr (by omega), by omega⟩
theorem rngI_add (a b : Nat) : rngI (a + b) = rngI a ++ (rngI b).map (· + (a : Int)) := by
  unfold rngI
  rw [List.range_add, List.map_append, List.map_map, List.map_map]
  congr 1
  refine List.map_congr_left fun i _ => ?_
  show ((a + i : Nat) : Int) = (i : Int) + (a : Int)
  omega
def widen (b h : Nat) (r : List Int) : List Int := rngI b ++ r.map (· + (b : Int)) ++ (rngI h).map (· + ((b + r.length : Nat) : Int))
theorem widen_len (b h : Nat) (r : List Int) : (widen b h r).length = b + r.length + h := by unfold widen; simp [rngI_len]; omega
theorem widen_lo {b h : Nat} {r : List Int} {i : Nat} (hi : i < b) : (widen b h r)[i]? = some (i : Int) := by
  unfold widen
  rw [List.append_assoc, List.getElem?_append_left (by rw [rngI_len]; exact hi), rngI_get hi]
theorem widen_mid {b h : Nat} {r : List Int} {i : Nat} {x : Int} (hx : r[i]? = some x) : (widen b h r)[b + i]? = some (x + (b : Int)) := by
  have hi := (List.getElem?_eq_some_iff.mp hx).1
  unfold widen
  rw [List.append_assoc, List.getElem?_append_right (by rw [rngI_len]; omega), rngI_len, List.getElem?_append_left (by rw [List.length_map]; omega), List.getElem?_map, show b + i - b = i by omega, hx]; rfl
theorem widen_hi {b h : Nat} {r : List Int} {i : Nat} (hi : i < h) : (widen b h r)[b + r.length + i]? = some ((b + r.length + i : Nat) : Int) := by
  unfold widen
  rw [List.getElem?_append_right (by rw [List.length_append, rngI_len, List.length_map]; omega), List.length_append, rngI_len, List.length_map, List.getElem?_map, show b + r.length + i - (b + r.length) = i by omega, rngI_get hi]
  show some ((i : Int) + ((b + r.length : Nat) : Int)) = _
  congr 1
  omega
theorem comp_widen {b h : Nat} {q p : List Int} (l : p.length = q.length) (rg : ∀ x ∈ p, 0 ≤ x ∧ x < (q.length : Int)) : comp (widen b h q) (widen b h p) = widen b h (comp q p) := by
  unfold comp
  conv => lhs; arg 2; unfold widen
  conv => rhs; unfold widen
  rw [List.map_append, List.map_append]
  have e1 : (rngI b).map (fun x => (widen b h q).getD x.toNat 0) = rngI b := by
    conv => rhs; rw [← List.map_id (rngI b)]
    refine List.map_congr_left fun x hx => ?_
    obtain ⟨h0, h1⟩ := rngI_mem.mp hx
    show (widen b h q).getD x.toNat 0 = x
    rw [getD_of (widen_lo (by omega))]
    omega
  have e2 : (p.map (· + (b : Int))).map (fun x => (widen b h q).getD x.toNat 0) = (p.map fun x => q.getD x.toNat 0).map (· + (b : Int)) := by
    rw [List.map_map, List.map_map]
    refine List.map_congr_left fun x hx => ?_
    obtain ⟨h0, h1⟩ := rg x hx
    show (widen b h q).getD (x + (b : Int)).toNat 0 = q.getD x.toNat 0 + (b : Int)
    have hq : q[x.toNat]? = some q[x.toNat] := List.getElem?_eq_getElem (by omega)
    rw [show (x + (b : Int)).toNat = b + x.toNat by omega, getD_of (widen_mid hq), getD_of hq]
  have e3 : ((rngI h).map (· + ((b + p.length : Nat) : Int))).map (fun x => (widen b h q).getD x.toNat 0) = (rngI h).map (· + ((b + (p.map fun x => q.getD x.toNat 0).length : Nat) : Int)) := by
    rw [List.map_map, List.length_map]
    refine List.map_congr_left fun x hx => ?_
    obtain ⟨h0, h1⟩ := rngI_mem.mp hx
    show (widen b h q).getD (x + ((b + p.length : Nat) : Int)).toNat 0 = x + ((b + p.length : Nat) : Int)
    rw [show (x + ((b + p.length : Nat) : Int)).toNat = b + q.length + x.toNat by omega, getD_of (widen_hi (by omega))]
    omega
  rw [e1, e2, e3]
theorem widen_rng (b n h : Nat) : widen b h (rngI n) = rngI (b + n + h) := by
  unfold widen
  rw [rngI_add (b + n) h, rngI_add b n, rngI_len]
theorem widen_perm {b h : Nat} {r : List Int} {n : Nat} (p : r.Perm (rngI n)) : (widen b h r).Perm (rngI (b + n + h)) := by
  have l := p.length_eq
  rw [rngI_len] at l
  rw [← widen_rng]
  unfold widen
  rw [rngI_len, l]
  exact ((List.Perm.refl _).append (p.map _)).append (List.Perm.refl _)
theorem ltL_pre (a : List Int) (x y : List Int) : Rs.ltL (a ++ x) (a ++ y) = Rs.ltL x y := by
  induction a with
  | nil => rfl
  | cons c a ih =>
    show (if c = c then Rs.ltL (a ++ x) (a ++ y) else _) = _
    rw [if_pos rfl]; exact ih
theorem ltL_widen {b h : Nat} {x y : Int} {r s : List Int} (lt : x < y) : Rs.ltL (widen b h (x :: r)) (widen b h (y :: s)) = true := by
  unfold widen
  rw [List.append_assoc, List.append_assoc, ltL_pre]
  show (if x + (b : Int) = y + (b : Int) then _ else decide (x + (b : Int) < y + (b : Int))) = true
  rw [if_neg (by omega), decide_eq_true (by omega)]
theorem widen_inj {b h : Nat} {x y : Int} {r s : List Int} (e : widen b h (x :: r) = widen b h (y :: s)) : x = y := by
  have h1 : (widen b h (x :: r))[b + 0]? = some (x + (b : Int)) := widen_mid (by rfl)
  have h2 : (widen b h (y :: s))[b + 0]? = some (y + (b : Int)) := widen_mid (by rfl)
  rw [e, h2] at h1
  have := Option.some.inj h1
  omega
theorem perm_rng {l : List Int} {n : Nat} (nd : l.Nodup) (len : l.length = n) (rg : ∀ x ∈ l, 0 ≤ x ∧ x < (n : Int)) : l.Perm (rngI n) := by
  have nr : (rngI n).Nodup := by
    unfold rngI
    rw [List.Nodup, List.pairwise_map]
    exact List.nodup_range.imp fun {a b} h e => h (by omega)
  refine (List.perm_ext_iff_of_nodup nd nr).mpr fun z => ⟨fun h => rngI_mem.mpr (rg z h), fun h => ?_⟩
  apply Classical.byContradiction
  intro no
  have := (List.nodup_cons.mpr ⟨no, nd⟩).length_le_of_subset (l₂ := rngI n) (fun w hw => by
    rcases List.mem_cons.mp hw with e | e
    · rw [e]; exact h
    · exact rngI_mem.mpr (rg w e))
  rw [List.length_cons, rngI_len, len] at this
  omega
/-! ### columns and rows -/
def colOf (t : List (List Int)) (y : Int) : List Int := (rngI t.length).map fun x => mi t x y
def rowOf (t : List (List Int)) (x : Int) : List Int := (rngI t.length).map fun y => mi t x y
section
variable {t : List (List Int)} (G : Grp t) {ns ms : List Int}
include G
theorem Grp.rngT {x : Int} (h : x ∈ rngI t.length) : InT t x := rngI_mem.mp h
theorem Grp.col_perm {y : Int} (hy : InT t y) : (colOf t y).Perm (rngI t.length) := by
  unfold colOf
  refine perm_rng ?_ (by rw [List.length_map, rngI_len]) fun z hz => ?_
  · rw [List.Nodup, List.pairwise_map]
    have nr : (rngI t.length).Nodup := by
      unfold rngI
      rw [List.Nodup, List.pairwise_map]
      exact List.nodup_range.imp fun {a b} h e => h (by omega)
    exact nr.imp_of_mem fun {a b} ha hb n e => n (G.mi_rc hy (rngI_mem.mp ha) (rngI_mem.mp hb) e)
  · obtain ⟨x, hx, rfl⟩ := List.mem_map.mp hz
    exact G.mi_in (rngI_mem.mp hx) hy
theorem Grp.row_perm {y : Int} (hy : InT t y) : (rowOf t y).Perm (rngI t.length) := by
  unfold rowOf
  refine perm_rng ?_ (by rw [List.length_map, rngI_len]) fun z hz => ?_
  · rw [List.Nodup, List.pairwise_map]
    have nr : (rngI t.length).Nodup := by
      unfold rngI
      rw [List.Nodup, List.pairwise_map]
      exact List.nodup_range.imp fun {a b} h e => h (by omega)
    exact nr.imp_of_mem fun {a b} ha hb n e => n (G.mi_lc hy (rngI_mem.mp ha) (rngI_mem.mp hb) e)
  · obtain ⟨x, hx, rfl⟩ := List.mem_map.mp hz
    exact G.mi_in hy (rngI_mem.mp hx)
theorem Grp.comp_col {x y : Int} (hx : InT t x) (hy : InT t y) : comp (colOf t y) (colOf t x) = colOf t (mi t x y) := by
  unfold comp
  conv => lhs; arg 2; unfold colOf
  conv => rhs; unfold colOf
  rw [List.map_map]
  refine List.map_congr_left fun z hz => ?_
  have hz := rngI_mem.mp hz
  have h := G.mi_in hz hx
  show (colOf t y).getD (mi t z x).toNat 0 = mi t z (mi t x y)
  rw [← G.mi_assoc hz hx hy]
  refine getD_of ?_
  unfold colOf
  rw [List.getElem?_map, rngI_get (by have := h.1; have := h.2; omega), Option.map_some, Int.toNat_of_nonneg h.1]
theorem Grp.comp_row {x y : Int} (hx : InT t x) (hy : InT t y) : comp (rowOf t y) (rowOf t x) = rowOf t (mi t y x) := by
  unfold comp
  conv => lhs; arg 2; unfold rowOf
  conv => rhs; unfold rowOf
  rw [List.map_map]
  refine List.map_congr_left fun z hz => ?_
  have hz := rngI_mem.mp hz
  have h := G.mi_in hx hz
  show (rowOf t y).getD (mi t x z).toNat 0 = mi t (mi t y x) z
  rw [G.mi_assoc hy hx hz]
  refine getD_of ?_
  unfold rowOf
  rw [List.getElem?_map, rngI_get (by have := h.1; have := h.2; omega), Option.map_some, Int.toNat_of_nonneg h.1]
theorem Grp.col_cons {y : Int} (hy : InT t y) : ∃ r, colOf t y = y :: r := by
  unfold colOf rngI
  obtain ⟨n, hn⟩ : ∃ n, t.length = n + 1 := ⟨t.length - 1, by have := G.sq.pos; omega⟩
  rw [hn, List.range_succ_eq_map, List.map_cons, List.map_cons]
  have : mi t ((0 : Nat) : Int) y = y := (G.mi_one hy).1
  rw [this]
  exact ⟨_, rfl⟩
theorem Grp.row_cons {y : Int} (hy : InT t y) : ∃ r, rowOf t y = y :: r := by
  unfold rowOf rngI
  obtain ⟨n, hn⟩ : ∃ n, t.length = n + 1 := ⟨t.length - 1, by have := G.sq.pos; omega⟩
  rw [hn, List.range_succ_eq_map, List.map_cons, List.map_cons]
  have : mi t y ((0 : Nat) : Int) = y := (G.mi_one hy).2
  rw [this]
  exact ⟨_, rfl⟩
theorem Grp.col_zero : colOf t 0 = rngI t.length := by
  unfold colOf
  conv => rhs; rw [← List.map_id (rngI t.length)]
  exact List.map_congr_left fun x hx => (G.mi_one (rngI_mem.mp hx)).2
theorem Grp.row_zero : rowOf t 0 = rngI t.length := by
  unfold rowOf
  conv => rhs; rw [← List.map_id (rngI t.length)]
  exact List.map_congr_left fun x hx => (G.mi_one (rngI_mem.mp hx)).1
omit G in
theorem col_len (y : Int) : (colOf t y).length = t.length := by unfold colOf; rw [List.length_map, rngI_len]
omit G in
theorem row_len (y : Int) : (rowOf t y).length = t.length := by unfold rowOf; rw [List.length_map, rngI_len]
theorem Grp.col_rg {y : Int} (hy : InT t y) (z : Int) : ∀ x ∈ colOf t y, 0 ≤ x ∧ x < ((colOf t z).length : Int) := fun x hx => by
  rw [col_len]; exact rngI_mem.mp ((G.col_perm hy).mem_iff.mp hx)
theorem Grp.row_rg {y : Int} (hy : InT t y) (z : Int) : ∀ x ∈ rowOf t y, 0 ≤ x ∧ x < ((rowOf t z).length : Int) := fun x hx => by
  rw [row_len]; exact rngI_mem.mp ((G.row_perm hy).mem_iff.mp hx)
theorem Grp.comp_wcol {b h : Nat} {x y : Int} (hx : InT t x) (hy : InT t y) : comp (widen b h (colOf t y)) (widen b h (colOf t x)) = widen b h (colOf t (mi t x y)) := by
  rw [comp_widen (by rw [col_len, col_len]) (G.col_rg hx y), G.comp_col hx hy]
theorem Grp.comp_wrow {b h : Nat} {x y : Int} (hx : InT t x) (hy : InT t y) : comp (widen b h (rowOf t y)) (widen b h (rowOf t x)) = widen b h (rowOf t (mi t y x)) := by
  rw [comp_widen (by rw [row_len, row_len]) (G.row_rg hx y), G.comp_row hx hy]
theorem SubG.cols (S : SubG t ns ms) (b h : Nat) : PClosed (ns.map fun y => widen b h (colOf t y)) (rngI (b + t.length + h)) (ms.map fun y => widen b h (colOf t y)) := by
  constructor
  · rw [List.pairwise_map]
    refine S.cl.asc.imp_of_mem fun {x y} hx hy lt => ?_
    obtain ⟨r, e1⟩ := G.col_cons (S.in_ G x hx)
    obtain ⟨s, e2⟩ := G.col_cons (S.in_ G y hy)
    rw [e1, e2]
    exact ltL_widen lt
  · intro z
    have fwd : ∀ x, Reach t ns x → PReach (ns.map fun y => widen b h (colOf t y)) (rngI (b + t.length + h)) (widen b h (colOf t x)) := by
      intro x hx
      induction hx with
      | zero => rw [G.col_zero, widen_rng]; exact .one
      | @step x m r hm ih =>
        rw [show at2 t x.toNat m.toNat = mi t x m from rfl, ← G.comp_wcol (G.reach_in S.gen r) (S.gen m hm)]
        exact .step ih (List.mem_map.mpr ⟨m, hm, rfl⟩)
    constructor
    · intro hz
      obtain ⟨x, hx, rfl⟩ := List.mem_map.mp hz
      exact fwd x ((S.cl.mem x).mp hx)
    · intro hz
      have : ∃ x, Reach t ns x ∧ z = widen b h (colOf t x) := by
        induction hz with
        | one => exact ⟨0, .zero, by rw [G.col_zero, widen_rng]⟩
        | @step z p _ hp ih =>
          obtain ⟨x, hx, rfl⟩ := ih
          obtain ⟨m, hm, rfl⟩ := List.mem_map.mp hp
          exact ⟨mi t x m, .step hx hm, G.comp_wcol (G.reach_in S.gen hx) (S.gen m hm)⟩
      obtain ⟨x, hx, rfl⟩ := this
      exact List.mem_map.mpr ⟨x, (S.cl.mem x).mpr hx, rfl⟩
theorem SubG.rows (S : SubG t ns ms) (b h : Nat) : PClosed (ns.map fun y => widen b h (rowOf t y)) (rngI (b + t.length + h)) (ms.map fun y => widen b h (rowOf t y)) := by
  constructor
  · rw [List.pairwise_map]
    refine S.cl.asc.imp_of_mem fun {x y} hx hy lt => ?_
    obtain ⟨r, e1⟩ := G.row_cons (S.in_ G x hx)
    obtain ⟨s, e2⟩ := G.row_cons (S.in_ G y hy)
    rw [e1, e2]
    exact ltL_widen lt
  · intro z
    have one : ∀ m ∈ ns, Reach t ns m := fun m hm => by
      have := Reach.step (t := t) Reach.zero hm
      rw [show at2 t (0 : Int).toNat m.toNat = mi t 0 m from rfl, (G.mi_one (S.gen m hm)).1] at this
      exact this
    constructor
    · intro hz
      obtain ⟨x, hx, rfl⟩ := List.mem_map.mp hz
      have hx := (S.cl.mem x).mp hx
      -- words may be prolonged at the other end
      have key : ∀ x, Reach t ns x → ∀ y, InT t y → PReach (ns.map fun y => widen b h (rowOf t y)) (rngI (b + t.length + h)) (widen b h (rowOf t y)) → PReach (ns.map fun y => widen b h (rowOf t y)) (rngI (b + t.length + h)) (widen b h (rowOf t (mi t x y))) := by
        intro x hx
        induction hx with
        | zero => intro y hy h2; rw [(G.mi_one hy).1]; exact h2
        | @step x m r hm ih =>
          intro y hy h2
          have hx := G.reach_in S.gen r
          have hm' := S.gen m hm
          show PReach _ _ (widen b h (rowOf t (mi t (mi t x m) y)))
          rw [G.mi_assoc hx hm' hy]
          refine ih _ (G.mi_in hm' hy) ?_
          rw [← G.comp_wrow hy hm']
          exact .step h2 (List.mem_map.mpr ⟨m, hm, rfl⟩)
      have := key x hx 0 G.mi_zero (by rw [G.row_zero, widen_rng]; exact .one)
      rw [(G.mi_one (G.reach_in S.gen hx)).2] at this
      exact this
    · intro hz
      have : ∃ x, Reach t ns x ∧ z = widen b h (rowOf t x) := by
        induction hz with
        | one => exact ⟨0, .zero, by rw [G.row_zero, widen_rng]⟩
        | @step z p _ hp ih =>
          obtain ⟨x, hx, rfl⟩ := ih
          obtain ⟨m, hm, rfl⟩ := List.mem_map.mp hp
          exact ⟨mi t m x, G.reach_mul S.gen (one m hm) hx, G.comp_wrow (G.reach_in S.gen hx) (S.gen m hm)⟩
      obtain ⟨x, hx, rfl⟩ := this
      exact List.mem_map.mpr ⟨x, (S.cl.mem x).mpr hx, rfl⟩
theorem SubG.tabCols (S : SubG t ns ms) (b h : Nat) : tabOf (fun p q => comp q p) (ms.map fun y => widen b h (colOf t y)) = tabOf (mi t) ms := by
  refine tabOf_map (fun x hx y hy e => ?_) (fun x hx y hy => (G.comp_wcol (S.in_ G x hx) (S.in_ G y hy)).symm) (S.mul G)
  obtain ⟨r, e1⟩ := G.col_cons (S.in_ G x hx)
  obtain ⟨s, e2⟩ := G.col_cons (S.in_ G y hy)
  rw [e1, e2] at e
  exact widen_inj e
theorem SubG.tabRows (S : SubG t ns ms) (b h : Nat) : tabOf (fun p q => comp q p) (ms.map fun y => widen b h (rowOf t y)) = tabOf (fun x y => mi t y x) ms := by
  refine tabOf_map (f := fun x y => mi t y x) (fun x hx y hy e => ?_) (fun x hx y hy => (G.comp_wrow (S.in_ G x hx) (S.in_ G y hy)).symm) (fun x hx y hy => S.mul G y hy x hx)
  obtain ⟨r, e1⟩ := G.row_cons (S.in_ G x hx)
  obtain ⟨s, e2⟩ := G.row_cons (S.in_ G y hy)
  rw [e1, e2] at e
  exact widen_inj e
end
theorem widen0 (r : List Int) : widen 0 0 r = r := by
  unfold widen rngI
  simp
end GT

set_option Elab.async false
set_option linter.all false
set_option maxRecDepth 100000
set_option maxHeartbeats 2000000
/-! calls with keywords; values that are alike -/
namespace Rd
open PySem PySem.Spec PyProof.Rows L2
/-- a def with keyword-only parameters (without defaults), called by keywords -/
structure DOkN (P : Program) (w : World) (K : PySem.W.Frag) (mg : Str → Option Value) (base : Heap) (CX : CXT) (x : Str) (k : Nat) (ps : List Str) (n : Nat) (ks : List Str) (sp : Sp) : Prop where
  ok : ∃ f fd, FnOk P w K mg base CX k f fd ps sp ∧ mg x = some (.ref f) ∧ PySem.W.keepIn K (.ref f) = true ∧ KBn K fd ps n ks (fun us ws => us ++ ws) (fun vs zs => vs ++ zs)
section
variable {X : Cx} {x : Str} {p pos : Pos} {e : Expr} {es : List Expr} {kws : List Keyword} {ts tk : TA} {k n : Nat} {ps ks : List Str} {sp : Sp} {CX : CXT} {E : XK}
theorem callXN (D : DOkN X.prog X.w X.K X.mg X.base CX x k ps n ks sp) (hr : Room k X.A) (hx : Passes CX X E) (ha : PA X (e :: es) ts) (hkw : PK X kws tk) (hg : Gl X x := by rfl)
    (hall : (backToKw pos (keywordEach kws X.env)).all (·.1.isSome) = true := by rfl) (hks : (backToKw pos (keywordEach kws X.env)).filterMap (·.1) = ks := by rfl)
    (hdb : (x == ("__debug__" : Str)) = false := by decide) (he : starEach (e :: es) X.env = (false, eval e X.env) :: starEach es X.env := by rfl)
    (hpl : ((backTo pos (starEach (e :: es) X.env)).any (·.1) || (backToKw pos (keywordEach kws X.env)).any (·.1.isNone)) = false := by rfl) :
    PE X (.Call (.Name x p) (e :: es) kws pos) (tCallN n ks.length sp (fun vs zs => vs ++ zs) E ts tk) := by
  obtain ⟨f, fd, F, hm, hk, hb⟩ := D.ok
  exact pe_callN F hr hg hm hk hb hx ha hkw hall hks hdb he hpl
theorem callN {m : Nat} {gV : List V → List V → List V} {σ : L2.St} {H : Hp} {Q : VK} (h : ts σ H fun vs H1 => tk σ H1 fun zs H2 => vs.length = n ∧ zs.length = m ∧ sp (gV vs zs) H2 Q E) : tCallN n m sp gV E ts tk σ H Q := h
end
theorem _root_.L2.FunD.kbn {K : PySem.W.Frag} {x qual : Str} {params : Arguments} {body : List Stmt} {scope : Scope} {f : Addr} {fd : FuncData} {ps ks : List Str} {n : Nat} (F : FunD K x qual params body scope [] [] f fd)
    (h : ∀ (kV doc pm : Value) (an : Option Addr) (cdv ct : Value) (us ws : List Value), us.length = n → ws.length = ks.length → bindArgs (PySem.W.fnOf x qual params body scope .none kV doc pm an cdv ct) ⟨us, ks.zip ws⟩ = pure (ps.zip (us ++ ws))) :
    KBn K fd ps n ks (fun us ws => us ++ ws) (fun vs zs => vs ++ zs) := by
  obtain ⟨oc, od, dV, kV, doc, pm, an, cdv, ct, osl, rfl, lk, hcd, hD, hK⟩ := F.ex
  refine ⟨fun s us ws _ h1 h2 => ?_, fun r1 r2 => r1.append r2⟩
  rcases hD with ⟨_, rfl⟩ | ⟨e, _⟩
  · exact BindsTo.of_eq (h kV doc pm an cdv ct us ws h1 h2)
  · exact absurd rfl e
/-- a promise of nothing -/
theorem fnFalse {P : Program} {w : World} {K : PySem.W.Frag} {mg : Str → Option Value} {base : Heap} {CX : CXT} {k : Nat} {f : Addr} {fd : FuncData} {ps : List Str} : FnOk P w K mg base CX k f fd ps (fun _ _ _ _ => False) :=
  ⟨fun _ _ _ _ h => h.elim, fun _ _ _ _ _ _ _ _ _ _ _ _ _ h => h.elim⟩
/-- x[i] of a list or a tuple -/
def rIxA (K : PySem.W.Frag) : R2 := fun x y H Q => rIxL K x y H Q ∨ rIxT K x y H Q
/-! ### alike values -/
def TupX (H : Hp) (a : Addr) (xs : List V) : Prop := H a = some (.tup xs) ∨ ∃ ob : Obj, H a = some (.frz ob (.tup xs))
theorem TupX.same {H H' : Hp} {a : Addr} {xs : List V} (h : TupX H a xs) (e : Same H H') : TupX H' a xs := by
  rcases h with h | ⟨o, h⟩
  · exact .inl (e _ _ h)
  · exact .inr ⟨o, e _ _ h⟩
theorem TupX.sq {K : PySem.W.Frag} {H : Hp} {a : Addr} {xs : List V} (h : TupX H a xs) : SqT K H a xs := by
  rcases h with h | ⟨o, h⟩
  · exact .inl (.inl h)
  · exact .inl (.inr ⟨o, h⟩)
theorem TupN.x {H : Hp} {a : Addr} {xs : List V} (h : TupN H a xs) : TupX H a xs := by
  obtain ⟨ob, _, q⟩ := h
  exact .inr ⟨ob, q⟩
inductive DD (H : Hp) : Nat → V → V → Prop
  | bl (n : Nat) (b : Bool) : DD H n (.bl b) (.bl b)
  | int (n : Nat) (i : Int) : DD H n (.int i) (.int i)
  | lst {n : Nat} {a b : Addr} {xs ys : List V} : H a = some (.lst xs) → H b = some (.lst ys) → xs.length = ys.length → ys.length ≤ 1000 → (∀ (i : Nat) (x y : V), xs[i]? = some x → ys[i]? = some y → DD H n x y) → DD H (n + 1) (.ref a) (.ref b)
  | tup {n : Nat} {a b : Addr} {xs ys : List V} : TupX H a xs → TupX H b ys → xs.length = ys.length → ys.length ≤ 1000 → (∀ (i : Nat) (x y : V), xs[i]? = some x → ys[i]? = some y → DD H n x y) → DD H (n + 1) (.ref a) (.ref b)
theorem DD.same {H H' : Hp} {n : Nat} {x y : V} (h : DD H n x y) (e : Same H H') : DD H' n x y := by
  induction h with
  | bl n b => exact .bl n b
  | int n i => exact .int n i
  | lst h1 h2 h3 h4 _ ih => exact .lst (e _ _ h1) (e _ _ h2) h3 h4 ih
  | tup h1 h2 h3 h4 _ ih => exact .tup (h1.same e) (h2.same e) h3 h4 ih
theorem DD.up {H : Hp} {n : Nat} {x y : V} (h : DD H n x y) : DD H (n + 1) x y := by
  induction h with
  | bl n b => exact .bl _ b
  | int n i => exact .int _ i
  | lst h1 h2 h3 h4 _ ih => exact .lst h1 h2 h3 h4 ih
  | tup h1 h2 h3 h4 _ ih => exact .tup h1 h2 h3 h4 ih
theorem DD.ints {H : Hp} {a b : Addr} {ns : List Int} (h1 : H a = some (.lst (ns.map V.int))) (h2 : H b = some (.lst (ns.map V.int))) (z : ns.length ≤ 1000) : DD H 1 (.ref a) (.ref b) := by
  refine .lst h1 h2 rfl (by rw [List.length_map]; exact z) fun i x y hx hy => ?_
  rw [hx] at hy
  cases hy
  obtain ⟨n, _, rfl⟩ := GT.intAt hx
  exact .int 0 n
theorem DD.tints {H : Hp} {a b : Addr} {ns : List Int} (h1 : TupX H a (ns.map V.int)) (h2 : TupX H b (ns.map V.int)) (z : ns.length ≤ 1000) : DD H 1 (.ref a) (.ref b) := by
  refine .tup h1 h2 rfl (by rw [List.length_map]; exact z) fun i x y hx hy => ?_
  rw [hx] at hy
  cases hy
  obtain ⟨n, _, rfl⟩ := GT.intAt hx
  exact .int 0 n
open GT in
theorem DD.tab {H : Hp} {a b : Addr} {as bs : List Addr} {t : List (List Int)} (h1 : H a = some (.lst (as.map V.ref))) (h2 : H b = some (.lst (bs.map V.ref))) (r1 : Rows LstN H as t) (r2 : Rows LstN H bs t) (z : t.length ≤ 1000) (z2 : ∀ r ∈ t, r.length ≤ 1000) : DD H 2 (.ref a) (.ref b) := by
  refine .lst h1 h2 (by rw [List.length_map, List.length_map, r1.len, r2.len]) (by rw [List.length_map, r2.len]; exact z) fun i x y hx hy => ?_
  obtain ⟨a, r, rfl, _, q1, g1⟩ := r1.at hx
  obtain ⟨b, r', rfl, _, q2, g2⟩ := r2.at hy
  rw [q1] at q2
  cases q2
  exact .ints g1 g2 (z2 r (List.mem_of_getElem? q1))
open GT in
theorem DD.ttab {H : Hp} {a b : Addr} {as bs : List Addr} {t : List (List Int)} (h1 : TupX H a (as.map V.ref)) (h2 : TupX H b (bs.map V.ref)) (r1 : Rows TupN H as t) (r2 : Rows TupN H bs t) (z : t.length ≤ 1000) (z2 : ∀ r ∈ t, r.length ≤ 1000) : DD H 2 (.ref a) (.ref b) := by
  refine .tup h1 h2 (by rw [List.length_map, List.length_map, r1.len, r2.len]) (by rw [List.length_map, r2.len]; exact z) fun i x y hx hy => ?_
  obtain ⟨a, r, rfl, _, q1, g1⟩ := r1.at hx
  obtain ⟨b, r', rfl, _, q2, g2⟩ := r2.at hy
  rw [q1] at q2
  cases q2
  exact .tints g1.x g2.x (z2 r (List.mem_of_getElem? q1))
end Rd
namespace Rk
open PySem PySem.Spec PyProof.Rows L2 Rd
theorem ixA {X : Cx} (K : PySem.W.Frag) (h : X.K = K := by rfl) : IxR X (rIxA K) := by
  intro value slice pins s σ H x y v u Q I rx ry q hs
  rcases q with q | q
  · exact ixL K h value slice pins s σ H x y v u Q I rx ry q hs
  · exact ixT K h value slice pins s σ H x y v u Q I rx ry q hs
end Rk

set_option Elab.async false
set_option linter.all false
set_option maxRecDepth 100000
set_option maxHeartbeats 4000000
/-! zips of lists and tuples in any mix -/
namespace Rz
open PySem PySem.Spec PyProof.Rows L2 RZ
inductive SK | L | T
def SqK (k : SK) (K : PySem.W.Frag) (H : Hp) (a : Addr) (xs : List V) : Prop := match k with | .L => SqL K H a xs | .T => SqT K H a xs
def HasK (k : SK) (h : Heap) (a : Addr) (its : Array Value) : Prop := match k with | .L => h.IsList a its | .T => h.IsTuple a its
def IterK (k : SK) (h : Heap) (it a : Addr) (i : Nat) : Prop := match k with | .L => h.IsListIter it a i | .T => h.IsTupleIter it a i
def begO (k : SK) (a : Addr) : Obj := match k with | .L => { cls := .type "list_iterator", data := .fields #[.ref a, .int 0 0] } | .T => { cls := .type "tuple_iterator", data := .fields #[.ref a, .int 0 0] }
theorem begins_ (k : SK) (a : Addr) (its : Array Value) : Begins (.ref a) (begO k a) fun h => HasK k h a its := by
  cases k
  · exact begins_list a its
  · exact begins_tuple a its
theorem draws_ {prog : Program} {w : World} {A : Around} (k : SK) (hh : A.handled = none) (it a : Addr) (hne : a ≠ it) (its : Array Value) : Draws prog w A it [it, a] its.size (fun i v => its[i]? = some v) (fun i h => IterK k h it a i ∧ HasK k h a its) := by
  cases k
  · exact Draws.list hh it a hne its
  · exact Draws.tuple hh it a hne its
theorem iter0 {k : SK} {h : Heap} {it a : Addr} (e : h.get? it = some (begO k a)) : IterK k h it a 0 := by
  cases k
  · exact ⟨_, e, rfl, rfl⟩
  · exact ⟨_, e, rfl, rfl⟩
theorem IterK.at_ {k : SK} {h h' : Heap} {it a : Addr} {i : Nat} (st : IterK k h it a i) (e : ∀ o, h.get? it = some o → h'.get? it = some o) : IterK k h' it a i := by
  cases k
  · exact Heap.IsListIter.at st e
  · exact Heap.IsTupleIter.at st e
theorem IterK.ob {k : SK} {h : Heap} {it a : Addr} {i : Nat} (st : IterK k h it a i) : ∃ o, h.get? it = some o ∧ ∀ v, o.data ≠ .cell v := by
  cases k
  · obtain ⟨o, e, _, d⟩ := st
    exact ⟨o, e, fun v q => by rw [d] at q; cases q⟩
  · obtain ⟨o, e, _, d⟩ := st
    exact ⟨o, e, fun v q => by rw [d] at q; cases q⟩
section
variable {X : Cx} {pins : List (Addr × Obj)} {σ : L2.St} {H : Hp} {s : Shared} {a : Addr} {xs ys : List V}
theorem seqOf {k : SK} (I : L2.Inv X pins σ H s) (h : SqK k X.K H a xs) : ∃ its : List Value, Vals xs its ∧ HasK k s.heap a its.toArray ∧ a < s.heap.objs.size := by
  cases k
  · obtain ⟨its, r, p, _⟩ := I.list h
    exact ⟨its, r, p.isList, p.lt⟩
  · obtain ⟨its, r, p, _⟩ := I.tuple h
    obtain ⟨o, e, _⟩ := id p
    exact ⟨its, r, p, Heap.lt_size e⟩
theorem seq_inj {k : SK} (I : L2.Inv X pins σ H s) (h : SqK k X.K H a xs) (h' : SqK k X.K H a ys) : xs = ys := by
  cases k
  · exact I.list_inj h h'
  · exact I.tuple_inj h h'
end
theorem SqK.same {k : SK} {K : PySem.W.Frag} {H H' : Hp} {a : Addr} {xs : List V} (h : SqK k K H a xs) (e : Same H H') : SqK k K H' a xs := by
  cases k
  · exact Same.seq e h
  · exact Rd.same_t e h
/-- two of them as they stand, the items in new pairs -/
def It2 (K : PySem.W.Frag) (k1 k2 : SK) (a b : Addr) : It :=
  ⟨fun i H => ∃ (xs ys : List V) (x y : V), SqK k1 K H a xs ∧ SqK k2 K H b ys ∧ xs[i]? = some x ∧ ys[i]? = some y,
    fun i H v H' => ∃ T x y, v = .ref T ∧ H T = none ∧ H' = upd H T (.tup [x, y]) ∧ (∀ xs, SqK k1 K H a xs → xs[i]? = some x) ∧ ∀ ys, SqK k2 K H b ys → ys[i]? = some y,
    fun i H => ∃ xs ys : List V, SqK k1 K H a xs ∧ SqK k2 K H b ys ∧ i ≤ xs.length ∧ i ≤ ys.length ∧ (i = xs.length ∨ i = ys.length)⟩
theorem turn2 {P : Program} {w : World} {K : PySem.W.Frag} {elts : List Expr} {kk : Nat} {tpos : Pos} {k1 k2 : SK} {a b z TI TO i1 i2 : Addr} (S : ZipSep2 z TI TO i1 i2 [i1, a] [i2, b]) (ne : z ≠ i1 ∧ z ≠ i2) (na : a ≠ i1) (nb : b ≠ i2) :
    Turn P w K (.Tuple elts kk tpos) (It2 K k1 k2 a b) [z, TI, TO, i1, i2] z (fun i h => IsZip h z TI TO .none ∧ IsTupOf2 h TI (.ref i1) (.ref i2) ∧ (∃ x y, IsTupOf2 h TO x y) ∧ IterK k1 h i1 a i ∧ IterK k2 h i2 b i) where
  mem := by simp
  obj := fun i h st d hd => by
    obtain ⟨hz, hTI, ⟨x, y, hTO⟩, h1, h2⟩ := st
    have e' : d = z ∨ d = TI ∨ d = TO ∨ d = i1 ∨ d = i2 := by simpa using hd
    rcases e' with q | q | q | q | q
    · rw [q]; exact ⟨_, hz, fun v q => nomatch q⟩
    · rw [q]; exact ⟨_, hTI, fun v q => nomatch q⟩
    · rw [q]; exact ⟨_, hTO, fun v q => nomatch q⟩
    · rw [q]; exact h1.ob
    · rw [q]; exact h2.ob
  keep := fun i h h' st k => by
    obtain ⟨hz, hTI, ⟨x, y, hTO⟩, h1, h2⟩ := st
    exact ⟨k z (by simp) _ hz, k TI (by simp) _ hTI, ⟨x, y, k TO (by simp) _ hTO⟩, h1.at_ fun o q => k i1 (by simp) o q, h2.at_ fun o q => k i2 (by simp) o q⟩
  item := by
    intro X hP hw hK hc i pins s σ H E I hf st hg
    subst hP hw hK
    obtain ⟨hz, hTI, ⟨x0, y0, hTO⟩, h1, h2⟩ := st
    obtain ⟨xs, ys, x, y, hqx, hqy, hx, hy⟩ := hg
    obtain ⟨its, rv, p1, la⟩ := seqOf I hqx
    obtain ⟨its2, rv2, p2, lb⟩ := seqOf I hqy
    obtain ⟨v1, hv1, ru1⟩ := rv.get hx
    obtain ⟨v2, hv2, ru2⟩ := rv2.get hy
    have hzl : z < s.heap.objs.size := Heap.lt_size hz
    have l1 : i < its.toArray.size := by have := (List.getElem?_eq_some_iff.mp hv1).1; simpa using this
    have l2 : i < its2.toArray.size := by have := (List.getElem?_eq_some_iff.mp hv2).1; simpa using this
    have D1 := draws_ (prog := X.prog) (w := X.w) (A := X.A.in1) k1 (I.ok.hd hc) i1 a na its.toArray
    have D2 := draws_ (prog := X.prog) (w := X.w) (A := X.A.in1) k2 (I.ok.hd hc) i2 b nb its2.toArray
    obtain ⟨n1, n2⟩ := ne
    refine wpAny_pyNext_zipD2_item S D1 D2 hz hTI hTO ⟨h1, p1⟩ ⟨h2, p2⟩ l1 l2 fun x1 x2 h' tk e1 e2 z' TO' st1 st2 hT hsz hk => ?_
    have ev1 : x1 = v1 := by
      have h1 : its.toArray[i]? = some v1 := by simpa using hv1
      rw [h1] at e1; exact (Option.some.inj e1).symm
    have ev2 : x2 = v2 := by
      have h1 : its2.toArray[i]? = some v2 := by simpa using hv2
      rw [h1] at e2; exact (Option.some.inj e2).symm
    subst ev1 ev2
    refine ⟨_, rfl, wpAny_letOwnedTupleGo_zip (s := { s with heap := h', toks := tk }) z' fun h'' z'' sb => ?_⟩
    have hT2 : h''.get? s.heap.objs.size = some { cls := .type "tuple", data := .seq #[x1, x2] } := (sb.2 _ (Nat.ne_of_gt hzl)).trans hT
    have new : ObjOk X.prog X.w (upd H s.heap.objs.size (.tup [x, y])) h'' s.heap.objs.size (.tup [x, y]) :=
      ⟨by show 2 ≤ sizeLine; decide, [x1, x2], .cons ru1 (.cons ru2 .nil), ⟨_, hT2, rfl, _, rfl⟩⟩
    have I1 : L2.Inv X pins σ (upd H s.heap.objs.size (.tup [x, y])) { s with heap := h'', toks := tk } :=
      I.turnedNew (t' := tk) (ch := [z, TI, TO, i1, i2]) (fun d o hb q => (sb.2 d (fun q' => hb (by simp [q']))).trans (hk d o (fun q' => hb (by simp [q'])) (fun q' => hb (by simp [q'])) (fun q' => hb (by simp [q'])) (fun q' => hb (by simp [q'])) q)) hf (Nat.le_refl _) new
    refine ⟨.ref s.heap.objs.size, _, I1, rfl, ⟨_, x, y, rfl, I.hok.fresh (Nat.le_refl _), rfl, fun l hl => by rw [seq_inj I hl hqx]; exact hx, fun l hl => by rw [seq_inj I hl hqy]; exact hy⟩, ⟨z'', ?_, ⟨x1, x2, ?_⟩, ?_, ?_⟩, fun d hdm => ?_⟩
    · exact (sb.2 _ S.TIz).trans (hk _ _ S.TIz S.TITO S.TIi1 S.TIi2 hTI)
    · exact (sb.2 _ S.TOz).trans TO'
    · exact st1.1.at_ fun o q => (sb.2 _ n1.symm).trans q
    · exact st2.1.at_ fun o q => (sb.2 _ n2.symm).trans q
    · have hlt : d < s.heap.objs.size := by
        have e' : d = z ∨ d = TI ∨ d = TO ∨ d = i1 ∨ d = i2 := by simpa using hdm
        rcases e' with q | q | q | q | q
        · rw [q]; exact hzl
        · rw [q]; exact Heap.lt_size hTI
        · rw [q]; exact Heap.lt_size hTO
        · rw [q]; obtain ⟨_, e1, _⟩ := h1.ob; exact Heap.lt_size e1
        · rw [q]; obtain ⟨_, e2, _⟩ := h2.ob; exact Heap.lt_size e2
      rw [upd_ne (Nat.ne_of_lt hlt)]
      exact (hf d hdm).1
  done := by
    intro X hP hw hK hc i pins s σ H E I hf st hg
    subst hP hw hK
    obtain ⟨hz, hTI, ⟨x0, y0, hTO⟩, h1, h2⟩ := st
    obtain ⟨xs, ys, hqx, hqy, q1, q2, hend⟩ := hg
    obtain ⟨its, rv, p1, la⟩ := seqOf I hqx
    obtain ⟨its2, rv2, p2, lb⟩ := seqOf I hqy
    have l1 := rv.length
    have l2 := rv2.length
    have D1 := draws_ (prog := X.prog) (w := X.w) (A := X.A.in1) k1 (I.ok.hd hc) i1 a na its.toArray
    have D2 := draws_ (prog := X.prog) (w := X.w) (A := X.A.in1) k2 (I.ok.hd hc) i2 b nb its2.toArray
    refine wpAny_pyNext_zipD2_end S D1 D2 hz hTI hTO ⟨h1, p1⟩ ⟨h2, p2⟩ (by simp; omega) (by simp; omega) (by simp; omega) fun h' tk hk => ⟨rfl, I.turnedL (t' := tk) (ch := [z, TI, TO, i1, i2]) (fun d o hb q =>
      hk d o (fun q' => hb (by simp [q'])) (fun q' => hb (by simp [q'])) (fun q' => hb (by simp [q'])) (fun q' => hb (by simp [q'])) q) hf⟩
  self := fun A i s Q E st h => wpAny_pyIter_zip st.1 h
def iZip2 (K : PySem.W.Frag) (ta : TA) : TI := fun σ H R => ta σ H fun vs H1 => ∃ a b k1 k2 xs ys, vs = [.ref a, .ref b] ∧ SqK k1 K H1 a xs ∧ SqK k2 K H1 b ys ∧ R (It2 K k1 k2 a b) H1
theorem pi_zip2 {X : Cx} {e e2 : Expr} {ta : TA} {p pos tpos : Pos} {elts : List Expr} {kk : Nat} (hg : Gl X "zip") (hm : X.mg "zip" = none) (ha : PA X [e, e2] ta)
    (hs : starEach [e, e2] X.env = (false, eval e X.env) :: starEach [e2] X.env := by rfl) (hpl : (backTo pos (starEach [e2] X.env)).any (·.1) = false := by rfl) :
    PI X (.Tuple elts kk tpos) (.Call (.Name "zip" p) [e, e2] [] pos) (iZip2 X.K ta) := by
  refine ⟨fun pins s σ H R I h => ?_⟩
  refine Call_ (ld_blt I hg hm PyProof.Rows.boot_zip (PyProof.Rows.callWith_type1 (thn (ha.run pos pins s σ H _ I h) fun us s1 ⟨vs, H1, I1, r1, q1⟩ => ?_) hs hpl))
  obtain ⟨a, b, k1, k2, xs, ys, ex, hqx, hqy, q⟩ := q1
  subst ex
  cases r1 with
  | cons r rr =>
    cases rr with
    | cons r' rr =>
      cases rr
      cases r
      cases r'
      obtain ⟨its, rv, p1, la⟩ := seqOf I1 hqx
      obtain ⟨its2, rv2, p2, lb⟩ := seqOf I1 hqy
      refine zip_begins2 (begins_ k1 a its.toArray) (begins_ k2 b its2.toArray) p1 p2 fun h' hz hTI hTO h1 h2 hsz hk => wpAny_pyIter_zip hz ?_
      have I2 : L2.Inv X pins σ H1 { s1 with heap := h' } := I1.kept (t' := s1.toks) hk
      generalize hN : s1.heap.objs.size = N at *
      refine ⟨(N + 4 : Nat), [(N + 4 : Nat), (N + 2 : Nat), (N + 3 : Nat), (N : Nat), (N + 1 : Nat)], _, _, H1, rfl, I2, turn2 (zip_sep2 (N := N) (fp1 := [a]) (fp2 := [b]) (fun d hd => by rw [List.mem_singleton.mp hd]; exact la) (fun d hd => by rw [List.mem_singleton.mp hd]; exact lb))
        ⟨show (N + 4 : Nat) ≠ N by omega, show (N + 4 : Nat) ≠ N + 1 by omega⟩ (Nat.ne_of_lt la) (Nat.ne_of_lt (Nat.lt_succ_of_lt lb)), ⟨hz, hTI, ⟨_, _, hTO⟩, iter0 h1, iter0 h2⟩, fun d hd => ?_, q⟩
      have e' : d = N + 4 ∨ d = N + 2 ∨ d = N + 3 ∨ d = N ∨ d = N + 1 := by simpa using hd
      have hle : s1.heap.objs.size ≤ d := by
        rw [hN]
        rcases e' with z | z | z | z | z <;> rw [z]
        · exact Nat.le_add_right _ _
        · exact Nat.le_add_right _ _
        · exact Nat.le_add_right _ _
        · exact Nat.le_refl _
        · exact Nat.le_add_right _ _
      exact I1.fpOk hle (I1.hok.fresh hle)
/-- three of them as they stand, the items in new triples -/
def It3 (K : PySem.W.Frag) (k1 k2 k3 : SK) (a b c : Addr) : It :=
  ⟨fun i H => ∃ (xs ys zs : List V) (x y z : V), SqK k1 K H a xs ∧ SqK k2 K H b ys ∧ SqK k3 K H c zs ∧ xs[i]? = some x ∧ ys[i]? = some y ∧ zs[i]? = some z,
    fun i H v H' => ∃ T x y z, v = .ref T ∧ H T = none ∧ H' = upd H T (.tup [x, y, z]) ∧ (∀ xs, SqK k1 K H a xs → xs[i]? = some x) ∧ (∀ ys, SqK k2 K H b ys → ys[i]? = some y) ∧ ∀ zs, SqK k3 K H c zs → zs[i]? = some z,
    fun i H => ∃ xs ys zs : List V, SqK k1 K H a xs ∧ SqK k2 K H b ys ∧ SqK k3 K H c zs ∧ i ≤ xs.length ∧ i ≤ ys.length ∧ i ≤ zs.length ∧ (i = xs.length ∨ i = ys.length ∨ i = zs.length)⟩
theorem turn3 {P : Program} {w : World} {K : PySem.W.Frag} {elts : List Expr} {kk : Nat} {tpos : Pos} {k1 k2 k3 : SK} {a b c z TI TO i1 i2 i3 : Addr} (S : ZipSep3 z TI TO i1 i2 i3 [i1, a] [i2, b] [i3, c]) (ne : z ≠ i1 ∧ z ≠ i2 ∧ z ≠ i3) (na : a ≠ i1) (nb : b ≠ i2) (nc : c ≠ i3) :
    Turn P w K (.Tuple elts kk tpos) (It3 K k1 k2 k3 a b c) [z, TI, TO, i1, i2, i3] z (fun i h => IsZip h z TI TO .none ∧ IsTupOf3 h TI (.ref i1) (.ref i2) (.ref i3) ∧ (∃ x y u, IsTupOf3 h TO x y u) ∧ IterK k1 h i1 a i ∧ IterK k2 h i2 b i ∧ IterK k3 h i3 c i) where
  mem := by simp
  obj := fun i h st d hd => by
    obtain ⟨hz, hTI, ⟨x, y, u, hTO⟩, h1, h2, h3⟩ := st
    have e' : d = z ∨ d = TI ∨ d = TO ∨ d = i1 ∨ d = i2 ∨ d = i3 := by simpa using hd
    rcases e' with q | q | q | q | q | q
    · rw [q]; exact ⟨_, hz, fun v q => nomatch q⟩
    · rw [q]; exact ⟨_, hTI, fun v q => nomatch q⟩
    · rw [q]; exact ⟨_, hTO, fun v q => nomatch q⟩
    · rw [q]; exact h1.ob
    · rw [q]; exact h2.ob
    · rw [q]; exact h3.ob
  keep := fun i h h' st k => by
    obtain ⟨hz, hTI, ⟨x, y, u, hTO⟩, h1, h2, h3⟩ := st
    exact ⟨k z (by simp) _ hz, k TI (by simp) _ hTI, ⟨x, y, u, k TO (by simp) _ hTO⟩, h1.at_ fun o q => k i1 (by simp) o q, h2.at_ fun o q => k i2 (by simp) o q, h3.at_ fun o q => k i3 (by simp) o q⟩
  item := by
    intro X hP hw hK hc i pins s σ H E I hf st hg
    subst hP hw hK
    obtain ⟨hz, hTI, ⟨x0, y0, u0, hTO⟩, h1, h2, h3⟩ := st
    obtain ⟨xs, ys, zs, x, y, u, hqx, hqy, hqz, hx, hy, hu⟩ := hg
    obtain ⟨its, rv, p1, la⟩ := seqOf I hqx
    obtain ⟨its2, rv2, p2, lb⟩ := seqOf I hqy
    obtain ⟨its3, rv3, p3, lc⟩ := seqOf I hqz
    obtain ⟨v1, hv1, ru1⟩ := rv.get hx
    obtain ⟨v2, hv2, ru2⟩ := rv2.get hy
    obtain ⟨v3, hv3, ru3⟩ := rv3.get hu
    have hzl : z < s.heap.objs.size := Heap.lt_size hz
    have l1 : i < its.toArray.size := by have := (List.getElem?_eq_some_iff.mp hv1).1; simpa using this
    have l2 : i < its2.toArray.size := by have := (List.getElem?_eq_some_iff.mp hv2).1; simpa using this
    have l3 : i < its3.toArray.size := by have := (List.getElem?_eq_some_iff.mp hv3).1; simpa using this
    have D1 := draws_ (prog := X.prog) (w := X.w) (A := X.A.in1) k1 (I.ok.hd hc) i1 a na its.toArray
    have D2 := draws_ (prog := X.prog) (w := X.w) (A := X.A.in1) k2 (I.ok.hd hc) i2 b nb its2.toArray
    have D3 := draws_ (prog := X.prog) (w := X.w) (A := X.A.in1) k3 (I.ok.hd hc) i3 c nc its3.toArray
    obtain ⟨n1, n2, n3⟩ := ne
    refine wpAny_pyNext_zipD3_item S D1 D2 D3 hz hTI hTO ⟨h1, p1⟩ ⟨h2, p2⟩ ⟨h3, p3⟩ l1 l2 l3 fun x1 x2 x3 h' tk e1 e2 e3 z' TO' st1 st2 st3 hT hsz hk => ?_
    have ev1 : x1 = v1 := by
      have h1 : its.toArray[i]? = some v1 := by simpa using hv1
      rw [h1] at e1; exact (Option.some.inj e1).symm
    have ev2 : x2 = v2 := by
      have h1 : its2.toArray[i]? = some v2 := by simpa using hv2
      rw [h1] at e2; exact (Option.some.inj e2).symm
    have ev3 : x3 = v3 := by
      have h1 : its3.toArray[i]? = some v3 := by simpa using hv3
      rw [h1] at e3; exact (Option.some.inj e3).symm
    subst ev1 ev2 ev3
    refine ⟨_, rfl, wpAny_letOwnedTupleGo_zip (s := { s with heap := h', toks := tk }) z' fun h'' z'' sb => ?_⟩
    have hT2 : h''.get? s.heap.objs.size = some { cls := .type "tuple", data := .seq #[x1, x2, x3] } := (sb.2 _ (Nat.ne_of_gt hzl)).trans hT
    have new : ObjOk X.prog X.w (upd H s.heap.objs.size (.tup [x, y, u])) h'' s.heap.objs.size (.tup [x, y, u]) :=
      ⟨by show 3 ≤ sizeLine; decide, [x1, x2, x3], .cons ru1 (.cons ru2 (.cons ru3 .nil)), ⟨_, hT2, rfl, _, rfl⟩⟩
    have I1 : L2.Inv X pins σ (upd H s.heap.objs.size (.tup [x, y, u])) { s with heap := h'', toks := tk } :=
      I.turnedNew (t' := tk) (ch := [z, TI, TO, i1, i2, i3]) (fun d o hb q => (sb.2 d (fun q' => hb (by simp [q']))).trans (hk d o (fun q' => hb (by simp [q'])) (fun q' => hb (by simp [q'])) (fun q' => hb (by simp [q'])) (fun q' => hb (by simp [q'])) (fun q' => hb (by simp [q'])) q)) hf (Nat.le_refl _) new
    refine ⟨.ref s.heap.objs.size, _, I1, rfl, ⟨_, x, y, u, rfl, I.hok.fresh (Nat.le_refl _), rfl, fun l hl => by rw [seq_inj I hl hqx]; exact hx, fun l hl => by rw [seq_inj I hl hqy]; exact hy, fun l hl => by rw [seq_inj I hl hqz]; exact hu⟩, ⟨z'', ?_, ⟨x1, x2, x3, ?_⟩, ?_, ?_, ?_⟩, fun d hdm => ?_⟩
    · exact (sb.2 _ S.TIz).trans (hk _ _ S.TIz S.TITO S.TIi1 S.TIi2 S.TIi3 hTI)
    · exact (sb.2 _ S.TOz).trans TO'
    · exact st1.1.at_ fun o q => (sb.2 _ n1.symm).trans q
    · exact st2.1.at_ fun o q => (sb.2 _ n2.symm).trans q
    · exact st3.1.at_ fun o q => (sb.2 _ n3.symm).trans q
    · have hlt : d < s.heap.objs.size := by
        have e' : d = z ∨ d = TI ∨ d = TO ∨ d = i1 ∨ d = i2 ∨ d = i3 := by simpa using hdm
        rcases e' with q | q | q | q | q | q
        · rw [q]; exact hzl
        · rw [q]; exact Heap.lt_size hTI
        · rw [q]; exact Heap.lt_size hTO
        · rw [q]; obtain ⟨_, e1, _⟩ := h1.ob; exact Heap.lt_size e1
        · rw [q]; obtain ⟨_, e2, _⟩ := h2.ob; exact Heap.lt_size e2
        · rw [q]; obtain ⟨_, e2, _⟩ := h3.ob; exact Heap.lt_size e2
      rw [upd_ne (Nat.ne_of_lt hlt)]
      exact (hf d hdm).1
  done := by
    intro X hP hw hK hc i pins s σ H E I hf st hg
    subst hP hw hK
    obtain ⟨hz, hTI, ⟨x0, y0, u0, hTO⟩, h1, h2, h3⟩ := st
    obtain ⟨xs, ys, zs, hqx, hqy, hqz, q1, q2, q3, hend⟩ := hg
    obtain ⟨its, rv, p1, la⟩ := seqOf I hqx
    obtain ⟨its2, rv2, p2, lb⟩ := seqOf I hqy
    obtain ⟨its3, rv3, p3, lc⟩ := seqOf I hqz
    have l1 := rv.length
    have l2 := rv2.length
    have l3 := rv3.length
    have D1 := draws_ (prog := X.prog) (w := X.w) (A := X.A.in1) k1 (I.ok.hd hc) i1 a na its.toArray
    have D2 := draws_ (prog := X.prog) (w := X.w) (A := X.A.in1) k2 (I.ok.hd hc) i2 b nb its2.toArray
    have D3 := draws_ (prog := X.prog) (w := X.w) (A := X.A.in1) k3 (I.ok.hd hc) i3 c nc its3.toArray
    refine wpAny_pyNext_zipD3_end S D1 D2 D3 hz hTI hTO ⟨h1, p1⟩ ⟨h2, p2⟩ ⟨h3, p3⟩ (by simp; omega) (by simp; omega) (by simp; omega) (by simp; omega) fun h' tk hk => ⟨rfl, I.turnedL (t' := tk) (ch := [z, TI, TO, i1, i2, i3]) (fun d o hb q =>
      hk d o (fun q' => hb (by simp [q'])) (fun q' => hb (by simp [q'])) (fun q' => hb (by simp [q'])) (fun q' => hb (by simp [q'])) (fun q' => hb (by simp [q'])) q) hf⟩
  self := fun A i s Q E st h => wpAny_pyIter_zip st.1 h
def iZip3 (K : PySem.W.Frag) (ta : TA) : TI := fun σ H R => ta σ H fun vs H1 => ∃ a b c k1 k2 k3 xs ys zs, vs = [.ref a, .ref b, .ref c] ∧ SqK k1 K H1 a xs ∧ SqK k2 K H1 b ys ∧ SqK k3 K H1 c zs ∧ R (It3 K k1 k2 k3 a b c) H1
theorem pi_zip3 {X : Cx} {e e2 e3 : Expr} {ta : TA} {p pos tpos : Pos} {elts : List Expr} {kk : Nat} (hg : Gl X "zip") (hm : X.mg "zip" = none) (ha : PA X [e, e2, e3] ta)
    (hs : starEach [e, e2, e3] X.env = (false, eval e X.env) :: starEach [e2, e3] X.env := by rfl) (hpl : (backTo pos (starEach [e2, e3] X.env)).any (·.1) = false := by rfl) :
    PI X (.Tuple elts kk tpos) (.Call (.Name "zip" p) [e, e2, e3] [] pos) (iZip3 X.K ta) := by
  refine ⟨fun pins s σ H R I h => ?_⟩
  refine Call_ (ld_blt I hg hm PyProof.Rows.boot_zip (PyProof.Rows.callWith_type1 (thn (ha.run pos pins s σ H _ I h) fun us s1 ⟨vs, H1, I1, r1, q1⟩ => ?_) hs hpl))
  obtain ⟨a, b, c, k1, k2, k3, xs, ys, zs, ex, hqx, hqy, hqz, q⟩ := q1
  subst ex
  cases r1 with
  | cons r rr =>
    cases rr with
    | cons r' rr =>
      cases rr with
      | cons r'' rr =>
        cases rr
        cases r
        cases r'
        cases r''
        obtain ⟨its, rv, p1, la⟩ := seqOf I1 hqx
        obtain ⟨its2, rv2, p2, lb⟩ := seqOf I1 hqy
        obtain ⟨its3, rv3, p3, lc⟩ := seqOf I1 hqz
        refine zip_begins3 (begins_ k1 a its.toArray) (begins_ k2 b its2.toArray) (begins_ k3 c its3.toArray) p1 p2 p3 fun h' hz hTI hTO h1 h2 h3 hsz hk => wpAny_pyIter_zip hz ?_
        have I2 : L2.Inv X pins σ H1 { s1 with heap := h' } := I1.kept (t' := s1.toks) hk
        generalize hN : s1.heap.objs.size = N at *
        refine ⟨(N + 5 : Nat), [(N + 5 : Nat), (N + 3 : Nat), (N + 4 : Nat), (N : Nat), (N + 1 : Nat), (N + 2 : Nat)], _, _, H1, rfl, I2, turn3 (zip_sep3 (N := N) (fp1 := [a]) (fp2 := [b]) (fp3 := [c]) (fun d hd => by rw [List.mem_singleton.mp hd]; exact la) (fun d hd => by rw [List.mem_singleton.mp hd]; exact lb) (fun d hd => by rw [List.mem_singleton.mp hd]; exact lc))
          ⟨show (N + 5 : Nat) ≠ N by omega, show (N + 5 : Nat) ≠ N + 1 by omega, show (N + 5 : Nat) ≠ N + 2 by omega⟩ (Nat.ne_of_lt la) (Nat.ne_of_lt (Nat.lt_succ_of_lt lb)) (Nat.ne_of_lt (Nat.lt_succ_of_lt (Nat.lt_succ_of_lt lc))), ⟨hz, hTI, ⟨_, _, _, hTO⟩, iter0 h1, iter0 h2, iter0 h3⟩, fun d hd => ?_, q⟩
        have e' : d = N + 5 ∨ d = N + 3 ∨ d = N + 4 ∨ d = N ∨ d = N + 1 ∨ d = N + 2 := by simpa using hd
        have hle : s1.heap.objs.size ≤ d := by
          rw [hN]
          rcases e' with z | z | z | z | z | z <;> rw [z]
          · exact Nat.le_add_right _ _
          · exact Nat.le_add_right _ _
          · exact Nat.le_add_right _ _
          · exact Nat.le_refl _
          · exact Nat.le_add_right _ _
          · exact Nat.le_add_right _ _
        exact I1.fpOk hle (I1.hok.fresh hle)

/-! ### walks over them -/
section
variable {K : PySem.W.Frag} {k1 k2 k3 : SK} {a b c : Addr} {xs ys zs : List V} {g : TG} {tb : TS} {D : Ends} {σ : L2.St} {H : Hp}
theorem for2 (hl : xs.length = ys.length) (Pv : Nat → L2.St → Hp → Prop) (h0 : Pv 0 σ H) (hq : ∀ i σ H, Pv i σ H → SqK k1 K H a xs ∧ SqK k2 K H b ys)
    (hs : ∀ (i : Nat) (x y : V) (T : Addr) (σ : L2.St) (H : Hp), xs[i]? = some x → ys[i]? = some y → Pv i σ H → H T = none → g (.ref T) σ (upd H T (.tup [x, y])) fun σ2 H2 => tb { D with nx := Pv (i + 1), ct := Pv (i + 1), bk := D.nx } σ2 H2) (hd : ∀ σ H, Pv xs.length σ H → D.nx σ H) :
    ∃ W : Nat → Nat → L2.St → Hp → Prop, (∃ m, W 0 m σ H) ∧ ∀ i m σ H, W i m σ H →
      ((It2 K k1 k2 a b).stop i H ∧ D.nx σ H) ∨ ((It2 K k1 k2 a b).go i H ∧ ∃ N : L2.St → Hp → Prop, (∀ σ' H', N σ' H' → ∃ m', m' < m ∧ W (i + 1) m' σ' H') ∧ ∀ v H', (It2 K k1 k2 a b).yld i H v H' → g v σ H' fun σ2 H2 => tb { D with nx := N, ct := N, bk := D.nx } σ2 H2) := by
  refine ⟨fun i m σ H => m = xs.length - i ∧ i ≤ xs.length ∧ Pv i σ H, ⟨xs.length, rfl, Nat.zero_le _, h0⟩, ?_⟩
  rintro i m σ H ⟨rfl, hi, p⟩
  obtain ⟨qx, qy⟩ := hq i σ H p
  by_cases hlt : i < xs.length
  · have hx : xs[i]? = some xs[i] := List.getElem?_eq_getElem hlt
    have hlt2 : i < ys.length := by omega
    have hy : ys[i]? = some ys[i] := List.getElem?_eq_getElem hlt2
    refine .inr ⟨⟨xs, ys, _, _, qx, qy, hx, hy⟩, Pv (i + 1), fun σ' H' p' => ⟨xs.length - (i + 1), by omega, rfl, hlt, p'⟩, fun v H' y => ?_⟩
    obtain ⟨T, x', y', rfl, hT, rfl, f1, f2⟩ := y
    exact hs i x' y' T σ H (f1 xs qx) (f2 ys qy) p hT
  · have e : i = xs.length := by omega
    subst e
    exact .inl ⟨⟨xs, ys, qx, qy, Nat.le_refl _, by omega, .inl rfl⟩, hd σ H p⟩
end
section
variable {J : It} {n : Nat} {g : TG} {te : TE} {vs : List Nat} {σ : L2.St} {H : Hp} {Qd : Addr → Hp → Prop}
/-- a comprehension without a test over anything whose turns may make objects: element i is f i -/
theorem lcMapG (f : Nat → V) (go : ∀ (H1 : Hp) (i : Nat), Same H H1 → i < n → J.go i H1) (stop : ∀ (H1 : Hp), Same H H1 → J.stop n H1) (hz : n ≤ 100000)
    (hs : ∀ (i : Nat) (v : V) (H1 H2 : Hp) (Q1 : VK), i < n → Same H H1 → J.yld i H1 v H2 → (∀ H3, Same H1 H3 → Q1 (f i) H3) → g v (wipe σ vs) H2 fun σ2 H3 => wipe σ2 vs = wipe σ vs ∧ te σ2 H3 Q1)
    (hq : ∀ (p : Addr) (H1 : Hp), H p = none → Same H H1 → H1 p = some (.lst ((List.range n).map f)) → Qd p H1)
    (gm : ∀ (v : V) (σ : L2.St) (H : Hp) (P P' : L2.St → Hp → Prop), (∀ σ H, P σ H → P' σ H) → g v σ H P → g v σ H P')
    (D : Addr) (hD : H D = none) :
    ∃ W : Nat → Nat → Hp → Prop, (∃ m, W 0 m (upd H D (.lst []))) ∧ ∀ i m H, W i m H →
      (J.stop i H ∧ Qd D H) ∨ (J.go i H ∧ ∃ Nx : Hp → Prop, (∀ H', Nx H' → ∃ m', m' < m ∧ W (i + 1) m' H') ∧ ∀ x H', J.yld i H x H' → g x (wipe σ vs) H' fun σ2 H2 => wipe σ2 vs = wipe σ vs ∧ tYes σ2 H2 fun b H3 =>
        if b = true then te σ2 H3 fun y H4 => ∃ acc, H4 D = some (.lst
              acc) ∧ acc.length < sizeLine ∧ Nx (upd H4 D (.lst (acc ++ [y]))) else Nx H3) := by
  refine ⟨fun i m H1 => m = n - i ∧ i ≤ n ∧ Same H H1 ∧ H1 D = some (.lst ((List.range i).map f)), ⟨n, rfl, Nat.zero_le _, Rd.same_mk hD, upd_same⟩, ?_⟩
  rintro i m H1 ⟨rfl, hi, e, hacc⟩
  by_cases c : i < n
  · refine .inr ⟨go H1 _ e c, fun H' => Same H H' ∧ H' D = some (.lst ((List.range (i + 1)).map f)), fun H' z => ⟨n - (i + 1), by omega, rfl, c, z⟩, fun x H' y => ?_⟩
    refine gm _ _ _ _ _ (fun σ2 H2 z => ⟨z.1, Rd.tyes (iteT z.2)⟩) (hs i x H1 H' _ c e y fun H3 s3 => ?_)
    refine ⟨_, s3 _ _ hacc, ?_, Rd.same_mut (Same.trans e s3) hD, ?_⟩
    · rw [List.length_map, List.length_range]
      exact Nat.lt_of_lt_of_le (by omega : i < 100000) (by decide)
    · rw [upd_same, List.range_succ, List.map_append]; rfl
  · have e1 : i = n := by omega
    subst e1
    exact .inl ⟨stop H1 e, hq D H1 hD e hacc⟩
end
section
variable {K : PySem.W.Frag} {k1 k2 k3 : SK} {a b c : Addr} {xs ys zs : List V} {H : Hp}
theorem go2 (h1 : SqK k1 K H a xs) (h2 : SqK k2 K H b ys) (l2 : ys.length = xs.length) (H1 : Hp) (i : Nat) (e : Same H H1) (hi : i < xs.length) : (It2 K k1 k2 a b).go i H1 :=
  ⟨xs, ys, _, _, h1.same e, h2.same e, List.getElem?_eq_getElem hi, List.getElem?_eq_getElem (by omega)⟩
theorem stop2 (h1 : SqK k1 K H a xs) (h2 : SqK k2 K H b ys) (l2 : ys.length = xs.length) (H1 : Hp) (e : Same H H1) : (It2 K k1 k2 a b).stop xs.length H1 :=
  ⟨xs, ys, h1.same e, h2.same e, Nat.le_refl _, by omega, .inl rfl⟩
theorem yld2 (h1 : SqK k1 K H a xs) (h2 : SqK k2 K H b ys) {i : Nat} {v : V} {H1 H2 : Hp} (e : Same H H1) (y : (It2 K k1 k2 a b).yld i H1 v H2) : ∃ T x y, v = .ref T ∧ xs[i]? = some x ∧ ys[i]? = some y ∧ H2 T = some (.tup [x, y]) ∧ Same H1 H2 := by
  obtain ⟨T, x', y', rfl, hT, rfl, f1, f2⟩ := y
  exact ⟨T, x', y', rfl, f1 xs (h1.same e), f2 ys (h2.same e), upd_same, Rd.same_mk hT⟩
theorem go3 (h1 : SqK k1 K H a xs) (h2 : SqK k2 K H b ys) (h3 : SqK k3 K H c zs) (l2 : ys.length = xs.length) (l3 : zs.length = xs.length) (H1 : Hp) (i : Nat) (e : Same H H1) (hi : i < xs.length) : (It3 K k1 k2 k3 a b c).go i H1 :=
  ⟨xs, ys, zs, _, _, _, h1.same e, h2.same e, h3.same e, List.getElem?_eq_getElem hi, List.getElem?_eq_getElem (by omega), List.getElem?_eq_getElem (by omega)⟩
theorem stop3 (h1 : SqK k1 K H a xs) (h2 : SqK k2 K H b ys) (h3 : SqK k3 K H c zs) (l2 : ys.length = xs.length) (l3 : zs.length = xs.length) (H1 : Hp) (e : Same H H1) : (It3 K k1 k2 k3 a b c).stop xs.length H1 :=
  ⟨xs, ys, zs, h1.same e, h2.same e, h3.same e, Nat.le_refl _, by omega, by omega, .inl rfl⟩
theorem yld3 (h1 : SqK k1 K H a xs) (h2 : SqK k2 K H b ys) (h3 : SqK k3 K H c zs) {i : Nat} {v : V} {H1 H2 : Hp} (e : Same H H1) (y : (It3 K k1 k2 k3 a b c).yld i H1 v H2) : ∃ T x y z, v = .ref T ∧ xs[i]? = some x ∧ ys[i]? = some y ∧ zs[i]? = some z ∧ H2 T = some (.tup [x, y, z]) ∧ Same H1 H2 := by
  obtain ⟨T, x', y', z', rfl, hT, rfl, f1, f2, f3⟩ := y
  exact ⟨T, x', y', z', rfl, f1 xs (h1.same e), f2 ys (h2.same e), f3 zs (h3.same e), upd_same, Rd.same_mk hT⟩
theorem gm2 {i j : Nat} (v : V) (σ : L2.St) (H : Hp) (P P' : L2.St → Hp → Prop) (h : ∀ σ H, P σ H → P' σ H) (q : gTup K 2 (gCons (gName i) (gCons (gName j) gNil)) v σ H P) : gTup K 2 (gCons (gName i) (gCons (gName j) gNil)) v σ H P' := by
  obtain ⟨a, xs, r1, r2, r3, x, ys, r4, y, zs, r5, r6, r7⟩ := q
  exact ⟨a, xs, r1, r2, r3, x, ys, r4, y, zs, r5, r6, h _ _ r7⟩
theorem gm3 {i j k : Nat} (v : V) (σ : L2.St) (H : Hp) (P P' : L2.St → Hp → Prop) (h : ∀ σ H, P σ H → P' σ H) (q : gTup K 3 (gCons (gName i) (gCons (gName j) (gCons (gName k) gNil))) v σ H P) : gTup K 3 (gCons (gName i) (gCons (gName j) (gCons (gName k) gNil))) v σ H P' := by
  obtain ⟨a, xs, r1, r2, r3, x, ys, r4, y, zs, r5, z, us, r6, r7, r8⟩ := q
  exact ⟨a, xs, r1, r2, r3, x, ys, r4, y, zs, r5, z, us, r6, r7, h _ _ r8⟩
theorem gtup3 {i j k : Nat} {a : Addr} {x y z : V} {σ : L2.St} {P : L2.St → Hp → Prop} (h : SqT K H a [x, y, z]) (hq : P (((σ.set i (some x)).set j (some y)).set k (some z)) H) : gTup K 3 (gCons (gName i) (gCons (gName j) (gCons (gName k) gNil))) (.ref a) σ H P :=
  ⟨a, [x, y, z], rfl, h, rfl, x, [y, z], rfl, y, [z], rfl, z, [], rfl, rfl, hq⟩
end
/-! ### lcm; small powers of tuples; == of two classes -/
section
variable {X : Cx}
def rLcm : List V → Hp → VK → Prop := fun vs H Q => ∃ a b : Int, vs = [.int a, .int b] ∧ 0 ≤ a ∧ 0 ≤ b ∧ a < 2 ^ 9000 ∧ b < 2 ^ 200 ∧ Q (.int ((Nat.lcm a.toNat b.toNat : Nat) : Int)) H
theorem cr_lcm : CallR X (.builtin "math.lcm") rLcm := by
  intro pins s σ H vs us Q I r h
  obtain ⟨a, b, rfl, a0, b0, a1, b1, q⟩ := h
  obtain ⟨t, u, rfl⟩ := Vals.int2 r
  have pw : (2 : Int) ^ 200 ≤ 2 ^ 9000 := by decide +kernel
  obtain ⟨m, rfl⟩ : ∃ m : Nat, a = (m : Int) := ⟨a.toNat, by omega⟩
  obtain ⟨n, rfl⟩ : ∃ n : Nat, b = (n : Int) := ⟨b.toNat, by omega⟩
  have m1 : m < 2 ^ 9000 := by exact_mod_cast a1
  have n1 : n < 2 ^ 200 := by exact_mod_cast b1
  have pwn : (2 : Nat) ^ 200 ≤ 2 ^ 9000 := by decide +kernel
  have lg : ∀ k : Nat, k < 2 ^ 9000 → k.log2 ≤ 8999 := fun k hk => PySem.W.mg_log hk
  have one : (1 : Nat) < 2 ^ 9000 := by decide +kernel
  have h1 : (max 1 (m : Int).natAbs).log2 ≤ 8999 := lg _ (by rw [Int.natAbs_natCast]; omega)
  have h2 : (max (m : Int).natAbs (n : Int).natAbs).log2 ≤ 8999 := lg _ (by rw [Int.natAbs_natCast, Int.natAbs_natCast]; omega)
  have hl : Nat.lcm m n ≤ m * n := by
    by_cases z : m * n = 0
    · rcases Nat.mul_eq_zero.mp z with z | z
      · rw [z, Nat.lcm_zero_left]; exact Nat.zero_le _
      · rw [z, Nat.lcm_zero_right]; exact Nat.zero_le _
    · exact Nat.le_of_dvd (Nat.pos_of_ne_zero z) (Nat.lcm_dvd (Nat.dvd_mul_right _ _) (Nat.dvd_mul_left _ _))
  have hp : m * n < 2 ^ (9999 + 1) := by
    have e : (2 : Nat) ^ (9999 + 1) = 2 ^ 9000 * 2 ^ 1000 := by rw [← Nat.pow_add]
    have p2 : (2 : Nat) ^ 200 ≤ 2 ^ 1000 := Nat.pow_le_pow_right (by decide) (by decide)
    rw [e]
    exact Nat.lt_of_le_of_lt (Nat.mul_le_mul_left _ (Nat.le_of_lt (Nat.lt_of_lt_of_le n1 p2))) (Nat.mul_lt_mul_of_pos_right m1 (Nat.pow_pos (by decide)))
  have eq : (Nat.lcm 1 (m : Int).natAbs).lcm (n : Int).natAbs = Nat.lcm m n := by rw [Int.natAbs_natCast, Int.natAbs_natCast, Nat.lcm_one_left]
  have hs : ((((Nat.lcm 1 (m : Int).natAbs).lcm (n : Int).natAbs : Nat) : Int)).natAbs.log2 < bitsLine := by
    rw [eq, Int.natAbs_natCast]
    exact Nat.lt_of_le_of_lt (PySem.W.mg_log (Nat.lt_of_le_of_lt hl hp)) (by decide)
  refine call_function_meets PySem.W.MGF.kind_lcm PySem.W.MGF.plain_lcm PySem.W.MGF.entry_lcm (PySem.W.MGF.args_lcm _ _) (PySem.W.mg_run_lcm _ t _ u (by omega) (by omega) hs).meets ?_
  rw [eq]
  exact ⟨.int _, H, I.tok _, ⟨_, rfl⟩, q⟩
def rInsEqX (C D : Addr) (sp : Sp) (E : XK) : R2 := fun x y H Q => ∃ a dx fs b dy gs, x = .ref a ∧ y = .ref b ∧ H a = some (.ins C dx fs) ∧ H b = some (.ins D dy gs) ∧ sp [x, y] H Q E
theorem op_insEqX {CX : CXT} {C D : Addr} {k : Nat} {ps : List Str} {sp : Sp} {E : XK} (M : Rd.EqOk X.prog X.w X.K X.mg X.base CX C k ps sp) (hr : Room k X.A) (hx : Passes CX X E) (nf : PySem.W.notFirst X.K C (.ref D) = true) : OpR X (compareOp .Eq) (rInsEqX C D sp E) := by
  intro pins s σ H x y v u Q I rx ry ⟨a, dx, fs, b, dy, gs, ex, ey, ha, hb, q⟩
  obtain ⟨f, fd, find, fn, F, bi⟩ := M.ok
  subst ex ey
  obtain rfl : v = Value.ref a := rx
  obtain rfl : u = Value.ref b := ry
  obtain ⟨_, ja, _⟩ := ins_get I.hok ha
  obtain ⟨_, jb, _⟩ := ins_get I.hok hb
  obtain ⟨_, la, _⟩ := ja.look
  obtain ⟨_, lb, _⟩ := jb.look
  obtain ⟨_, fr⟩ := I.fr
  show wpAny _ X.A (richCompare .Eq (.ref a) (.ref b)) _ _ _
  refine PySem.W.cmp_K (op := .Eq) (tb := .ref D) hr.units0 fr I.ok.mod.kin la lb.type nf find fn ?_
  refine wpAny_mono (run_fn (us := [.ref a, .ref b]) (vs := [.ref a, .ref b]) F hr bi .nil hx I (.cons rfl (.cons rfl .nil)) q) ?_ (fun _ _ z => z)
  rintro w2 s2 ⟨z, H2, I2, rz, qz⟩
  exact SlX.cmpback rz ⟨z, H2, I2, rz, qz⟩
end
end Rz

set_option Elab.async false
set_option linter.all false
set_option maxRecDepth 100000
set_option maxHeartbeats 4000000
namespace Rz
open PySem PySem.Spec PyProof.Rows L2
open AutoSeq1 (wpAny_loadPart')
theorem tuple_mul0 (l : Addr) (v : Value) (n : Nat) (dd : Option Addr) (sl : Array (Option Value)) (u : Tok) :
    Meets (Builtin.«tuple.__mul__» ⟨[.ref l, .int 0 u], []⟩) (fun _ R s => s.heap.get? l = some { cls := .type "tuple", dict := dd, data := .seq #[v] n, slots := sl } ∧
      R (.ok (.ret (Value.ref s.heap.objs.size))) { s with heap := s.heap.push { cls := Value.type "tuple", data := Data.seq #[] }, toks := s.toks }) :=
  .of_wp fun prog w A R s h => by
    obtain ⟨hp, g, d, tk, os⟩ := s
    obtain ⟨hl, h⟩ := h
    have f1 := AutoSeq1.idx_int
    wp_walk using wpAny_loadPart' hl
    exact ⟨_, rfl, h⟩
theorem tuple_mul1 (l : Addr) (v : Value) (n : Nat) (dd : Option Addr) (sl : Array (Option Value)) (u : Tok) :
    Meets (Builtin.«tuple.__mul__» ⟨[.ref l, .int 1 u], []⟩) (fun _ R s => s.heap.get? l = some { cls := .type "tuple", dict := dd, data := .seq #[v] n, slots := sl } ∧
      R (.ok (.ret (Value.ref l))) s) :=
  .of_wp fun prog w A R s h => by
    obtain ⟨hp, g, d, tk, os⟩ := s
    obtain ⟨hl, h⟩ := h
    have f1 := AutoSeq1.idx_int
    wp_walk using wpAny_loadPart' hl
    exact ⟨_, rfl, h⟩
def rRepS (K : PySem.W.Frag) : R2 := fun x y H Q => ∃ l k z, x = .ref l ∧ y = .int k ∧ SqT K H l [z] ∧ 0 ≤ k ∧ k ≤ 1000 ∧ (k = 1 → Q (.ref l) H) ∧ (k ≠ 1 → ∀ p, H p = none → Q (.ref p) (upd H p (.tup (List.replicate k.toNat z))))
theorem flat1 {α : Type} (z : α) : ∀ n : Nat, (List.replicate n [z]).flatten = List.replicate n z
  | 0 => rfl
  | n + 1 => by rw [List.replicate_succ, List.replicate_succ, List.flatten_cons, flat1 z n]; rfl
section
variable {X : Cx}
theorem op_repS : OpR X (binaryOp .Mult) (rRepS X.K) := by
  intro pins s σ H x y v u Q I rx ry h
  obtain ⟨l, k, z, rfl, rfl, hT, h0, h1, q1, q2⟩ := h
  by_cases c : 2 ≤ k
  · refine op_repT pins s σ H _ _ v u Q I rx ry ⟨l, k, [z], rfl, rfl, hT, by simp, c, h1, by simp, fun p hp => ?_⟩
    rw [flat1]
    exact q2 (by omega) p hp
  cases rx
  obtain ⟨t, rfl⟩ := ry
  obtain ⟨its, r, ⟨⟨cls, dd, data, sl⟩, ho, hc, n, hd⟩, hs⟩ := I.tuple hT
  simp only at hc hd
  subst hc hd
  obtain ⟨v, rfl⟩ : ∃ v, its = [v] := by
    match its, r with
    | [v], _ => exact ⟨v, rfl⟩
  by_cases c1 : k = 1
  · subst c1
    refine wpAny_binaryOp_repeat_ref (T := "tuple") (U := "int") (by decide) ⟨_, ho, rfl⟩ (fun s' => typeIs_int s' 1 t) noFill_tuple_mul F.fills_int_mul F.slot_int_rmul repeat_tuple F.slot_int_index.lookup
      (call_meets F.slot_int_rmul (typeIs_int s 1 t) F.entry_int_rmul (F.args_int_rmul_2 _ _) (int_rmul_tuple 1 t l [v].toArray n dd sl)
        ⟨ho, rfl, ⟨_, ho, rfl⟩, call_meets F.slot_tuple_mul ⟨_, ho, rfl⟩ F.entry_tuple_mul (F.args_tuple_mul_2 _ _) (tuple_mul1 l v n dd sl t) ⟨ho, ?_⟩⟩)
    exact ⟨.ref l, H, I, rfl, q1 rfl⟩
  · have e0 : k = 0 := by omega
    subst e0
    refine wpAny_binaryOp_repeat_ref (T := "tuple") (U := "int") (by decide) ⟨_, ho, rfl⟩ (fun s' => typeIs_int s' 0 t) noFill_tuple_mul F.fills_int_mul F.slot_int_rmul repeat_tuple F.slot_int_index.lookup
      (call_meets F.slot_int_rmul (typeIs_int s 0 t) F.entry_int_rmul (F.args_int_rmul_2 _ _) (int_rmul_tuple 0 t l [v].toArray n dd sl)
        ⟨ho, rfl, ⟨_, ho, rfl⟩, call_meets F.slot_tuple_mul ⟨_, ho, rfl⟩ F.entry_tuple_mul (F.args_tuple_mul_2 _ _) (tuple_mul0 l v n dd sl t) ⟨ho, ?_⟩⟩)
    refine ⟨.ref s.heap.objs.size, _, I.laid (t' := s.toks) (o := .tup []) (fun b ob q => Heap.get?_push_of_some _ q) (Nat.le_refl _) ?_, rfl, q2 c1 _ (I.hok.fresh (Nat.le_refl _))⟩
    exact ⟨Nat.zero_le _, [], .nil, IsTup.new _ _⟩
end
end Rz

set_option Elab.async false
set_option linter.all false
set_option maxRecDepth 100000
set_option maxHeartbeats 4000000
/-! the rules with the written part named; comprehensions with two clauses -/
namespace Rd
open PySem PySem.Spec PyProof.Rows L2
/-- the address of a class -/
def rA : Value → Addr
  | .ref a => a
  | _ => 0
theorem rA_ref {a : Addr} : rA (.ref a) = a := rfl
end Rd
namespace Rk
open PySem PySem.Spec PyProof.Rows L2 Rd Rz
section
variable {X : Cx} (K : PySem.W.Frag) (h : X.K = K := by rfl)
include h
theorem zip2 {e e2 : Expr} {ta : TA} {p pos tpos : Pos} {elts : List Expr} {kk : Nat} (hg : Gl X "zip") (hm : X.mg "zip" = none) (ha : PA X [e, e2] ta)
    (hs : starEach [e, e2] X.env = (false, eval e X.env) :: starEach [e2] X.env := by rfl) (hpl : (backTo pos (starEach [e2] X.env)).any (·.1) = false := by rfl) :
    PI X (.Tuple elts kk tpos) (.Call (.Name "zip" p) [e, e2] [] pos) (iZip2 K ta) := h ▸ pi_zip2 hg hm ha hs hpl
theorem zip3 {e e2 e3 : Expr} {ta : TA} {p pos tpos : Pos} {elts : List Expr} {kk : Nat} (hg : Gl X "zip") (hm : X.mg "zip" = none) (ha : PA X [e, e2, e3] ta)
    (hs : starEach [e, e2, e3] X.env = (false, eval e X.env) :: starEach [e2, e3] X.env := by rfl) (hpl : (backTo pos (starEach [e2, e3] X.env)).any (·.1) = false := by rfl) :
    PI X (.Tuple elts kk tpos) (.Call (.Name "zip" p) [e, e2, e3] [] pos) (iZip3 K ta) := h ▸ pi_zip3 hg hm ha hs hpl
theorem repS : OpR X (binaryOp .Mult) (rRepS K) := h ▸ op_repS
theorem catA : OpR X (binaryOp .Add) (rCatA K) := h ▸ op_catA
theorem slA : SlR X (rSlA K) := h ▸ sl_tupA
theorem revA {tg e : Expr} {te : TE} {p pos : Pos} (hg : Gl X "reversed") (hm : X.mg "reversed" = none) (he : PE X e te) (hs : starEach [e] X.env = (false, eval e X.env) :: starEach [] X.env := by rfl) : PI X tg (.Call (.Name "reversed" p) [e] [] pos) (RT.iRevA K te) := h ▸ RT.pi_revA hg hm he hs
theorem star {e : Expr} {es : List Expr} {te : TE} {t : TA} {p : Pos} (he : PE X e te) (hr : PA X es t) (hs : starEach (.Starred e p :: es) X.env = (true, eval e X.env) :: starEach es X.env := by rfl) : PA X (.Starred e p :: es) (StX.tStar K te t) := h ▸ StX.pa_star he hr hs
theorem revL {e : Expr} {te : TE} {k : Nat} {p1 p2 p3 pos : Pos} (he : PE X e te) : PE X (.Subscript e (.Slice none none (some (.UnaryOp .USub (.Constant (.int 1) k p1) p2)) p3) pos) (tRevL K te) := h ▸ pe_revL he
end
end Rk
namespace Rd
open PySem PySem.Spec PyProof.Rows L2 Rz
section
variable {K : PySem.W.Frag} {σ : L2.St} {H : Hp} {R : It → Hp → Prop} {ta : TA} {te : TE} {Q : VK}
theorem z2 (h : ta σ H fun vs H1 => ∃ a b k1 k2 xs ys, vs = [.ref a, .ref b] ∧ SqK k1 K H1 a xs ∧ SqK k2 K H1 b ys ∧ R (It2 K k1 k2 a b) H1) : iZip2 K ta σ H R := h
theorem z3 (h : ta σ H fun vs H1 => ∃ a b c k1 k2 k3 xs ys zs, vs = [.ref a, .ref b, .ref c] ∧ SqK k1 K H1 a xs ∧ SqK k2 K H1 b ys ∧ SqK k3 K H1 c zs ∧ R (It3 K k1 k2 k3 a b c) H1) : iZip3 K ta σ H R := h
theorem revA (h : te σ H fun v H1 => ∃ (a : Addr) (xs : List V), v = .ref a ∧ ((SqL K H1 a xs ∧ R (Itv K a xs.length) H1) ∨ (SqT K H1 a xs ∧ R (RT.ItvT K a xs.length) H1))) : RT.iRevA K te σ H R := h
theorem revL (h : te σ H fun x H1 => ∃ a xs, x = .ref a ∧ SqL K H1 a xs ∧ ∀ p, H1 p = none → Q (.ref p) (upd H1 p (.lst xs.reverse))) : tRevL K te σ H Q := h
theorem star {t : TA} {P : List V → Hp → Prop} (h : te σ H fun x H1 => ∃ p xs, x = V.ref p ∧ (SqT K H1 p xs ∨ SqL K H1 p xs) ∧ t σ H1 fun ys H2 => P (xs ++ ys) H2) : StX.tStar K te t σ H P := h
theorem lc2 {wi wi1 : TI} {g g1 : TG} {tt tt1 : TT} {vs vs1 : List Nat} (h : wi σ H fun J H1 => ∀ D, H1 D = none → ∃ W : Nat → Nat → Hp → Prop, (∃ m, W 0 m (upd H1 D (.lst []))) ∧ ∀ i m H, W i m H →
  (J.stop i H ∧ Q (.ref D) H) ∨ (J.go i H ∧ ∃ Nx : Hp → Prop, (∀ H', Nx H' → ∃ m', m' < m ∧ W (i + 1) m' H') ∧ ∀ x H', J.yld i H x H' → g x (wipe σ vs) H' fun σ2 H2 => wipe σ2 vs = wipe σ vs ∧ tt σ2 H2 fun b H3 =>
    if b = true then wi1 σ2 H3 fun J1 H4 => ∃ W1 : Nat → Nat → Hp → Prop, (∃ m, W1 0 m H4) ∧ ∀ j k H, W1 j k H →
      (J1.stop j H ∧ Nx H) ∨ (J1.go j H ∧ ∃ Nx1 : Hp → Prop, (∀ H', Nx1 H' → ∃ k', k' < k ∧ W1 (j + 1) k' H') ∧ ∀ x H', J1.yld j H x H' → g1 x (wipe σ2 vs1) H' fun σ3 H5 => wipe σ3 vs1 = wipe σ2 vs1 ∧ tt1 σ3 H5 fun b H6 =>
        if b = true then te σ3 H6 fun y H7 => ∃ acc, H7 D = some (.lst acc) ∧ acc.length < sizeLine ∧ Nx1 (upd H7 D (.lst (acc ++ [y]))) else Nx1 H6)
    else Nx H3)) : tLc2 wi g tt wi1 g1 tt1 te vs vs1 σ H Q := h
/-- for x in xs for k in range(m): a new object each -/
theorem lc2New {J : It} {xs : List V} {j j1 : Nat} {wi1 : TI} {vs vs1 : List Nat} {Qd : Addr → Hp → Prop} (obj : Nat → Nat → HO → Prop) (m : Nat) (S : Src J xs H) (hz : xs.length * m ≤ 100000) (hw : ∀ x : V, wipe ((wipe σ vs).set j (some x)) vs = wipe σ vs)
    (hw1 : ∀ x y : V, wipe ((wipe ((wipe σ vs).set j (some x)) vs1).set j1 (some y)) vs1 = wipe ((wipe σ vs).set j (some x)) vs1)
    (h1 : ∀ (x : V) (H1 : Hp) (R : It → Hp → Prop), Same H H1 → R (Itr 0 m) H1 → wi1 ((wipe σ vs).set j (some x)) H1 R)
    (hs : ∀ (i k : Nat) (x : V) (H1 : Hp) (Q1 : VK), xs[i]? = some x → k < m → Same H H1 → (∀ (p : Addr) (H2 : Hp) (o : HO), H1 p = none → Same H1 H2 → H2 p = some o → obj i k o → Q1 (.ref p) H2) → te ((wipe ((wipe σ vs).set j (some x)) vs1).set j1 (some (.int (k : Nat)))) H1 Q1)
    (hq : ∀ (p : Addr) (as : List Addr) (H1 : Hp), H p = none → Same H H1 → H1 p = some (.lst (as.map V.ref)) → as.length = xs.length * m → (∀ (n : Nat) (a : Addr), as[n]? = some a → (∃ o, H1 a = some o ∧ obj (n / m) (n % m) o) ∧ H a = none ∧ a ≠ p) → Qd p H1)
    (D : Addr) (hD : H D = none) :
    ∃ W : Nat → Nat → Hp → Prop, (∃ m, W 0 m (upd H D (.lst []))) ∧ ∀ i m H, W i m H →
      (J.stop i H ∧ Qd D H) ∨ (J.go i H ∧ ∃ Nx : Hp → Prop, (∀ H', Nx H' → ∃ m', m' < m ∧ W (i + 1) m' H') ∧ ∀ x H', J.yld i H x H' → gName j x (wipe σ vs) H' fun σ2 H2 => wipe σ2 vs = wipe σ vs ∧ tYes σ2 H2 fun b H3 =>
    if b = true then wi1 σ2 H3 fun J1 H4 => ∃ W1 : Nat → Nat → Hp → Prop, (∃ m, W1 0 m H4) ∧ ∀ j k H, W1 j k H →
      (J1.stop j H ∧ Nx H) ∨ (J1.go j H ∧ ∃ Nx1 : Hp → Prop, (∀ H', Nx1 H' → ∃ k', k' < k ∧ W1 (j + 1) k' H') ∧ ∀ x H', J1.yld j H x H' → gName j1 x (wipe σ2 vs1) H' fun σ3 H5 => wipe σ3 vs1 = wipe σ2 vs1 ∧ tYes σ3 H5 fun b H6 =>
        if b = true then te σ3 H6 fun y H7 => ∃ acc, H7 D = some (.lst acc) ∧ acc.length < sizeLine ∧ Nx1 (upd H7 D (.lst (acc ++ [y]))) else Nx1 H6)
    else Nx H3) := by
  have OK : ∀ (as : List Addr) (H1 : Hp), Prop := fun as H1 => ∀ (n : Nat) (a : Addr), as[n]? = some a → (∃ o, H1 a = some o ∧ obj (n / m) (n % m) o) ∧ H a = none ∧ a ≠ D
  refine ⟨fun i q H1 => q = xs.length - i ∧ i ≤ xs.length ∧ ∃ as : List Addr, as.length = i * m ∧ Same H H1 ∧ H1 D = some (.lst (as.map V.ref)) ∧ (∀ (n : Nat) (a : Addr), as[n]? = some a → (∃ o, H1 a = some o ∧ obj (n / m) (n % m) o) ∧ H a = none ∧ a ≠ D),
    ⟨xs.length, rfl, Nat.zero_le _, [], by simp, same_mk hD, upd_same, fun n a h => by simp at h⟩, ?_⟩
  rintro i q H1 ⟨rfl, hi, as, la, e, hacc, ho⟩
  by_cases c : i < xs.length
  · refine .inr ⟨S.go H1 _ e c, fun H' => ∃ as' : List Addr, as'.length = (i + 1) * m ∧ Same H H' ∧ H' D = some (.lst (as'.map V.ref)) ∧ (∀ (n : Nat) (a : Addr), as'[n]? = some a → (∃ o, H' a = some o ∧ obj (n / m) (n % m) o) ∧ H a = none ∧ a ≠ D),
      fun H' z => ⟨xs.length - (i + 1), by omega, rfl, c, z⟩, fun x H' y => ?_⟩
    obtain ⟨rfl, hx⟩ := S.yld H1 _ x H' e y
    refine ⟨hw x, ?_⟩
    refine tyes (iteT ?_)
    refine h1 x H' _ e ?_
    refine ⟨fun k q H2 => q = m - k ∧ k ≤ m ∧ ∃ as : List Addr, as.length = i * m + k ∧ Same H H2 ∧ H2 D = some (.lst (as.map V.ref)) ∧ (∀ (n : Nat) (a : Addr), as[n]? = some a → (∃ o, H2 a = some o ∧ obj (n / m) (n % m) o) ∧ H a = none ∧ a ≠ D),
      ⟨m, rfl, Nat.zero_le _, as, la, e, hacc, ho⟩, ?_⟩
    rintro k q H2 ⟨rfl, hk, as, la, e, hacc, ho⟩
    by_cases ck : k < m
    · refine .inr ⟨ck, fun H' => ∃ as' : List Addr, as'.length = i * m + (k + 1) ∧ Same H H' ∧ H' D = some (.lst (as'.map V.ref)) ∧ (∀ (n : Nat) (a : Addr), as'[n]? = some a → (∃ o, H' a = some o ∧ obj (n / m) (n % m) o) ∧ H a = none ∧ a ≠ D),
        fun H' z => ⟨m - (k + 1), by omega, rfl, ck, z⟩, fun y H' yy => ?_⟩
      obtain ⟨rfl, hy⟩ := yy
      rw [Int.zero_add] at hy
      subst hy
      refine ⟨hw1 x _, ?_⟩
      refine tyes (iteT ?_)
      refine hs i k x H' _ (hx c) ck e fun p H3 ob hp s3 h3 hob => ?_
      have npD : p ≠ D := fun z => by rw [z, hacc] at hp; cases hp
      have lm : i * m + m ≤ xs.length * m := by
        have := Nat.mul_le_mul_right m (show i + 1 ≤ xs.length from c)
        rw [Nat.add_mul, Nat.one_mul] at this
        exact this
      refine ⟨_, s3 _ _ hacc, ?_, as ++ [p], by rw [List.length_append, la]; rfl, same_mut (Same.trans e s3) hD, by rw [upd_same, List.map_append]; rfl, fun n a hn => ?_⟩
      · rw [List.length_map]
        exact Nat.lt_of_lt_of_le (by omega : as.length < 100000) (by decide)
      · by_cases q : n < as.length
        · rw [List.getElem?_append_left q] at hn
          obtain ⟨⟨o1, a1, b1⟩, a2, a3⟩ := ho n a hn
          exact ⟨⟨o1, by rw [upd_ne a3]; exact s3 _ _ a1, b1⟩, a2, a3⟩
        · have lu := (List.getElem?_eq_some_iff.mp hn).1
          rw [List.length_append, List.length_singleton] at lu
          have q1 : n = as.length := by omega
          subst q1
          rw [List.getElem?_append_right (Nat.le_refl _), Nat.sub_self] at hn
          cases hn
          have d1 : as.length / m = i := by
            rw [la, Nat.add_comm, Nat.add_mul_div_right _ _ (by omega), Nat.div_eq_of_lt ck, Nat.zero_add]
          have d2 : as.length % m = k := by
            rw [la, Nat.add_comm, Nat.add_mul_mod_self_right, Nat.mod_eq_of_lt ck]
          rw [d1, d2]
          exact ⟨⟨ob, by rw [upd_ne npD]; exact h3, hob⟩, Same.free e hp, npD⟩
    · have ek : k = m := by omega
      subst ek
      refine .inl ⟨Nat.le_refl _, as, ?_, e, hacc, ho⟩
      rw [la, Nat.add_mul, Nat.one_mul]
  · have e1 : i = xs.length := by omega
    subst e1
    exact .inl ⟨S.stop H1 e, hq D as H1 hD e hacc la ho⟩
end
end Rd

set_option linter.all false
set_option maxRecDepth 100000
/-! values of targets: mixed digits -/
namespace GT
def pr : List Int → Nat
  | [] => 1
  | m :: r => m.toNat * pr r
def dg : List Int → Nat → List Int
  | [], _ => []
  | m :: r, p => ((p / pr r % m.toNat : Nat) : Int) :: dg r p
def psn : List Int → List Int → Nat
  | m :: r, x :: v => x.toNat * pr r + psn r v
  | _, _ => 0
def Val : List Int → List Int → Prop
  | [], [] => True
  | m :: r, x :: v => (0 ≤ x ∧ x < m) ∧ Val r v
  | _, _ => False
def OkM (ms : List Int) : Prop := ∀ m ∈ ms, 2 ≤ m
theorem OkM.hd {m : Int} {r : List Int} (h : OkM (m :: r)) : 2 ≤ m := h m List.mem_cons_self
theorem OkM.tl {m : Int} {r : List Int} (h : OkM (m :: r)) : OkM r := fun x hx => h x (List.mem_cons_of_mem _ hx)
theorem pr_pos : ∀ {ms : List Int}, OkM ms → 0 < pr ms
  | [], _ => Nat.one_pos
  | m :: r, h => Nat.mul_pos (by have := h.hd; omega) (pr_pos h.tl)
theorem pr_append : ∀ (a b : List Int), pr (a ++ b) = pr a * pr b
  | [], b => (Nat.one_mul _).symm
  | m :: a, b => by show m.toNat * pr (a ++ b) = m.toNat * pr a * pr b; rw [pr_append a b, Nat.mul_assoc]
theorem pr_one (m : Int) : pr [m] = m.toNat := Nat.mul_one _
theorem pr_take {ms : List Int} {i : Nat} {m : Int} (h : ms[i]? = some m) : pr (ms.take (i + 1)) = pr (ms.take i) * m.toNat := by
  rw [List.take_add_one, h, pr_append]
  show _ * pr [m] = _
  rw [pr_one]
theorem dg_len : ∀ (ms : List Int) (p : Nat), (dg ms p).length = ms.length
  | [], _ => rfl
  | m :: r, p => congrArg Nat.succ (dg_len r p)
theorem dg_snoc : ∀ (l : List Int) (m : Int) (p e : Nat), e < m.toNat → dg (l ++ [m]) (p * m.toNat + e) = dg l p ++ [(e : Int)]
  | [], m, p, e, h => by
    show [(((p * m.toNat + e) / pr [] % m.toNat : Nat) : Int)] = [(e : Int)]
    rw [show pr [] = 1 from rfl, Nat.div_one, Nat.add_comm, Nat.add_mul_mod_self_right, Nat.mod_eq_of_lt h]
  | k :: l, m, p, e, h => by
    show (((p * m.toNat + e) / pr (l ++ [m]) % k.toNat : Nat) : Int) :: dg (l ++ [m]) (p * m.toNat + e) = ((p / pr l % k.toNat : Nat) : Int) :: (dg l p ++ [(e : Int)])
    have d : (p * m.toNat + e) / pr (l ++ [m]) = p / pr l := by
      rw [pr_append, pr_one, Nat.mul_comm (pr l), ← Nat.div_div_eq_div_mul, Nat.add_comm, Nat.add_mul_div_right _ _ (by omega), Nat.div_eq_of_lt h, Nat.zero_add]
    rw [d, dg_snoc l m p e h]
theorem dg_mod : ∀ {ms : List Int}, OkM ms → ∀ (p k : Nat), dg ms (p + k * pr ms) = dg ms p
  | [], _, _, _ => rfl
  | m :: r, h, p, k => by
    have hr := pr_pos h.tl
    show (((p + k * (m.toNat * pr r)) / pr r % m.toNat : Nat) : Int) :: dg r (p + k * (m.toNat * pr r)) = _
    have e : k * (m.toNat * pr r) = (k * m.toNat) * pr r := by rw [Nat.mul_assoc]
    rw [e, Nat.add_mul_div_right _ _ hr, Nat.add_mul_mod_self_right, dg_mod h.tl]; rfl
theorem Val.len : ∀ {ms v : List Int}, Val ms v → v.length = ms.length
  | [], [], _ => rfl
  | [], _ :: _, h => h.elim
  | _ :: _, [], h => h.elim
  | _ :: _, _ :: _, h => congrArg Nat.succ (Val.len h.2)
theorem val_iff : ∀ {ms v : List Int}, Val ms v ↔ v.length = ms.length ∧ ∀ (j : Nat) (x m : Int), v[j]? = some x → ms[j]? = some m → 0 ≤ x ∧ x < m
  | [], [] => ⟨fun _ => ⟨rfl, fun j x m h => by simp at h⟩, fun _ => trivial⟩
  | [], _ :: _ => ⟨fun h => h.elim, fun h => by simp at h⟩
  | _ :: _, [] => ⟨fun h => h.elim, fun h => by simp at h⟩
  | m :: r, x :: v => by
    constructor
    · rintro ⟨h1, h2⟩
      obtain ⟨l, q⟩ := val_iff.mp h2
      refine ⟨congrArg Nat.succ l, fun j y n e1 e2 => ?_⟩
      cases j with
      | zero => cases e1; cases e2; exact h1
      | succ j => exact q j y n e1 e2
    · rintro ⟨l, q⟩
      exact ⟨q 0 x m rfl rfl, val_iff.mpr ⟨by simpa using l, fun j y n e1 e2 => q (j + 1) y n e1 e2⟩⟩
theorem dg_val : ∀ {ms : List Int}, OkM ms → ∀ p, Val ms (dg ms p)
  | [], _, _ => trivial
  | m :: r, h, p => ⟨⟨by omega, by have := h.hd; have := Nat.mod_lt (p / pr r) (show 0 < m.toNat by omega); omega⟩, dg_val h.tl p⟩
theorem psn_lt : ∀ {ms v : List Int}, Val ms v → psn ms v < pr ms
  | [], [], _ => Nat.one_pos
  | [], _ :: _, h => h.elim
  | _ :: _, [], h => h.elim
  | m :: r, x :: v, h => by
    have := psn_lt h.2
    show x.toNat * pr r + psn r v < m.toNat * pr r
    have h2 : (x.toNat + 1) * pr r ≤ m.toNat * pr r := Nat.mul_le_mul_right _ (by have := h.1; omega)
    rw [Nat.add_mul, Nat.one_mul] at h2
    omega
theorem dg_psn : ∀ {ms v : List Int}, OkM ms → Val ms v → dg ms (psn ms v) = v
  | [], [], _, _ => rfl
  | [], _ :: _, _, h => h.elim
  | _ :: _, [], _, h => h.elim
  | m :: r, x :: v, o, h => by
    have hr := pr_pos o.tl
    have lt := psn_lt h.2
    show (((x.toNat * pr r + psn r v) / pr r % m.toNat : Nat) : Int) :: dg r (x.toNat * pr r + psn r v) = x :: v
    rw [Nat.add_comm, Nat.add_mul_div_right _ _ hr, Nat.div_eq_of_lt lt, Nat.zero_add, Nat.mod_eq_of_lt (by have := h.1; omega), dg_mod o.tl, dg_psn o.tl h.2, Int.toNat_of_nonneg h.1.1]
theorem psn_dg : ∀ {ms : List Int}, OkM ms → ∀ {p : Nat}, p < pr ms → psn ms (dg ms p) = p
  | [], _, p, h => by have : p < 1 := h; show 0 = p; omega
  | m :: r, o, p, h => by
    have hr := pr_pos o.tl
    have h' : p < m.toNat * pr r := h
    show ((p / pr r % m.toNat : Nat) : Int).toNat * pr r + psn r (dg r p) = p
    have lt : p / pr r < m.toNat := (Nat.div_lt_iff_lt_mul hr).mpr h'
    have e : dg r p = dg r (p % pr r) := by
      have := dg_mod o.tl (p % pr r) (p / pr r)
      rw [Nat.mul_comm, Nat.mod_add_div] at this
      exact this
    rw [Int.toNat_natCast, Nat.mod_eq_of_lt lt, e, psn_dg o.tl (Nat.mod_lt _ hr), Nat.mul_comm]
    exact Nat.div_add_mod p (pr r)
/-- the values in ascending order -/
def VL (ms : List Int) : List (List Int) := (List.range (pr ms)).map (dg ms)
theorem VL_len (ms : List Int) : (VL ms).length = pr ms := by unfold VL; rw [List.length_map, List.length_range]
theorem VL_get {ms : List Int} {p : Nat} (h : p < pr ms) : (VL ms)[p]? = some (dg ms p) := by unfold VL; rw [List.getElem?_map, List.getElem?_range h]; rfl
theorem VL_mem {ms v : List Int} (o : OkM ms) : v ∈ VL ms ↔ Val ms v := by
  unfold VL
  constructor
  · intro h
    obtain ⟨p, _, rfl⟩ := List.mem_map.mp h
    exact dg_val o p
  · intro h
    exact List.mem_map.mpr ⟨psn ms v, List.mem_range.mpr (psn_lt h), dg_psn o h⟩
theorem VL_nd {ms : List Int} (o : OkM ms) : (VL ms).Nodup := by
  unfold VL
  rw [List.Nodup, List.pairwise_map]
  refine List.nodup_range.imp_of_mem fun {a b} ha hb n e => n ?_
  rw [← psn_dg o (List.mem_range.mp ha), ← psn_dg o (List.mem_range.mp hb), e]
theorem VL_idx {ms v : List Int} (o : OkM ms) (h : Val ms v) : (VL ms).idxOf v = psn ms v := by
  have lt := psn_lt h
  have l : psn ms v < (VL ms).length := by rw [VL_len]; exact lt
  have e : (VL ms)[psn ms v] = v := by
    have := VL_get lt
    rw [List.getElem?_eq_getElem l, dg_psn o h] at this
    exact Option.some.inj this
  have := (VL_nd o).idxOf_getElem (psn ms v) l
  rw [e] at this
  exact this
/-- part by part -/
def opV (f : Int → Int → Int) : List Int → List Int → List Int → List Int
  | m :: r, x :: a, y :: b => f x y % m :: opV f r a b
  | _, _, _ => []
theorem opV_val (f : Int → Int → Int) : ∀ {ms a b : List Int}, OkM ms → a.length = ms.length → b.length = ms.length → Val ms (opV f ms a b)
  | [], [], [], _, _, _ => trivial
  | m :: r, x :: a, y :: b, o, la, lb => ⟨⟨Int.emod_nonneg _ (by have := o.hd; omega), Int.emod_lt_of_pos _ (by have := o.hd; omega)⟩, opV_val f o.tl (by simpa using la) (by simpa using lb)⟩
  | [], _ :: _, _, _, h, _ => by simp at h
  | [], [], _ :: _, _, _, h => by simp at h
  | _ :: _, [], _, _, h, _ => by simp at h
  | _ :: _, _ :: _, [], _, _, h => by simp at h
theorem opV_get (f : Int → Int → Int) : ∀ {ms a b : List Int} {i : Nat} {m x y : Int}, ms[i]? = some m → a[i]? = some x → b[i]? = some y → (opV f ms a b)[i]? = some (f x y % m)
  | m :: r, x :: a, y :: b, 0, _, _, _, h1, h2, h3 => by cases h1; cases h2; cases h3; rfl
  | m :: r, x :: a, y :: b, i + 1, _, _, _, h1, h2, h3 => opV_get f (ms := r) (a := a) (b := b) (i := i) h1 h2 h3
  | [], _, _, _, _, _, _, h1, _, _ => by simp at h1
  | _ :: _, [], _, _, _, _, _, _, h2, _ => by simp at h2
  | _ :: _, _ :: _, [], _, _, _, _, _, _, h3 => by simp at h3
theorem opV_len (f : Int → Int → Int) : ∀ {ms a b : List Int}, a.length = ms.length → b.length = ms.length → (opV f ms a b).length = ms.length
  | [], [], [], _, _ => rfl
  | m :: r, x :: a, y :: b, la, lb => congrArg Nat.succ (opV_len f (by simpa using la) (by simpa using lb))
  | [], _ :: _, _, h, _ => by simp at h
  | [], [], _ :: _, _, h => by simp at h
  | _ :: _, [], _, h, _ => by simp at h
  | _ :: _, _ :: _, [], _, h => by simp at h
theorem opV_row {f : Int → Int → Int} {ms a b : List Int} (la : a.length = ms.length) (lb : b.length = ms.length) : (List.range ms.length).map (fun i => f (a.getD i 0) (b.getD i 0) % ms.getD i 0) = opV f ms a b := by
  refine List.ext_getElem? fun i => ?_
  rw [List.getElem?_map]
  by_cases c : i < ms.length
  · have h1 : ms[i]? = some ms[i] := List.getElem?_eq_getElem c
    have h2 : a[i]? = some (a[i]'(by omega)) := List.getElem?_eq_getElem (by omega)
    have h3 : b[i]? = some (b[i]'(by omega)) := List.getElem?_eq_getElem (by omega)
    rw [List.getElem?_range c, opV_get f h1 h2 h3]
    show some (f (a.getD i 0) (b.getD i 0) % ms.getD i 0) = _
    rw [getD_of h1, getD_of h2, getD_of h3]
  · rw [List.getElem?_eq_none (by simp; omega), List.getElem?_eq_none (by rw [opV_len f la lb]; omega)]; rfl
abbrev addV (ms a b : List Int) : List Int := opV (fun x y => x + y) ms a b
theorem addV_zero : ∀ {ms v : List Int}, OkM ms → Val ms v → addV ms (dg ms 0) v = v ∧ addV ms v (dg ms 0) = v
  | [], [], _, _ => ⟨rfl, rfl⟩
  | [], _ :: _, _, h => h.elim
  | _ :: _, [], _, h => h.elim
  | m :: r, x :: v, o, h => by
    obtain ⟨h1, h2⟩ := addV_zero o.tl h.2
    have z : ((0 / pr r % m.toNat : Nat) : Int) = 0 := by rw [Nat.zero_div, Nat.zero_mod]; rfl
    constructor
    · show (((0 / pr r % m.toNat : Nat) : Int) + x) % m :: addV r (dg r 0) v = x :: v
      rw [z, Int.zero_add, Int.emod_eq_of_lt h.1.1 h.1.2, h1]
    · show (x + ((0 / pr r % m.toNat : Nat) : Int)) % m :: addV r v (dg r 0) = x :: v
      rw [z, Int.add_zero, Int.emod_eq_of_lt h.1.1 h.1.2, h2]
theorem addV_assoc : ∀ {ms a b c : List Int}, Val ms a → Val ms b → Val ms c → addV ms (addV ms a b) c = addV ms a (addV ms b c)
  | [], [], [], [], _, _, _ => rfl
  | m :: r, x :: a, y :: b, z :: c, h1, h2, h3 => by
    show ((x + y) % m + z) % m :: addV r (addV r a b) c = (x + (y + z) % m) % m :: addV r a (addV r b c)
    rw [addV_assoc h1.2 h2.2 h3.2, Int.emod_add_emod, Int.add_emod_emod, Int.add_assoc]
  | [], _ :: _, _, _, h, _, _ => h.elim
  | [], [], _ :: _, _, _, h, _ => h.elim
  | [], [], [], _ :: _, _, _, h => h.elim
  | _ :: _, [], _, _, h, _, _ => h.elim
  | _ :: _, _ :: _, [], _, _, h, _ => h.elim
  | _ :: _, _ :: _, _ :: _, [], _, _, h => h.elim
theorem addV_can : ∀ {ms a b c : List Int}, OkM ms → Val ms a → Val ms b → Val ms c → addV ms a b = addV ms a c → b = c
  | [], [], [], [], _, _, _, _, _ => rfl
  | m :: r, x :: a, y :: b, z :: c, o, h1, h2, h3, e => by
    have e' : (x + y) % m :: addV r a b = (x + z) % m :: addV r a c := e
    obtain ⟨e1, e2⟩ := List.cons.inj e'
    have := addV_can o.tl h1.2 h2.2 h3.2 e2
    have yz : y = z := by
      have h := Int.emod_emod_of_dvd (x + y) (Int.dvd_refl m)
      have hy := h2.1
      have hz := h3.1
      have c1 : Cg m (x + y) (x + z) := Cg.of e1
      have c2 : Cg m y z := by
        have := c1.add (Cg.refl m (-x))
        rw [show x + y + -x = y by omega, show x + z + -x = z by omega] at this
        exact this
      have := c2.small hz.1 hz.2
      rw [Int.emod_eq_of_lt hy.1 hy.2] at this
      exact this
    rw [yz, this]
  | [], _ :: _, _, _, _, h, _, _, _ => h.elim
  | [], [], _ :: _, _, _, _, h, _, _ => h.elim
  | [], [], [], _ :: _, _, _, _, h, _ => h.elim
  | _ :: _, [], _, _, _, h, _, _, _ => h.elim
  | _ :: _, _ :: _, [], _, _, _, h, _, _ => h.elim
  | _ :: _, _ :: _, _ :: _, [], _, _, _, h, _ => h.elim
theorem tgtGrp {ms : List Int} (o : OkM ms) : Grp (tabOf (addV ms) (VL ms)) := by
  refine tabOf_grp (VL_nd o) (fun x hx y hy => ?_) (VL_get (pr_pos o)) (fun x hx => (addV_zero o ((VL_mem o).mp hx)).1) (fun x hx => (addV_zero o ((VL_mem o).mp hx)).2)
    (fun x hx y hy z hz => addV_assoc ((VL_mem o).mp hx) ((VL_mem o).mp hy) ((VL_mem o).mp hz)) (fun x hx y hy z hz => addV_can o ((VL_mem o).mp hx) ((VL_mem o).mp hy) ((VL_mem o).mp hz))
  exact (VL_mem o).mpr (opV_val _ o ((VL_mem o).mp hx).len ((VL_mem o).mp hy).len)
/-! ### the least common multiple -/
def lcF (ms : List Int) : Nat := ms.foldl (fun a m => Nat.lcm a m.toNat) 1
theorem lcF_take {ms : List Int} {i : Nat} {m : Int} (h : ms[i]? = some m) : lcF (ms.take (i + 1)) = Nat.lcm (lcF (ms.take i)) m.toNat := by
  unfold lcF
  rw [List.take_add_one, h, List.foldl_append]; rfl
theorem lcF_snoc (l : List Int) (m : Int) : lcF (l ++ [m]) = Nat.lcm (lcF l) m.toNat := by unfold lcF; rw [List.foldl_append]; rfl
theorem lcm_le (a b : Nat) : Nat.lcm a b ≤ a * b := by
  by_cases z : a * b = 0
  · rcases Nat.mul_eq_zero.mp z with z | z
    · rw [z, Nat.lcm_zero_left]; exact Nat.zero_le _
    · rw [z, Nat.lcm_zero_right]; exact Nat.zero_le _
  · exact Nat.le_of_dvd (Nat.pos_of_ne_zero z) (Nat.lcm_dvd (Nat.dvd_mul_right _ _) (Nat.dvd_mul_left _ _))
theorem lcF_pr {ms : List Int} : ∀ i, i ≤ ms.length → lcF (ms.take i) ≤ pr (ms.take i)
  | 0, _ => by rw [List.take_zero]; exact Nat.le_refl 1
  | i + 1, h => by
    have hm : ms[i]? = some ms[i] := List.getElem?_eq_getElem (by omega)
    rw [lcF_take hm, pr_take hm]
    exact Nat.le_trans (lcm_le _ _) (Nat.mul_le_mul_right _ (lcF_pr i (by omega)))
theorem lcF_pos {ms : List Int} (o : OkM ms) : ∀ i, i ≤ ms.length → 0 < lcF (ms.take i)
  | 0, _ => by rw [List.take_zero]; exact Nat.one_pos
  | i + 1, h => by
    have hm : ms[i]? = some ms[i] := List.getElem?_eq_getElem (by omega)
    rw [lcF_take hm]
    exact Nat.lcm_pos (lcF_pos o i (by omega)) (by have := o _ (List.getElem_mem (by omega : i < ms.length)); omega)
theorem pr_bound {ms : List Int} {B : Nat} (h : ∀ m ∈ ms, m.toNat ≤ 2 ^ B) : ∀ i, i ≤ ms.length → pr (ms.take i) ≤ 2 ^ (B * i)
  | 0, _ => by rw [List.take_zero]; exact Nat.le_refl 1
  | i + 1, hi => by
    have hm : ms[i]? = some ms[i] := List.getElem?_eq_getElem (by omega)
    rw [pr_take hm, Nat.mul_succ, Nat.pow_add]
    exact Nat.mul_le_mul (pr_bound h i (by omega)) (h _ (List.getElem_mem (by omega)))
theorem pr_take_le {ms : List Int} (o : OkM ms) (i : Nat) : pr (ms.take i) ≤ pr ms := by
  have h := pr_append (ms.take i) (ms.drop i)
  rw [List.take_append_drop] at h
  rw [h]
  exact Nat.le_mul_of_pos_right _ (pr_pos fun m hm => o m (List.mem_of_mem_drop hm))
/-- a prefix is worth the value's quotient -/
theorem psn_take {ms : List Int} (o : OkM ms) : ∀ {v : List Int}, Val ms v → ∀ {i : Nat} {m x : Int}, ms[i]? = some m → v[i]? = some x → psn (ms.take (i + 1)) (v.take (i + 1)) = psn (ms.take i) (v.take i) * m.toNat + x.toNat := by
  intro v hv
  induction ms generalizing v with
  | nil => intro i m x h; simp at h
  | cons k r ih =>
    match v, hv with
    | y :: v, hv =>
      intro i m x h1 h2
      cases i with
      | zero =>
        cases h1
        cases h2
        show y.toNat * pr ([] : List Int) + psn [] [] = 0 * _ + y.toNat
        show y.toNat * 1 + 0 = _
        omega
      | succ i =>
        have q := ih o.tl hv.2 (i := i) h1 h2
        show y.toNat * pr (r.take (i + 1)) + psn (r.take (i + 1)) (v.take (i + 1)) = (y.toNat * pr (r.take i) + psn (r.take i) (v.take i)) * m.toNat + x.toNat
        rw [q, pr_take (show r[i]? = some m from h1), Nat.add_mul, Nat.mul_assoc, Nat.add_assoc]
/-- the digits from the end -/
theorem dg_drop {ms : List Int} {i p : Nat} {m : Int} (h : ms[i]? = some m) : dg (ms.drop i) p = ((p / pr (ms.drop (i + 1)) % m.toNat : Nat) : Int) :: dg (ms.drop (i + 1)) p ∧ pr (ms.drop i) = m.toNat * pr (ms.drop (i + 1)) := by
  obtain ⟨hi, e⟩ := List.getElem?_eq_some_iff.mp h
  rw [List.drop_eq_getElem_cons hi, e]
  exact ⟨rfl, rfl⟩
end GT

set_option Elab.async false
set_option linter.all false
set_option maxRecDepth 100000
set_option maxHeartbeats 2000000
/-! comprehensions of tables; indices in lists of tuples -/
namespace GT
open PySem L2 Rd
theorem dpRowsP {K : PySem.W.Frag} {H : Hp} : ∀ {rs : List PySem.Addr} {t : List (List Int)}, Rows (fun H a xs => H a = some (.tup xs)) H rs t → DpAll K H (rs.map V.ref) (t.map iT)
  | [], [], _ => .nil
  | [], _ :: _, R => absurd R.len (by simp)
  | _ :: _, [], R => absurd R.len (by simp)
  | a :: rs, r :: t, R => .cons (dpT (SqT.of (R.row 0 a r rfl rfl))) (dpRowsP ⟨by have := R.len; simpa using this, fun i b q h1 h2 => R.row (i + 1) b q h1 h2⟩)
theorem lT_shaped (t : List (List Int)) : SeqAt.shaped (.list (t.map iT)) = true := by
  have h := depTT t
  show (PyData.canLay0 (.list (t.map iT)) && decide (PyData.depth (.list (t.map iT)) ≤ 64)) = true
  rw [Bool.and_eq_true]
  refine ⟨by simp only [PyData.canLay0]; exact layTT t, decide_eq_true ?_⟩
  simp only [PyData.depth]; omega
theorem indexLT {K : PySem.W.Frag} {H : Hp} {Q : VK} {a p : PySem.Addr} {rs : List PySem.Addr} {t : List (List Int)} {d : List Int} (hd : SqT K H a (d.map V.int)) (hp : H p = some (.lst (rs.map V.ref))) (R : Rows (fun H a xs => H a = some (.tup xs)) H rs t) (m : d ∈ t) (h : Q (.int (t.idxOf d : Nat)) H) : rIndexD K (.ref p) [.ref a] H Q := by
  have h1 : t.idxOf d < t.length := List.idxOf_lt_length_of_mem m
  refine ⟨p, .ref a, iT d, t.map iT, t.idxOf d, iT d, rfl, rfl, .lst (SqL.of hp) (dpRowsP R), dpT hd, lT_shaped t, iT_shaped d, ?_, by rw [iT_eqv]; exact decide_eq_true rfl, fun n z' hn hz => ?_, h⟩
  · rw [List.getElem?_map, List.getElem?_eq_getElem h1, List.getElem_idxOf h1]; rfl
  · have hn2 : n < t.length := by omega
    rw [List.getElem?_map, List.getElem?_eq_getElem hn2] at hz
    cases hz
    rw [iT_eqv]
    refine decide_eq_false fun e => ?_
    have := List.not_of_lt_findIdx (p := fun x => x == d) (xs := t) (i := n) hn
    rw [e] at this
    simp at this
section
variable {J : It} {xs : List V} {j : Nat} {te : TE} {vs : List Nat} {σ : L2.St} {H : Hp} {Qd : Addr → Hp → Prop}
/-- each element is a new list of new lists of ints -/
theorem lcTab (t : Nat → List (List Int)) (S : Src J xs H) (hz : xs.length ≤ 100000) (hw : ∀ x : V, wipe ((wipe σ vs).set j (some x)) vs = wipe σ vs)
    (hs : ∀ (n : Nat) (x : V) (H1 : Hp) (Q1 : VK), xs[n]? = some x → Same H H1 → (∀ (p : Addr) (as : List Addr) (H2 : Hp), H1 p = none → Same H1 H2 → H2 p = some (.lst (as.map V.ref)) → Rows LstN H2 as (t n) → (∀ a ∈ as, H1 a = none) → Q1 (.ref p) H2) → te ((wipe σ vs).set j (some x)) H1 Q1)
    (hq : ∀ (p : Addr) (as : List Addr) (H1 : Hp), H p = none → Same H H1 → H1 p = some (.lst (as.map V.ref)) → as.length = xs.length → (∀ (n : Nat) (a : Addr), as[n]? = some a → ∃ rs : List Addr, H1 a = some (.lst (rs.map V.ref)) ∧ Rows LstN H1 rs (t n)) → Qd p H1)
    (D : Addr) (hD : H D = none) :
    ∃ W : Nat → Nat → Hp → Prop, (∃ m, W 0 m (upd H D (.lst []))) ∧ ∀ i m H, W i m H →
      (J.stop i H ∧ Qd D H) ∨ (J.go i H ∧ ∃ Nx : Hp → Prop, (∀ H', Nx H' → ∃ m', m' < m ∧ W (i + 1) m' H') ∧ ∀ x H', J.yld i H x H' → gName j x (wipe σ vs) H' fun σ2 H2 => wipe σ2 vs = wipe σ vs ∧ tYes σ2 H2 fun b H3 =>
        if b = true then te σ2 H3 fun y H4 => ∃ acc, H4 D = some (.lst
              acc) ∧ acc.length < sizeLine ∧ Nx (upd H4 D (.lst (acc ++ [y]))) else Nx H3) := by
  refine ⟨fun i m H1 => m = xs.length - i ∧ i ≤ xs.length ∧ ∃ as : List Addr, as.length = i ∧ Same H H1 ∧ H1 D = some (.lst (as.map V.ref)) ∧ (∀ (n : Nat) (a : Addr), as[n]? = some a → a ≠ D ∧ ∃ rs : List Addr, H1 a = some (.lst (rs.map V.ref)) ∧ Rows LstN H1 rs (t n) ∧ ∀ r ∈ rs, r ≠ D),
    ⟨xs.length, rfl, Nat.zero_le _, [], rfl, same_mk hD, upd_same, fun n a h => by simp at h⟩, ?_⟩
  rintro i m H1 ⟨rfl, hi, as, rfl, e, hacc, ho⟩
  by_cases c : as.length < xs.length
  · refine .inr ⟨S.go H1 _ e c, fun H' => ∃ as' : List Addr, as'.length = as.length + 1 ∧ Same H H' ∧ H' D = some (.lst (as'.map V.ref)) ∧ (∀ (n : Nat) (a : Addr), as'[n]? = some a → a ≠ D ∧ ∃ rs : List Addr, H' a = some (.lst (rs.map V.ref)) ∧ Rows LstN H' rs (t n) ∧ ∀ r ∈ rs, r ≠ D),
      fun H' z => ⟨xs.length - (as.length + 1), by omega, rfl, c, z⟩, fun x H' y => ?_⟩
    obtain ⟨rfl, hx⟩ := S.yld H1 _ x H' e y
    refine ⟨hw x, ?_⟩
    refine tyes (iteT ?_)
    refine hs as.length x H' _ (hx c) e fun p rs H2 hp s2 h2 R hf => ?_
    have npD : p ≠ D := fun z => by rw [z, hacc] at hp; cases hp
    have nrD : ∀ r ∈ rs, r ≠ D := fun r hr z => by have := hf r hr; rw [z, hacc] at this; cases this
    have keep : ∀ {qs : List Addr} {u : List (List Int)} {o : HO}, Rows LstN H2 qs u → (∀ r ∈ qs, r ≠ D) → Rows LstN (upd H2 D o) qs u := fun {qs u o} R h => ⟨R.len, fun i a r h1 h2 => by
      have := R.row i a r h1 h2
      unfold LstN at this ⊢
      rw [upd_ne (h a (List.mem_of_getElem? h1))]
      exact this⟩
    refine ⟨_, s2 _ _ hacc, ?_, as ++ [p], by simp, same_mut (Same.trans e s2) hD, by rw [upd_same, List.map_append]; rfl, fun n a hn => ?_⟩
    · rw [List.length_map]
      exact Nat.lt_of_lt_of_le (by omega : as.length < 100000) (by decide)
    · by_cases q : n < as.length
      · rw [List.getElem?_append_left q] at hn
        obtain ⟨a3, rs', a1, R', nr⟩ := ho n a hn
        exact ⟨a3, rs', by rw [upd_ne a3]; exact s2 _ _ a1, keep (R'.sameL s2) nr, nr⟩
      · rw [List.getElem?_append_right (by omega)] at hn
        have q0 : n - as.length = 0 := by
          apply Classical.byContradiction
          intro z
          rw [List.getElem?_eq_none (by simp; omega)] at hn
          cases hn
        rw [q0] at hn
        cases hn
        have q1 : n = as.length := by omega
        rw [q1]
        exact ⟨npD, rs, by rw [upd_ne npD]; exact h2, keep R nrD, nrD⟩
  · have e1 : as.length = xs.length := by omega
    refine .inl ⟨?_, hq D as H1 hD e hacc e1 fun n a h => ?_⟩
    · rw [e1]; exact S.stop H1 e
    · obtain ⟨_, rs, h1, h2, _⟩ := ho n a h
      exact ⟨rs, h1, h2⟩
end
end GT

set_option Elab.async false
set_option linter.all false
set_option maxRecDepth 100000
set_option maxHeartbeats 2000000
/-! a method called where an except clause reads the slots -/
namespace Rd
open PySem PySem.Spec PyProof.Rows L2
section
variable {X : Cx} {x m : Str} {p pos apos : Pos} {e o : Expr} {es : List Expr} {ts : TA} {ta : TE} {k : Nat} {ps : List Str} {sp : Sp} {C f : Addr} {fd : FuncData}
/-- what a callee lets out, at these slots -/
def PassesAt (X : Cx) (E : L2.St → XK) : Prop := ∀ (pins : List (Addr × Obj)) (σ : L2.St) (H : Hp) (s : Shared) (e : Value) (s' : Shared), Inv X pins σ H s → L2.CX X.prog X.w X.stack H s (E σ) e s' → X.xe e s'
theorem passS {W : WX} (tk : Takes X W) : PassesAt X (fun σ cls d H' => W cls d σ H') := fun _ σ _ _ e s' I c => tk e s' (XE.of_call I (fun _ _ _ h => h) c)
theorem run_fnS {E : L2.St → XK} {pins : List (Addr × Obj)} {σ : L2.St} {H : Hp} {s : Shared} {Q : VK} {us : List Value} {vs : List V} (F : FnOk X.prog X.w X.K X.mg X.base (L2.CX X.prog X.w) k f fd ps sp) (hr : Room k X.A) (hb : Binds X.K fd ps []) (hx : PassesAt X E)
    (I : Inv X pins σ H s) (r : Vals vs us) (h : sp vs H Q (E σ)) : wpAny (model X.prog X.w) X.A (PySem.call (.ref f) us) (EP X pins σ Q) X.xe s := by
  have hl : us.length = ps.length := by rw [← r.length]; exact F.len _ _ _ _ h
  have b := hb s us I.kIn (by rw [List.append_nil]; exact hl)
  rw [List.append_nil] at b
  refine wpAny_call (codeAny_mono (F.run X.A X.stack s H ⟨us, []⟩ us vs Q (E σ) hr I.env0 b r h) fun r s' hq => ?_)
  cases r with
  | error e => exact hx pins σ H s e s' I hq
  | ok fl =>
    cases fl with
    | ret u => exact I.after hq
    | next => exact False.elim hq
    | brk => exact False.elim hq
    | cont => exact False.elim hq
theorem methS {E : L2.St → XK} {pl : Sem Bool} (M : MOk X.prog X.w X.K X.mg X.base (L2.CX X.prog X.w) C m k ps sp) (hr : Room k X.A) (hx : PassesAt X E) (he : PE X o ta) (ha : PA X (e :: es) ts)
    (hst : starEach (e :: es) X.env = (false, eval e X.env) :: starEach es X.env := by rfl) (hpl : (backTo pos (starEach es X.env)).any (·.1) = false := by rfl)
    (ht : eval (.Call (.Attribute o m apos) (e :: es) [] pos) X.env = (do
      let ov ← eval o X.env
      standAt apos.atName
      let (f, first) ← holding [ov] (getMethod ov m pl)
      callWith pos f first (backTo pos (starEach (e :: es) X.env)) (backToKw pos (keywordEach [] X.env))) := by rfl) :
    PE X (.Call (.Attribute o m apos) (e :: es) [] pos) (fun σ H Q => tMeth C m sp [] (E σ) ta ts σ H Q) := by
  obtain ⟨f, fd, hm, F, hb⟩ := M.ok
  refine ⟨fun pins s σ H Q I h => ?_⟩
  refine PySem.W.methodCall_KW (pl := pl) (thn (he.run pins s σ H _ I h) fun u s1 ⟨x, H1, I1, rx, a, dx, fs, ex, ea, l, q⟩ => ?_) ht
  subst ex
  obtain rfl : u = Value.ref a := rx
  refine getmeth_ok I1 ea M.cl hm l ?_
  refine PySem.W.callWith_K (first := [.ref a]) (h₀ := X.base) I.ok.mod.kin hm.kp (thn (ha.run pos pins s1 σ H1 _ I1 q) fun us s2 ⟨vs, H2, I2, r, q2⟩ => ⟨I2.kIn, ?_⟩) hst hpl
  have q2 : sp (V.ref a :: (vs ++ [])) H2 Q (E σ) := q2
  rw [List.append_nil] at q2
  exact run_fnS (us := .ref a :: us) (vs := .ref a :: vs) F hr hb hx I2 (.cons rfl r) q2
end
end Rd

set_option Elab.async false
set_option linter.all false
set_option maxRecDepth 100000
set_option maxHeartbeats 4000000
namespace K02
open PySem L2 Rd GT
def top (i : Nat) : Stmt := PySem.Challenge.pw_stepsvanish_k02_targets_let_by.main.body.getD i (.Pass ⟨0, 0, 0, 0⟩)
local macro_rules | `(tactic| walk_at "st1") => `(tactic| with_reducible first
  | refine' Rd.seq ?_ | refine' Rd.nxt ?_ | refine' Rd.asg ?_ | refine' Rd.nm ?_ | refine' Rd.con ?_ | refine' Rd.op ?_ | refine' Rd.i0 ?_ | refine' Rd.un ?_ | refine' Rd.u0 ?_
  | refine' Rd.eqI ?_ | refine' Rd.neI ?_ | refine' Rd.eqB ?_ | refine' Rd.tst ?_ | refine' Rd.tB_ ?_ | refine' Rd.exb ?_ | refine' Rd.ifS ?_ | refine' Rd.ret ?_ | refine' Rd.retN ?_ | refine' Rd.drop ?_
  | refine' Rd.nil ?_ | refine' Rd.cons ?_ | refine' Rd.cb ?_ | refine' Rd.call ?_ | refine' Rd.callN ?_ | refine' Rd.z2 ?_ | refine' Rd.z3 ?_ | refine' Rd.revA ?_ | refine' Rd.revL ?_ | refine' Rd.star ?_ | refine' Rd.lc2 ?_ | refine' Rd.andT ?_ | refine' Rd.orT ?_ | refine' Rd.notT ?_ | refine' Rd.andV ?_ | refine' Rd.orV ?_ | refine' Rd.notV ?_ | refine' Rd.chain ?_
  | refine' Rd.lst ?_ | refine' Rd.tup ?_ | refine' Rd.for_ ?_ | refine' Rd.rng1 ?_ | refine' Rd.rng2 ?_ | refine' Rd.itl ?_ | refine' Rd.itt ?_ | refine' Rd.sub ?_
  | refine' Rd.lrg ?_ | refine' Rd.rg1 ?_ | refine' Rd.rg2 ?_ | refine' Rd.exi ?_ | refine' Rd.exi2 ?_ | refine' Rd.int1 ?_ | refine' Rd.ex1 ?_ | refine' Rd.ex2 ?_
  | refine' Rd.fld ?_ | refine' Rd.sfld ?_ | refine' Rd.meth ?_ | refine' Rd.make ?_ | refine' Rd.lc ?_ | refine' Rd.bm ?_ | refine' Rd.bm0 ?_ | refine' Rd.bt ?_ | refine' Rd.enT ?_ | refine' Rd.enL ?_)
local macro_rules | `(tactic| walk_at "st") => `(tactic| repeat (first | walk_at "st1" | ((with_reducible refine' Rd.var ?hv ?_); (case hv => rfl))))
local macro_rules | `(tactic| walk_at "sj1") => `(tactic| with_reducible first
  | refine' Rd.seqA ?_ | refine' Rd.seqD ?_ | refine' Rd.seqF ?_ | refine' Rd.seqW ?_ | refine' Rd.nxt ?_ | refine' Rd.asg ?_ | refine' Rd.nm ?_ | refine' Rd.con ?_ | refine' Rd.op ?_ | refine' Rd.i0 ?_ | refine' Rd.un ?_ | refine' Rd.u0 ?_
  | refine' Rd.eqI ?_ | refine' Rd.neI ?_ | refine' Rd.eqB ?_ | refine' Rd.tst ?_ | refine' Rd.tB_ ?_ | refine' Rd.exb ?_ | refine' Rd.ifS ?_ | refine' Rd.ret ?_ | refine' Rd.retN ?_ | refine' Rd.drop ?_
  | refine' Rd.nil ?_ | refine' Rd.cons ?_ | refine' Rd.cb ?_ | refine' Rd.call ?_ | refine' Rd.callN ?_ | refine' Rd.z2 ?_ | refine' Rd.z3 ?_ | refine' Rd.revA ?_ | refine' Rd.revL ?_ | refine' Rd.star ?_ | refine' Rd.lc2 ?_ | refine' Rd.andT ?_ | refine' Rd.orT ?_ | refine' Rd.notT ?_ | refine' Rd.andV ?_ | refine' Rd.orV ?_ | refine' Rd.notV ?_ | refine' Rd.chain ?_
  | refine' Rd.lst ?_ | refine' Rd.tup ?_ | refine' Rd.for_ ?_ | refine' Rd.rng1 ?_ | refine' Rd.rng2 ?_ | refine' Rd.itl ?_ | refine' Rd.itt ?_ | refine' Rd.sub ?_
  | refine' Rd.lrg ?_ | refine' Rd.rg1 ?_ | refine' Rd.rg2 ?_ | refine' Rd.exi ?_ | refine' Rd.exi2 ?_ | refine' Rd.int1 ?_ | refine' Rd.ex1 ?_ | refine' Rd.ex2 ?_
  | refine' Rd.fld ?_ | refine' Rd.sfld ?_ | refine' Rd.meth ?_ | refine' Rd.make ?_ | refine' Rd.lc ?_ | refine' Rd.bm ?_ | refine' Rd.bm0 ?_ | refine' Rd.bt ?_ | refine' Rd.enT ?_ | refine' Rd.enL ?_)
local macro_rules | `(tactic| walk_at "sj") => `(tactic| repeat (first | walk_at "sj1" | ((with_reducible refine' Rd.var ?hv ?_); (case hv => rfl))))
structure Txt (K : PySem.W.Frag) (mg : Str → Option Value) : Prop where
  len : mg "len" = none
  tuple : mg "tuple" = none
  list : mg "list" = none
  range : mg "range" = none
  all : mg "all" = none
  enumerate : mg "enumerate" = none
  int : mg "int" = none
  bool : mg "bool" = none
  abs : mg "abs" = none
  isinstance : mg "isinstance" = none
  str : mg "str" = none
  dict : mg "dict" = none
  zip : mg "zip" = none
  reversed : mg "reversed" = none
  min : mg "min" = none
  ValueError : mg "ValueError" = none
  LIMIT : ∃ t, mg "LIMIT" = some (.int 32 t)
  ex_LimitExceeded : ExF K mg "LimitExceeded" (He.ga K "LimitExceeded")
  ex_InvalidGroup : ExF K mg "InvalidGroup" (He.ga K "InvalidGroup")
  ex_InvalidElement : ExF K mg "InvalidElement" (He.ga K "InvalidElement")
  ex_InvalidTarget : ExF K mg "InvalidTarget" (He.ga K "InvalidTarget")
  ex_InvalidValue : ExF K mg "InvalidValue" (He.ga K "InvalidValue")
  ex_InvalidIndex : ExF K mg "InvalidIndex" (He.ga K "InvalidIndex")
  ex_StepError : ExF K mg "StepError" (He.ga K "StepError")
  cl : Cls K (He.ga K "Group")
  nO : NoAttr K (He.ga K "Group") "order"
  nR : NoAttr K (He.ga K "Group") "rows"
  nI : NoAttr K (He.ga K "Group") "inverses"
  lcm : mg "lcm" = some (.builtin "math.lcm")
  tcl : Cls K (He.ga K "Target")
  tM : NoAttr K (He.ga K "Target") "moduli"
  tO : NoAttr K (He.ga K "Target") "order"
  tE : NoAttr K (He.ga K "Target") "exponent"
  tZ : NoAttr K (He.ga K "Target") "zero"
/-! ### the checks of Group.__init__ -/
def sp_shape : Sp := fun vs H Q _ => ∃ (R : Addr) (rs : List Addr) (t : List (List Int)), vs = [.ref R] ∧ TupN H R (rs.map V.ref) ∧ Rows TupN H rs t ∧ t.length ≤ 32 ∧ ∀ (b : Bool) (H' : Hp), (b = true ↔ Sq t) → Same H H' → Q (.bl b) H'
def sp_idn : Sp := fun vs H Q _ => ∃ (R : Addr) (rs : List Addr) (t : List (List Int)), vs = [.ref R] ∧ TupN H R (rs.map V.ref) ∧ Rows TupN H rs t ∧ t.length ≤ 32 ∧ Sq t ∧ ∀ (b : Bool) (H' : Hp), (b = true ↔ Idn t) → Same H H' → Q (.bl b) H'
def sp_invs : Sp := fun vs H Q _ => ∃ (R : Addr) (rs : List Addr) (t : List (List Int)), vs = [.ref R] ∧ TupN H R (rs.map V.ref) ∧ Rows TupN H rs t ∧ t.length ≤ 32 ∧ ∀ (b : Bool) (H' : Hp), (b = true ↔ GT.Inv t) → Same H H' → Q (.bl b) H'
def sp_asc : Sp := fun vs H Q _ => ∃ (R : Addr) (rs : List Addr) (t : List (List Int)), vs = [.ref R] ∧ TupN H R (rs.map V.ref) ∧ Rows TupN H rs t ∧ t.length ≤ 32 ∧ Sq t ∧ ∀ (b : Bool) (H' : Hp), (b = true ↔ Asc t) → Same H H' → Q (.bl b) H'
section
variable {P : Program} {w : World} {K : PySem.W.Frag} {mg : Str → Option Value} {base : Heap} {f : Addr} {fd : FuncData}
abbrev s__has_shape : Stmt := (top 13)
theorem sc__has_shape : FnScope ["rows", "order", "row", "entry"] ["rows"] (defScope s__has_shape) := ⟨rfl, rfl, rfl, by decide +kernel, rfl, by decide +kernel, by decide +kernel⟩
theorem ok_shape (F : FnP K "_has_shape" "_has_shape" s__has_shape f fd) (T : Txt K mg) : FnOk P w K mg base CX0 1 f fd ["rows"] sp_shape := by
  refine F.ok sc__has_shape (fun vs H Q E h => ?_) (fun cdv A outer s H vs Q E hr h => ?_)
  · obtain ⟨_, _, _, rfl, _⟩ := h; rfl
  obtain ⟨R, rs, t, rfl, hR, rw_, h32, k⟩ := h
  refine ⟨_, PSs.nox (pss_cons (ps_set (i := 1) sc__has_shape.nd rfl (Or.inr rfl) (pe_callB (Rk.len K) rfl T.len PySem.boot_len (pa_cons (pv 0) pa_nil)))
  (pss_cons (ps_if (pt_cmpR op_eq (pv 1) pe_int (nomark _))
  (pss_one (ps_ret pe_bl))
  pss_nil)
  (pss_cons (ps_for PassesOwn.never rfl (Rk.pt K rfl (pv 0)) (pg_name (i := 2) sc__has_shape.nd rfl (Or.inl rfl))
  (pss_one (ps_if (PW.pt (pw_or (pt_cmpR op_ne (pe_callB (Rk.len K) rfl T.len PySem.boot_len (pa_cons (pv 2) pa_nil)) (pv 1) (nomark _)) (pw_or1 (pt_not (pt_val (pe_callB (Rk.all K rfl rfl) rfl T.all (by decide +kernel) (pa_cons (pe_lc (own := [("entry", 3)]) rfl sc__has_shape.nd (Rk.pt K rfl (pv 2)) (blkOk_by (own := [("entry", 3)]) (N := ["rows", "order", "row", "entry"]) (sc := defScope s__has_shape) (by decide +kernel)) (fun _ _ _ _ _ => (pg_name (i := 3) sc__has_shape.nd rfl (Or.inl rfl))) (fun _ _ _ _ _ => pts_nil) (fun _ _ _ _ _ => (pe_chain op_le op_lt pe_int (pv 3) (pv 1)))) pa_nil)))))))
  (pss_one (ps_ret pe_bl))
  pss_nil)))
  (pss_one (ps_ret pe_bl))))), ?_⟩
  have hl : (rs.map V.ref).length = t.length := by rw [List.length_map, rw_.len]
  walk_at "st"
  refine Rd.len1 (.inr (hR.sq)) ?_
  walk_at "st"
  refine Rd.ite_d (fun c => ?_) (fun c => ?_)
  · walk_at "st"
    exact k false H (by simp; intro S; have := S.pos; omega) (Same.refl _)
  walk_at "st"
  refine Rd.itt' (hR.sq) ?_
  refine for_tup (K := K) (a := R) (xs := rs.map V.ref) (fun i σ H' => ∃ (v : Option V), σ = [some (.ref R), some (.int (t.length : Int)), v, none] ∧ Same H H' ∧ ∀ j r, j < i → t[j]? = some r → r.length = t.length ∧ ∀ e ∈ r, 0 ≤ e ∧ e < (t.length : Int))
    ⟨none, by rw [← hl]; rfl, Same.refl _, fun j r h => by omega⟩ (fun i σ H' _ ⟨_, _, e, _⟩ => Rd.same_t e (hR.sq)) ?_ ?_
  · rintro i x σ H' hx ⟨v, rfl, e, sf⟩
    obtain ⟨a, r, rfl, h1, h2, h3⟩ := rw_.at hx
    have h4 := h3.same e
    walk_at "st"
    refine Rd.len1 (.inr (h4.sq)) ?_
    walk_at "st"
    rw [List.length_map]
    refine Rd.ite_n (fun c => ?_) (fun c => ?_)
    · refine iteT ?_
      walk_at "st"
      refine k false H' ?_ e
      simp
      intro S
      have := (S.row r (List.mem_of_getElem? h2)).1
      omega
    walk_at "st"
    refine Rd.itt' (h4.sq) ?_
    refine Rd.lcMap (fun n => .bl (decide (0 ≤ r.getD n 0) && decide (r.getD n 0 < (t.length : Int)))) (Rd.src_tup (h4.sq)) (by rw [List.length_map]; omega) (by intro _; rfl) (fun n y H1 Q1 hy e1 q1 => ?_) (fun p H1 hp e1 h5 => ?_)
    · obtain ⟨z, hz, rfl⟩ := intAt hy
      rw [getD_of hz] at q1
      walk_at "st"
      refine Rd.ite_d (fun c1 => ?_) (fun c1 => ?_)
      · walk_at "st"
        rw [decide_eq_true c1, Bool.true_and] at q1
        exact q1 _ (Same.refl _)
      · rw [decide_eq_false c1, Bool.false_and] at q1
        exact q1 _ (Same.refl _)
    · walk_at "st"
      refine ⟨p, _, rfl, SqL.of (by rw [h5, map_bl]), ?_⟩
      walk_at "st"
      refine Rd.ite_nb (fun c2 => ?_) (fun c2 => ?_)
      · walk_at "st"
        refine k false H1 ?_ (Same.trans e e1)
        simp
        intro S
        have hS := S.row r (List.mem_of_getElem? h2)
        have : ((List.range (r.map V.int).length).map fun n => (decide (0 ≤ r.getD n 0) && decide (r.getD n 0 < (t.length : Int)))).all id = true := by
          rw [all_id]
          intro n hn
          rw [List.length_map] at hn
          have hm : r.getD n 0 = r[n] := getD_of (List.getElem?_eq_getElem hn)
          obtain ⟨q1, q2⟩ := hS.2 r[n] (List.getElem_mem hn)
          rw [hm, decide_eq_true q1, decide_eq_true q2]; rfl
        rw [this] at c2; cases c2
      · walk_at "st"
        refine ⟨_, rfl, Same.trans e e1, fun j r' hj hr' => ?_⟩
        by_cases q : j < i
        · exact sf j r' q hr'
        · have ej : j = i := by omega
          rw [ej, h2] at hr'
          cases hr'
          refine ⟨by omega, fun z hz => ?_⟩
          obtain ⟨n, hn, rfl⟩ := List.getElem_of_mem hz
          rw [all_id] at c2
          have := c2 n (by rw [List.length_map]; exact hn)
          rw [getD_of (List.getElem?_eq_getElem hn), Bool.and_eq_true] at this
          exact ⟨of_decide_eq_true this.1, of_decide_eq_true this.2⟩
  · rintro σ H' ⟨v, rfl, e, sf⟩
    walk_at "st"
    refine k true H' ?_ e
    simp
    refine ⟨by omega, fun r hr => ?_⟩
    obtain ⟨j, hj, rfl⟩ := List.getElem_of_mem hr
    exact sf j _ (by omega) (List.getElem?_eq_getElem hj)
end
section
variable {P : Program} {w : World} {K : PySem.W.Frag} {mg : Str → Option Value} {base : Heap} {f : Addr} {fd : FuncData}
abbrev s__has_identity : Stmt := (top 14)
theorem sc__has_identity : FnScope ["rows", "order", "plain", "row"] ["rows"] (defScope s__has_identity) := ⟨rfl, rfl, rfl, by decide +kernel, rfl, by decide +kernel, by decide +kernel⟩
theorem ok_idn (F : FnP K "_has_identity" "_has_identity" s__has_identity f fd) (T : Txt K mg) : FnOk P w K mg base CX0 1 f fd ["rows"] sp_idn := by
  refine F.ok sc__has_identity (fun vs H Q E h => ?_) (fun cdv A outer s H vs Q E hr h => ?_)
  · obtain ⟨_, _, _, rfl, _⟩ := h; rfl
  obtain ⟨R, rs, t, rfl, hR, rw_, h32, S, k⟩ := h
  refine ⟨_, PSs.nox (pss_cons (ps_set (i := 1) sc__has_identity.nd rfl (Or.inl rfl) (pe_callB (Rk.len K) rfl T.len PySem.boot_len (pa_cons (pv 0) pa_nil)))
  (pss_cons (ps_set (i := 2) sc__has_identity.nd rfl (Or.inl rfl) (pe_listRg rfl rfl T.list (prg_1 rfl T.range (pv 1))))
  (pss_one (ps_ret (pe_and (pe_cmpR (Rk.eqD K rfl (un64 hr)) (pe_callTy (Rk.lis K) rfl T.list (by decide +kernel) (pa_cons (pe_ix (Rk.ixT K) (pv 0) pe_int (fun _ _ => rfl)) pa_nil)) (pv 2) (nomark _)) (pe_one (pe_cmpR (Rk.eqD K rfl (un64 hr)) (pe_lc (own := [("row", 3)]) rfl sc__has_identity.nd (Rk.pt K rfl (pv 0)) (blkOk_by (own := [("row", 3)]) (N := ["rows", "order", "plain", "row"]) (sc := defScope s__has_identity) (by decide +kernel)) (fun _ _ _ _ _ => (pg_name (i := 3) sc__has_identity.nd rfl (Or.inl rfl))) (fun _ _ _ _ _ => pts_nil) (fun _ _ _ _ _ => (pe_ix (Rk.ixT K) (pv 3) pe_int (fun _ _ => rfl)))) (pv 2) (nomark _)))))))), ?_⟩
  have hl : (rs.map V.ref).length = t.length := by rw [List.length_map, rw_.len]
  have tp := S.pos
  obtain ⟨a0, r0, g1, g2, g3⟩ := rw_.get S.pos
  have l0 := (S.row r0 (List.mem_of_getElem? g2)).1
  walk_at "st"
  refine Rd.len1 (.inr (hR.sq)) ?_
  walk_at "st"
  rw [hl]
  refine ⟨⟨by decide, by decide, by omega, by omega, by omega⟩, fun pl hpl => ?_⟩
  have plain : (upd H pl (.lst (rgV 0 (t.length : Int)))) pl = some (.lst (((List.range t.length).map fun i => ((i : Nat) : Int)).map V.int)) := by rw [upd_same, rgV_eq]
  have e1 : Same H (upd H pl (.lst (rgV 0 (t.length : Int)))) := Rd.same_mk hpl
  generalize upd H pl (.lst (rgV 0 (t.length : Int))) = H1 at plain e1
  walk_at "st"
  refine Rd.ixT ((hR.same e1).sq) (at_of (j := 0) rfl (by rw [List.getElem?_map, g1]; rfl)) ?_
  walk_at "st"
  refine ⟨a0, r0.map V.int, rfl, .inr ((g3.same e1).sq), fun l hl2 => ?_⟩
  have e2 := Rd.same_mk (o := .lst (r0.map V.int)) hl2
  have hL : (upd H1 l (.lst (r0.map V.int))) l = some (.lst (r0.map V.int)) := upd_same
  generalize upd H1 l (.lst (r0.map V.int)) = H2 at e2 hL
  walk_at "st"
  refine Rd.eqLL (SqL.of hL) (SqL.of (e2 _ _ plain)) ?_
  walk_at "st"
  have q0 : r0 = ((List.range t.length).map fun i => ((i : Nat) : Int)) ↔ ∀ x, x < t.length → at2 t 0 x = (x : Int) := by
    rw [eq_range]
    constructor
    · rintro ⟨_, h⟩ x hx
      exact at2_of g2 (h x hx)
    · intro h
      refine ⟨l0, fun x hx => ?_⟩
      have h5 : r0[x]? = some r0[x] := List.getElem?_eq_getElem (by omega)
      have h6 := h x hx
      rw [at2_of g2 h5] at h6
      rw [h5, h6]
  refine Rd.ite_d (fun c => ?_) (fun c => ?_)
  · walk_at "st"
    refine Rd.itt' (((hR.same e1).same e2).sq) ?_
    refine Rd.lcMap (fun n => .int (at2 t n 0)) (Rd.src_tup (((hR.same e1).same e2).sq)) (by omega) (by intro _; rfl) (fun n y H3 Q1 hy e3 q1 => ?_) (fun p H3 hp e3 h5 => ?_)
    · obtain ⟨a, r, rfl, h1, h2, h3⟩ := rw_.at hy
      have hn : n < t.length := by rw [← hl]; exact (List.getElem?_eq_some_iff.mp hy).1
      obtain ⟨_, _, r', h6, h7⟩ := S.at hn S.pos
      rw [h2] at h6
      cases h6
      walk_at "st"
      refine Rd.ixT ((((h3.same e1).same e2).same e3).sq) (at_of (j := 0) (v := .int (at2 t n 0)) rfl (by rw [List.getElem?_map, h7]; rfl)) ?_
      exact q1 _ (Same.refl _)
    · walk_at "st"
      refine Rd.eqLL (ns := (List.range t.length).map fun n => at2 t n 0) (SqL.of (by rw [h5, hl, map_in])) (SqL.of (e3 _ _ (e2 _ _ plain))) ?_
      refine k _ _ ?_ (Same.trans e1 (Same.trans e2 e3))
      rw [decide_eq_true_eq]
      constructor
      · intro h x hx
        refine ⟨q0.mp c x hx, ?_⟩
        have := (eq_range.mp h).2 x hx
        rw [List.getElem?_map, List.getElem?_range hx] at this
        exact Option.some.inj this
      · intro h
        refine eq_range.mpr ⟨by simp, fun x hx => ?_⟩
        rw [List.getElem?_map, List.getElem?_range hx]
        exact congrArg some (h x hx).2
  · refine k false _ ?_ (Same.trans e1 e2)
    simp
    intro h
    exact c (q0.mpr fun x hx => (h x hx).1)
abbrev s__has_inverses : Stmt := (top 15)
theorem sc__has_inverses : FnScope ["rows", "row"] ["rows"] (defScope s__has_inverses) := ⟨rfl, rfl, rfl, by decide +kernel, rfl, by decide +kernel, by decide +kernel⟩
theorem ok_invs (F : FnP K "_has_inverses" "_has_inverses" s__has_inverses f fd) (T : Txt K mg) : FnOk P w K mg base CX0 1 f fd ["rows"] sp_invs := by
  refine F.ok sc__has_inverses (fun vs H Q E h => ?_) (fun cdv A outer s H vs Q E hr h => ?_)
  · obtain ⟨_, _, _, rfl, _⟩ := h; rfl
  obtain ⟨R, rs, t, rfl, hR, rw_, h32, k⟩ := h
  refine ⟨_, PSs.nox (pss_one (ps_ret (pe_callB (Rk.all K rfl rfl) rfl T.all (by decide +kernel) (pa_cons (pe_lc (own := [("row", 1)]) rfl sc__has_inverses.nd (Rk.pt K rfl (pv 0)) (blkOk_by (own := [("row", 1)]) (N := ["rows", "row"]) (sc := defScope s__has_inverses) (by decide +kernel)) (fun _ _ _ _ _ => (pg_name (i := 1) sc__has_inverses.nd rfl (Or.inl rfl))) (fun _ _ _ _ _ => pts_nil) (fun _ _ _ _ _ => (pe_cmpR (Rk.inS K) pe_int (pv 1) (by with_unfolding_all rfl)))) pa_nil)))), ?_⟩
  have hl : (rs.map V.ref).length = t.length := by rw [List.length_map, rw_.len]
  walk_at "st"
  refine Rd.itt' (hR.sq) ?_
  refine Rd.lcMap (fun n => .bl (decide ((0 : Int) ∈ t.getD n []))) (Rd.src_tup (hR.sq)) (by omega) (by intro _; rfl) (fun n y H3 Q1 hy e3 q1 => ?_) (fun p H3 hp e3 h5 => ?_)
  · obtain ⟨a, r, rfl, h1, h2, h3⟩ := rw_.at hy
    rw [getD_of h2] at q1
    walk_at "st"
    exact Rd.inI (.inr ((h3.same e3).sq)) (q1 _ (Same.refl _))
  · walk_at "st"
    refine ⟨p, _, rfl, SqL.of (by rw [h5, map_bl]), ?_⟩
    refine k _ _ ?_ e3
    rw [all_id, hl]
    constructor
    · intro h r hr
      obtain ⟨n, hn, rfl⟩ := List.getElem_of_mem hr
      have := h n hn
      rw [getD_of (List.getElem?_eq_getElem hn)] at this
      exact of_decide_eq_true this
    · intro h n hn
      rw [getD_of (List.getElem?_eq_getElem hn)]
      exact decide_eq_true (h _ (List.getElem_mem hn))
abbrev s__is_associative : Stmt := (top 16)
theorem sc__is_associative : FnScope ["rows", "row", "y", "product", "yz"] ["rows"] (defScope s__is_associative) := ⟨rfl, rfl, rfl, by decide +kernel, rfl, by decide +kernel, by decide +kernel⟩
theorem ok_asc (F : FnP K "_is_associative" "_is_associative" s__is_associative f fd) (T : Txt K mg) : FnOk P w K mg base CX0 1 f fd ["rows"] sp_asc := by
  refine F.ok sc__is_associative (fun vs H Q E h => ?_) (fun cdv A outer s H vs Q E hr h => ?_)
  · obtain ⟨_, _, _, rfl, _⟩ := h; rfl
  obtain ⟨R, rs, t, rfl, hR, rw_, h32, S, k⟩ := h
  refine ⟨_, PSs.nox (pss_cons (ps_for PassesOwn.never rfl (Rk.pt K rfl (pv 0)) (pg_name (i := 1) sc__is_associative.nd rfl (Or.inr rfl))
  (pss_one (ps_for PassesOwn.never rfl (Rx.pi_enumT rfl T.enumerate (pa_cons (pv 1) pa_nil)) (Rk.gtup K rfl rfl (pgs_cons (pg_name (i := 2) sc__is_associative.nd rfl (Or.inl rfl)) (pgs_cons (pg_name (i := 3) sc__is_associative.nd rfl (Or.inl rfl)) pgs_nil)))
  (pss_one (ps_if (pt_cmpR (Rk.neD K rfl (un64 hr)) (pe_ix (Rk.ixT K) (pv 0) (pv 3) (fun _ _ => rfl)) (pe_callTy (Rk.tup K) rfl T.tuple (by decide +kernel) (pa_cons (pe_lc (own := [("yz", 4)]) rfl sc__is_associative.nd (Rk.pt K rfl (pe_ix (Rk.ixT K) (pv 0) (pv 2) (fun _ _ => rfl))) (blkOk_by (own := [("yz", 4)]) (N := ["rows", "row", "y", "product", "yz"]) (sc := defScope s__is_associative) (by decide +kernel)) (fun _ _ _ _ _ => (pg_name (i := 4) sc__is_associative.nd rfl (Or.inl rfl))) (fun _ _ _ _ _ => pts_nil) (fun _ _ _ _ _ => (pe_ix (Rk.ixT K) (pv 1) (pv 4) (fun _ _ => rfl)))) pa_nil)) (nomark _))
  (pss_one (ps_ret pe_bl))
  pss_nil)))))
  (pss_one (ps_ret pe_bl))), ?_⟩
  have hl : (rs.map V.ref).length = t.length := by rw [List.length_map, rw_.len]
  have tp := S.pos
  walk_at "st"
  refine Rd.itt' (hR.sq) ?_
  refine for_tup (K := K) (a := R) (xs := rs.map V.ref) (fun i σ H' => ∃ (v1 v2 v3 : Option V), σ = [some (.ref R), v1, v2, v3, none] ∧ Same H H' ∧ ∀ x y z, x < i → y < t.length → z < t.length → at2 t (at2 t x y).toNat z = at2 t x (at2 t y z).toNat)
    ⟨none, none, none, rfl, Same.refl _, fun x y z h => by omega⟩ (fun i σ H' _ ⟨_, _, _, _, e, _⟩ => Rd.same_t e (hR.sq)) ?_ ?_
  · rintro i x σ H' hx ⟨v1, v2, v3, rfl, e, sf⟩
    obtain ⟨a, r, rfl, h1, h2, h3⟩ := rw_.at hx
    have hi : i < t.length := by rw [← hl]; exact (List.getElem?_eq_some_iff.mp hx).1
    have lr := (S.row r (List.mem_of_getElem? h2)).1
    walk_at "st"
    refine ⟨a, r.map V.int, rfl, (h3.same e).sq, ?_⟩
    refine Rx.for_enumT (K := K) (a := a) (xs := r.map V.int) (fun y σ H' => ∃ (v2 v3 : Option V), σ = [some (.ref R), some (.ref a), v2, v3, none] ∧ Same H H' ∧ ∀ y' z, y' < y → z < t.length → at2 t (at2 t i y').toNat z = at2 t i (at2 t y' z).toNat)
      ⟨v2, v3, rfl, e, fun y z h => by omega⟩ (fun y σ H' ⟨_, _, _, e, _⟩ => (h3.same e).sq) ?_ ?_
    · rintro y q TT σ H2 hy ⟨v2, v3, rfl, e2, sf2⟩ hT
      obtain ⟨p, hp, rfl⟩ := intAt hy
      have hyn : y < t.length := by
        have := (List.getElem?_eq_some_iff.mp hp).1
        omega
      have e3 : Same H (upd H2 TT (.tup [.int (y : Nat), .int p])) := Rd.same_add e2 hT
      refine Rd.gtup2 (SqT.of upd_same) ?_
      generalize upd H2 TT (.tup [.int (y : Nat), .int p]) = H3 at e3
      have ep : at2 t i y = p := at2_of h2 hp
      obtain ⟨p0, p1, _⟩ := S.at hi hyn
      rw [ep] at p0 p1
      obtain ⟨ap, rp, k1, k2, k3⟩ := rw_.get (i := p.toNat) (by omega)
      obtain ⟨ay, ry, m1, m2, m3⟩ := rw_.get hyn
      have lrp := (S.row rp (List.mem_of_getElem? k2)).1
      have lry := (S.row ry (List.mem_of_getElem? m2)).1
      walk_at "st"
      refine Rd.ixT ((hR.same e3).sq) (at_of (j := p.toNat) (v := .ref ap) (by omega) (by rw [List.getElem?_map, k1]; rfl)) ?_
      walk_at "st"
      refine Rd.ixT ((hR.same e3).sq) (at_of (j := y) (v := .ref ay) rfl (by rw [List.getElem?_map, m1]; rfl)) ?_
      refine Rd.itt' ((m3.same e3).sq) ?_
      refine Rd.lcMap (fun z => .int (at2 t i (at2 t y z).toNat)) (Rd.src_tup ((m3.same e3).sq)) (by rw [List.length_map]; omega) (by intro _; rfl) (fun z q H4 Q1 hq e4 q1 => ?_) (fun p5 H4 hp5 e4 h5 => ?_)
      · obtain ⟨u, hu, rfl⟩ := intAt hq
        have hz : z < t.length := by
          have := (List.getElem?_eq_some_iff.mp hu).1
          omega
        have eu : at2 t y z = u := at2_of m2 hu
        rw [eu] at q1
        obtain ⟨u0, u1, _⟩ := S.at hyn hz
        rw [eu] at u0 u1
        obtain ⟨_, _, r', w1, w2⟩ := S.at hi (y := u.toNat) (by omega)
        rw [h2] at w1
        cases w1
        walk_at "st"
        refine Rd.ixT (((h3.same e3).same e4).sq) (at_of (j := u.toNat) (v := .int (at2 t i u.toNat)) (by omega) (by rw [List.getElem?_map, w2]; rfl)) ?_
        exact q1 _ (Same.refl _)
      · walk_at "st"
        refine ⟨p5, _, rfl, .inl ⟨SqL.of h5, fun l ob hl3 hob => ?_⟩⟩
        have e5 := Rd.same_mk (o := .frz ob (.tup ((List.range (ry.map V.int).length).map fun z => V.int (at2 t i (at2 t y z).toNat)))) hl3
        have hL : TupN (upd H4 l (.frz ob (.tup ((List.range (ry.map V.int).length).map fun z => V.int (at2 t i (at2 t y z).toNat))))) l (((List.range t.length).map fun z => at2 t i (at2 t y z).toNat).map V.int) := by
          have q := TupN.mk (H := H4) (a := l) (xs := (List.range (ry.map V.int).length).map fun z => V.int (at2 t i (at2 t y z).toNat)) hob
          rw [← map_in]
          rw [List.length_map, lry] at q ⊢
          exact q
        generalize upd H4 l (.frz ob (.tup ((List.range (ry.map V.int).length).map fun z => V.int (at2 t i (at2 t y z).toNat)))) = H5 at e5 hL
        walk_at "st"
        refine Rd.neTT ((((k3.same e3).same e4).same e5).sq) hL.sq ?_
        walk_at "st"
        have row : rp = ((List.range t.length).map fun z => at2 t i (at2 t y z).toNat) ↔ ∀ z, z < t.length → at2 t p.toNat z = at2 t i (at2 t y z).toNat := by
          constructor
          · intro h z hz
            refine at2_of k2 ?_
            rw [h, List.getElem?_map, List.getElem?_range hz]; rfl
          · intro h
            refine List.ext_getElem? fun z => ?_
            by_cases c : z < t.length
            · have h5 : rp[z]? = some rp[z] := List.getElem?_eq_getElem (by omega)
              have h6 := h z c
              rw [at2_of k2 h5] at h6
              rw [h5, h6, List.getElem?_map, List.getElem?_range c]; rfl
            · rw [List.getElem?_eq_none (by omega), List.getElem?_eq_none (by simp; omega)]
        have e6 := Same.trans e3 (Same.trans e4 e5)
        refine Rd.ite_n (fun c => ?_) (fun c => ?_)
        · walk_at "st"
          refine k false _ ?_ e6
          simp
          intro h
          refine c (row.mpr fun z hz => ?_)
          have := h i y z hi hyn hz
          rw [ep] at this
          exact this
        · walk_at "st"
          refine ⟨_, _, rfl, e6, fun y' z h h' => ?_⟩
          by_cases q : y' < y
          · exact sf2 y' z q h'
          · have : y' = y := by omega
            rw [this, ep]
            exact row.mp c z h'
    · rintro σ H2 ⟨v2, v3, rfl, e2, sf2⟩
      refine ⟨_, _, _, rfl, e2, fun x y z hx hy hz => ?_⟩
      by_cases q : x < i
      · exact sf x y z q hy hz
      · have : x = i := by omega
        rw [this]
        exact sf2 y z (by rw [List.length_map, lr]; exact hy) hz
  · rintro σ H' ⟨v1, v2, v3, rfl, e, sf⟩
    walk_at "st"
    refine k true H' ?_ e
    simp
    intro x y z hx hy hz
    exact sf x y z (by rw [hl]; exact hx) hy hz
end
/-! ### Group.__init__ -/
abbrev gC (K : PySem.W.Frag) : Addr := He.ga K "Group"
abbrev eL (K : PySem.W.Frag) : Addr := He.ga K "LimitExceeded"
abbrev eG (K : PySem.W.Frag) : Addr := He.ga K "InvalidGroup"
abbrev eE (K : PySem.W.Frag) : Addr := He.ga K "InvalidElement"
def sp_init (K : PySem.W.Frag) : Sp := fun vs H Q E => ∃ (g dx a : Addr) (as : List Addr) (t : List (List Int)), vs = [.ref g, .ref a] ∧ H g = some (.ins (gC K) dx []) ∧ H a = some (.lst (as.map V.ref)) ∧ Rows LstN H as t ∧ t.length ≤ 1000 ∧
  (32 < t.length → E (.ref (eL K)) none H) ∧ (t.length ≤ 32 → ¬ Grp t → ∀ H', Same H H' → E (.ref (eG K)) none H') ∧
  (t.length ≤ 32 → Grp t → ∀ H', (∀ b o, b ≠ g → H b = some o → H' b = some o) → GrpAt (gC K) H' g t → Q .non H')
section
variable {P : Program} {w : World} {K : PySem.W.Frag} {mg : Str → Option Value} {base : Heap} {f : Addr} {fd : FuncData}
theorem idx_of {r : List Int} (h : (0 : Int) ∈ r) : r[r.idxOf 0]? = some 0 ∧ ∀ m, m < r.idxOf 0 → r[m]? ≠ some 0 := by
  have h1 : r.idxOf 0 < r.length := List.idxOf_lt_length_of_mem h
  refine ⟨by rw [List.getElem?_eq_getElem h1]; exact congrArg some (List.getElem_idxOf h1), fun m hm e => ?_⟩
  obtain ⟨h2, h3⟩ := List.getElem?_eq_some_iff.mp e
  have := List.not_of_lt_findIdx (p := fun x => x == (0 : Int)) (xs := r) (i := m) hm
  rw [h3] at this
  simp at this
abbrev s_Group___init__ : Stmt := (inClass (top 12) 0)
theorem sc_Group___init__ : FnScope ["self", "table", "rows", "row"] ["self", "table"] (defScope s_Group___init__) := ⟨rfl, rfl, rfl, by decide +kernel, rfl, by decide +kernel, by decide +kernel⟩
theorem ok_init (F : FnP K "__init__" "Group.__init__" s_Group___init__ f fd) (T : Txt K mg) (D__has_shape : DOk P w K mg base CX0 "_has_shape" 1 ["rows"] sp_shape) (D__has_identity : DOk P w K mg base CX0 "_has_identity" 1 ["rows"] sp_idn)
    (D__has_inverses : DOk P w K mg base CX0 "_has_inverses" 1 ["rows"] sp_invs) (D__is_associative : DOk P w K mg base CX0 "_is_associative" 1 ["rows"] sp_asc) : FnOk P w K mg base (L2.CX P w) 2 f fd ["self", "table"] (sp_init K) := by
  refine F.ok sc_Group___init__ (fun vs H Q E h => ?_) (fun cdv A outer s H vs Q E hr h => ?_)
  · obtain ⟨_, _, _, _, _, rfl, _⟩ := h; rfl
  obtain ⟨g, dx, a, as, t, rfl, hg, ha, rw_, hz, kL, kG, k⟩ := h
  obtain ⟨tL, g_LIMIT⟩ := T.LIMIT
  refine ⟨_, (pss_cons (ps_if (pt_cmpR op_gt (pe_callB (Rk.len K) rfl T.len PySem.boot_len (pa_cons (pv 1) pa_nil)) (pe_glob (v := .int 32) rfl g_LIMIT ⟨_, rfl⟩) (nomark _))
  (pss_one (ps_raise rfl (takes_of rfl rfl rfl rfl) (pmk_own PySem.F.excBase_ValueError T.ex_LimitExceeded.xP T.ex_LimitExceeded.gP T.ex_LimitExceeded.kP (raises_own T.ex_LimitExceeded.bP T.ex_LimitExceeded.tP) rfl)))
  pss_nil)
  (pss_cons (ps_set (i := 2) sc_Group___init__.nd rfl (Or.inl rfl) (pe_callTy (Rk.tup K) rfl T.tuple (by decide +kernel) (pa_cons (pe_lc (own := [("row", 3)]) rfl sc_Group___init__.nd (Rk.pl K rfl (pv 1)) (blkOk_by (own := [("row", 3)]) (N := ["self", "table", "rows", "row"]) (sc := defScope s_Group___init__) (by decide +kernel)) (fun _ _ _ _ _ => (pg_name (i := 3) sc_Group___init__.nd rfl (Or.inl rfl))) (fun _ _ _ _ _ => pts_nil) (fun _ _ _ _ _ => (pe_callTy (Rk.tup K) rfl T.tuple (by decide +kernel) (pa_cons (pv 3) pa_nil)))) pa_nil)))
  (pss_cons (ps_if (pt_not (pt_val (callX D__has_shape (hr.mono (by decide)) (passN) (pa_cons (pv 2) pa_nil))))
  (pss_one (ps_raise rfl (takes_of rfl rfl rfl rfl) (pmk_own PySem.F.excBase_ValueError T.ex_InvalidGroup.xP T.ex_InvalidGroup.gP T.ex_InvalidGroup.kP (raises_own T.ex_InvalidGroup.bP T.ex_InvalidGroup.tP) rfl)))
  pss_nil)
  (pss_cons (ps_if (pt_not (pt_val (callX D__has_identity (hr.mono (by decide)) (passN) (pa_cons (pv 2) pa_nil))))
  (pss_one (ps_raise rfl (takes_of rfl rfl rfl rfl) (pmk_own PySem.F.excBase_ValueError T.ex_InvalidGroup.xP T.ex_InvalidGroup.gP T.ex_InvalidGroup.kP (raises_own T.ex_InvalidGroup.bP T.ex_InvalidGroup.tP) rfl)))
  pss_nil)
  (pss_cons (ps_if (pt_not (pt_val (callX D__has_inverses (hr.mono (by decide)) (passN) (pa_cons (pv 2) pa_nil))))
  (pss_one (ps_raise rfl (takes_of rfl rfl rfl rfl) (pmk_own PySem.F.excBase_ValueError T.ex_InvalidGroup.xP T.ex_InvalidGroup.gP T.ex_InvalidGroup.kP (raises_own T.ex_InvalidGroup.bP T.ex_InvalidGroup.tP) rfl)))
  pss_nil)
  (pss_cons (ps_if (pt_not (pt_val (callX D__is_associative (hr.mono (by decide)) (passN) (pa_cons (pv 2) pa_nil))))
  (pss_one (ps_raise rfl (takes_of rfl rfl rfl rfl) (pmk_own PySem.F.excBase_ValueError T.ex_InvalidGroup.xP T.ex_InvalidGroup.gP T.ex_InvalidGroup.kP (raises_own T.ex_InvalidGroup.bP T.ex_InvalidGroup.tP) rfl)))
  pss_nil)
  (pss_cons (ps_fld (pv 0) (pe_callB (Rk.len K) rfl T.len PySem.boot_len (pa_cons (pv 2) pa_nil)) rfl)
  (pss_cons (ps_fld (pv 0) (pv 2) rfl)
  (pss_one (ps_fld (pv 0) (pe_callTy (Rk.tup K) rfl T.tuple (by decide +kernel) (pa_cons (pe_lc (own := [("row", 3)]) rfl sc_Group___init__.nd (Rk.pt K rfl (pv 2)) (blkOk_by (own := [("row", 3)]) (N := ["self", "table", "rows", "row"]) (sc := defScope s_Group___init__) (by decide +kernel)) (fun _ _ _ _ _ => (pg_name (i := 3) sc_Group___init__.nd rfl (Or.inl rfl))) (fun _ _ _ _ _ => pts_nil) (fun _ _ _ _ _ => (Rk.bt K rfl PySem.F.plainAttrs_tuple PySem.F.slot_tuple_index PySem.F.type_tuple_index (Rk.tindex K) (pv 3) (pa_cons pe_int pa_nil)))) pa_nil)) rfl)))))))))), ?_⟩
  have hl : (as.map V.ref).length = t.length := by rw [List.length_map, rw_.len]
  walk_at "st"
  refine Rd.len1 (.inl (SqL.of ha)) ?_
  walk_at "st"
  rw [hl]
  refine Rd.ite_d (fun c => kL (by omega)) (fun c => ?_)
  have h32 : t.length ≤ 32 := by omega
  walk_at "st"
  refine Rd.itl' (SqL.of ha) ?_
  refine Rd.lcNew (fun n o => ∃ ob : Obj, ob.dict = none ∧ o = .frz ob (.tup ((t.getD n []).map V.int))) (Rd.src_list (SqL.of ha)) (by omega) (by intro _; rfl) (fun n y H3 Q1 hy e3 q1 => ?_) (fun p rs H3 hp e3 h5 lrs hrs nd => ?_)
  · obtain ⟨b, r, rfl, h1, h2, h3⟩ := rw_.at hy
    walk_at "st"
    refine ⟨b, _, rfl, .inl ⟨SqL.of (e3 _ _ h3), fun l ob hl3 hob => ?_⟩⟩
    exact q1 l _ _ hl3 (Rd.same_mk hl3) (by rw [upd_same]) ⟨ob, hob, by rw [getD_of h2]⟩
  walk_at "st"
  refine ⟨p, _, rfl, .inl ⟨SqL.of h5, fun R oR hR3 hoR => ?_⟩⟩
  have e4 : Same H (upd H3 R (.frz oR (.tup (rs.map V.ref)))) := Rd.same_add e3 hR3
  have hR : TupN (upd H3 R (.frz oR (.tup (rs.map V.ref)))) R (rs.map V.ref) := TupN.mk hoR
  have rt : Rows TupN (upd H3 R (.frz oR (.tup (rs.map V.ref)))) rs t := ⟨by rw [lrs, hl], fun i b r h1 h2 => by
    obtain ⟨_, h6, ob, hob, rfl⟩ := (hrs i b h1).1
    rw [getD_of h2] at h6
    exact ⟨ob, hob, by rw [upd_ne (ne_of_none h6 hR3)]; exact h6⟩⟩
  have nRg : R ≠ g := fun z => by rw [z, e3 _ _ hg] at hR3; cases hR3
  have nrg : ∀ i b, rs[i]? = some b → b ≠ g := fun i b h1 z => by have := (hrs i b h1).2.1; rw [z, hg] at this; cases this
  generalize upd H3 R (.frz oR (.tup (rs.map V.ref))) = H4 at e4 hR rt
  walk_at "st"
  refine ⟨R, rs, t, rfl, hR, rt, h32, fun b H5 hb e5 => ?_⟩
  walk_at "st"
  refine Rd.ite_nb (fun c1 => kG h32 (fun G => ?_) _ (e4.trans e5)) (fun c1 => ?_)
  · rw [hb.mpr G.sq] at c1; cases c1
  have S := hb.mp c1
  walk_at "st"
  refine ⟨R, rs, t, rfl, hR.same e5, rt.same e5, h32, S, fun b H6 hb e6 => ?_⟩
  walk_at "st"
  refine Rd.ite_nb (fun c2 => kG h32 (fun G => ?_) _ (e4.trans (e5.trans e6))) (fun c2 => ?_)
  · rw [hb.mpr G.idn] at c2; cases c2
  have S2 := hb.mp c2
  walk_at "st"
  refine ⟨R, rs, t, rfl, (hR.same e5).same e6, (rt.same e5).same e6, h32, fun b H7 hb e7 => ?_⟩
  walk_at "st"
  refine Rd.ite_nb (fun c3 => kG h32 (fun G => ?_) _ (e4.trans (e5.trans (e6.trans e7)))) (fun c3 => ?_)
  · rw [hb.mpr G.inv] at c3; cases c3
  have S3 := hb.mp c3
  walk_at "st"
  refine ⟨R, rs, t, rfl, ((hR.same e5).same e6).same e7, ((rt.same e5).same e6).same e7, h32, S, fun b H8 hb e8 => ?_⟩
  walk_at "st"
  refine Rd.ite_nb (fun c4 => kG h32 (fun G => ?_) _ (e4.trans (e5.trans (e6.trans (e7.trans e8))))) (fun c4 => ?_)
  · rw [hb.mpr G.asc] at c4; cases c4
  have S4 := hb.mp c4
  have e9 : Same H4 H8 := e5.trans (e6.trans (e7.trans e8))
  have hR8 := hR.same e9
  have rt8 := rt.same e9
  have hg8 := e9 _ _ (e4 _ _ hg)
  have e10 := e4.trans e9
  walk_at "st"
  refine Rd.len1 (.inr (hR8.sq)) ?_
  walk_at "st"
  rw [List.length_map, lrs, hl]
  refine ⟨g, gC K, dx, [], rfl, hg8, T.cl, T.nO, by decide, ?_⟩
  walk_at "st"
  refine ⟨g, gC K, dx, _, rfl, upd_same, T.cl, T.nR, by show 1 < 1000; decide, ?_⟩
  walk_at "st"
  have hR10 : ∀ o1 o2, TupN (upd (upd H8 g o1) g o2) R (rs.map V.ref) := fun o1 o2 => (hR8.put nRg).put nRg
  have hr10 : ∀ o1 o2, Rows TupN (upd (upd H8 g o1) g o2) rs t := fun o1 o2 => ⟨rt8.len, fun i b r h1 h2 => ((rt8.row i b r h1 h2).put (nrg i b h1)).put (nrg i b h1)⟩
  have e12 : ∀ o1 o2, ∀ b o, b ≠ g → H b = some o → (upd (upd H8 g o1) g o2) b = some o := fun o1 o2 b o n h => by rw [upd_ne n, upd_ne n]; exact e10 _ _ h
  refine Rd.itt' (hR10 _ _).sq ?_
  refine Rd.lcMap (fun n => .int (((t.getD n []).idxOf 0 : Nat) : Int)) (Rd.src_tup (hR10 _ _).sq) (by rw [List.length_map, lrs]; omega) (by intro _; rfl) (fun n y H9 Q1 hy e11 q1 => ?_) (fun p2 H9 hp2 e11 h12 => ?_)
  · obtain ⟨b, r, rfl, h1, h2, h3⟩ := (hr10 _ _).at hy
    rw [getD_of h2] at q1
    obtain ⟨w1, w2⟩ := idx_of (S3 r (List.mem_of_getElem? h2))
    have h4 := h3.same e11
    walk_at "st"
    refine ⟨⟨_, _, rfl, h4⟩, ?_⟩
    walk_at "st"
    exact ⟨b, r, 0, _, rfl, rfl, h4.sq, w1, w2, q1 _ (Same.refl _)⟩
  walk_at "st"
  refine ⟨p2, _, rfl, .inl ⟨SqL.of h12, fun I oI hI9 hoI => ?_⟩⟩
  have e13 := Rd.same_mk (o := .frz oI (.tup ((List.range (rs.map V.ref).length).map fun n => V.int (((t.getD n []).idxOf 0 : Nat) : Int)))) hI9
  have hI : TupN (upd H9 I (.frz oI (.tup ((List.range (rs.map V.ref).length).map fun n => V.int (((t.getD n []).idxOf 0 : Nat) : Int))))) I ((invs t).map V.int) := by
    have q := TupN.mk (H := H9) (a := I) (xs := (List.range (rs.map V.ref).length).map fun n => V.int (((t.getD n []).idxOf 0 : Nat) : Int)) hoI
    have z : (List.range (rs.map V.ref).length).map (fun n => V.int (((t.getD n []).idxOf 0 : Nat) : Int)) = (invs t).map V.int := by
      rw [List.length_map, lrs, hl]
      refine List.ext_getElem? fun i => ?_
      unfold invs
      rw [List.map_map, List.getElem?_map, List.getElem?_map]
      by_cases c : i < t.length
      · rw [List.getElem?_range c, List.getElem?_eq_getElem c]
        simp only [Option.map_some, Function.comp_apply]
        rw [getD_of (List.getElem?_eq_getElem c)]
      · rw [List.getElem?_eq_none (by simp; omega), List.getElem?_eq_none (by omega)]; rfl
    rw [z] at q ⊢
    exact q
  generalize upd H9 I (.frz oI (.tup ((List.range (rs.map V.ref).length).map fun n => V.int (((t.getD n []).idxOf 0 : Nat) : Int)))) = H10 at e13 hI
  have e14 := e11.trans e13
  walk_at "st"
  have nIg : I ≠ g := fun z => by
    rw [z, e11 _ _ upd_same] at hI9
    cases hI9
  refine ⟨g, gC K, dx, _, rfl, e14 _ _ upd_same, T.cl, T.nI, put2_len _ _, ?_⟩
  rw [put3]
  refine k h32 ⟨S, S2, S3, S4⟩ _ (fun b o n h => by rw [upd_ne n]; exact e14 _ _ (e12 _ _ b o n h)) ⟨⟨S, S2, S3, S4⟩, h32, dx, R, I, rs, upd_same, ((hR10 _ _).same e14).put nRg, ?_, hI.put nIg⟩
  exact ⟨rt8.len, fun i b r h1 h2 => (((hr10 _ _).row i b r h1 h2).same e14).put (nrg i b h1)⟩
end
end K02

set_option Elab.async false
set_option linter.all false
set_option maxRecDepth 100000
set_option maxHeartbeats 4000000
namespace K02
open PySem L2 Rd GT
local macro_rules | `(tactic| walk_at "st1") => `(tactic| with_reducible first
  | refine' Rd.seq ?_ | refine' Rd.nxt ?_ | refine' Rd.asg ?_ | refine' Rd.nm ?_ | refine' Rd.con ?_ | refine' Rd.op ?_ | refine' Rd.i0 ?_ | refine' Rd.un ?_ | refine' Rd.u0 ?_
  | refine' Rd.eqI ?_ | refine' Rd.neI ?_ | refine' Rd.eqB ?_ | refine' Rd.tst ?_ | refine' Rd.tB_ ?_ | refine' Rd.exb ?_ | refine' Rd.ifS ?_ | refine' Rd.ret ?_ | refine' Rd.retN ?_ | refine' Rd.drop ?_
  | refine' Rd.nil ?_ | refine' Rd.cons ?_ | refine' Rd.cb ?_ | refine' Rd.call ?_ | refine' Rd.callN ?_ | refine' Rd.z2 ?_ | refine' Rd.z3 ?_ | refine' Rd.revA ?_ | refine' Rd.revL ?_ | refine' Rd.star ?_ | refine' Rd.lc2 ?_ | refine' Rd.andT ?_ | refine' Rd.orT ?_ | refine' Rd.notT ?_ | refine' Rd.andV ?_ | refine' Rd.orV ?_ | refine' Rd.notV ?_ | refine' Rd.chain ?_
  | refine' Rd.lst ?_ | refine' Rd.tup ?_ | refine' Rd.for_ ?_ | refine' Rd.rng1 ?_ | refine' Rd.rng2 ?_ | refine' Rd.itl ?_ | refine' Rd.itt ?_ | refine' Rd.sub ?_
  | refine' Rd.lrg ?_ | refine' Rd.rg1 ?_ | refine' Rd.rg2 ?_ | refine' Rd.exi ?_ | refine' Rd.exi2 ?_ | refine' Rd.int1 ?_ | refine' Rd.ex1 ?_ | refine' Rd.ex2 ?_
  | refine' Rd.fld ?_ | refine' Rd.sfld ?_ | refine' Rd.meth ?_ | refine' Rd.make ?_ | refine' Rd.lc ?_ | refine' Rd.bm ?_ | refine' Rd.bm0 ?_ | refine' Rd.bt ?_ | refine' Rd.enT ?_ | refine' Rd.enL ?_)
local macro_rules | `(tactic| walk_at "st") => `(tactic| repeat (first | walk_at "st1" | ((with_reducible refine' Rd.var ?hv ?_); (case hv => rfl))))
local macro_rules | `(tactic| walk_at "sj1") => `(tactic| with_reducible first
  | refine' Rd.seqA ?_ | refine' Rd.seqD ?_ | refine' Rd.seqF ?_ | refine' Rd.seqW ?_ | refine' Rd.nxt ?_ | refine' Rd.asg ?_ | refine' Rd.nm ?_ | refine' Rd.con ?_ | refine' Rd.op ?_ | refine' Rd.i0 ?_ | refine' Rd.un ?_ | refine' Rd.u0 ?_
  | refine' Rd.eqI ?_ | refine' Rd.neI ?_ | refine' Rd.eqB ?_ | refine' Rd.tst ?_ | refine' Rd.tB_ ?_ | refine' Rd.exb ?_ | refine' Rd.ifS ?_ | refine' Rd.ret ?_ | refine' Rd.retN ?_ | refine' Rd.drop ?_
  | refine' Rd.nil ?_ | refine' Rd.cons ?_ | refine' Rd.cb ?_ | refine' Rd.call ?_ | refine' Rd.callN ?_ | refine' Rd.z2 ?_ | refine' Rd.z3 ?_ | refine' Rd.revA ?_ | refine' Rd.revL ?_ | refine' Rd.star ?_ | refine' Rd.lc2 ?_ | refine' Rd.andT ?_ | refine' Rd.orT ?_ | refine' Rd.notT ?_ | refine' Rd.andV ?_ | refine' Rd.orV ?_ | refine' Rd.notV ?_ | refine' Rd.chain ?_
  | refine' Rd.lst ?_ | refine' Rd.tup ?_ | refine' Rd.for_ ?_ | refine' Rd.rng1 ?_ | refine' Rd.rng2 ?_ | refine' Rd.itl ?_ | refine' Rd.itt ?_ | refine' Rd.sub ?_
  | refine' Rd.lrg ?_ | refine' Rd.rg1 ?_ | refine' Rd.rg2 ?_ | refine' Rd.exi ?_ | refine' Rd.exi2 ?_ | refine' Rd.int1 ?_ | refine' Rd.ex1 ?_ | refine' Rd.ex2 ?_
  | refine' Rd.fld ?_ | refine' Rd.sfld ?_ | refine' Rd.meth ?_ | refine' Rd.make ?_ | refine' Rd.lc ?_ | refine' Rd.bm ?_ | refine' Rd.bm0 ?_ | refine' Rd.bt ?_ | refine' Rd.enT ?_ | refine' Rd.enL ?_)
local macro_rules | `(tactic| walk_at "sj") => `(tactic| repeat (first | walk_at "sj1" | ((with_reducible refine' Rd.var ?hv ?_); (case hv => rfl))))
theorem line_of {n : Nat} (h : n ≤ 1000) : n < sizeLine := Nat.lt_of_le_of_lt h (by decide)
/-! ### the law: what is drawn -/
def Bag (H : Hp) (a : Addr) : Prop := ∃ x y : Int, H a = some (.lst [.int x, .int y]) ∧ 0 ≤ x ∧ 0 ≤ y ∧ y < 2147483648
def sp_take : Sp := fun vs H Q _ => ∃ (a : Addr) (n : Int), vs = [.ref a, .int n] ∧ 1 ≤ n ∧ n ≤ 4294967296 ∧ Bag H a ∧ ∀ (v : Int) (H' : Hp), 0 ≤ v → v < n → Bag H' a → But a H H' → Q (.int v) H'
def sp_bag (K : PySem.W.Frag) : Sp := fun vs H Q _ => ∃ (a : Addr) (ns : List Int) (k : Int), vs = [.ref a, .int k] ∧ SqL K H a (ns.map V.int) ∧ 0 ≤ k ∧ k ≤ 63 ∧ ∀ (p : Addr) (H' : Hp), H p = none → Same H H' → Bag H' p → Q (.ref p) H'
def sp_isint : Sp := fun vs H Q _ => ∃ n : Int, vs = [.int n] ∧ Q (.bl true) H
theorem at0 {x : V} {xs : List V} : atI (x :: xs) 0 = some x := atI_nat (j := 0) rfl
theorem at1 {x y : V} {xs : List V} : atI (x :: y :: xs) 1 = some y := atI_nat (j := 1) rfl
theorem line2 {a b : V} : [a, b].length ≤ sizeLine := by show 2 ≤ sizeLine; decide
section
variable {P : Program} {w : World} {K : PySem.W.Frag} {mg : Str → Option Value} {base : Heap} {f : Addr} {fd : FuncData}
abbrev s__law_bag : Stmt := (top 20)
theorem sc__law_bag : FnScope ["script", "k", "cell"] ["script", "k"] (defScope s__law_bag) := ⟨rfl, rfl, rfl, by decide +kernel, rfl, by decide +kernel, by decide +kernel⟩
theorem ok_bag (F : FnP K "_law_bag" "_law_bag" s__law_bag f fd) (T : Txt K mg) : FnOk P w K mg base CX0 1 f fd ["script", "k"] (sp_bag K) := by
  refine F.ok sc__law_bag (fun vs H Q E h => ?_) (fun cdv A outer s H vs Q E hr h => ?_)
  · obtain ⟨_, _, _, rfl, _⟩ := h; rfl
  obtain ⟨a, ns, i, rfl, hS, i0, i1, k⟩ := h
  refine ⟨_, PSs.nox (pss_cons (ps_set (i := 2) sc__law_bag.nd rfl (Or.inl rfl) pe_int)
  (pss_cons (ps_if (pt_cmpR op_lt (pv 1) (pe_callB (Rk.len K) rfl T.len PySem.boot_len (pa_cons (pv 0) pa_nil)) (nomark _))
  (pss_one (ps_set (i := 2) sc__law_bag.nd rfl (Or.inl rfl) (pe_ix (Rk.ixL K) (pv 0) (pv 1) (fun _ _ => rfl))))
  pss_nil)
  (pss_cons (ps_if (pt_cmpR op_ge (pe_callB call_abs rfl T.abs (by decide +kernel) (pa_cons (pv 2) pa_nil)) (pe_op op_pow pe_int pe_int) (nomark _))
  (pss_one (ps_ret (pe_lst (pa_cons (pe_callB call_abs rfl T.abs (by decide +kernel) (pa_cons (pv 2) pa_nil)) (pa_cons (pe_op op_mod (pe_callTy call_int1 rfl T.int (by decide +kernel) (pa_cons (pe_callB call_abs rfl T.abs (by decide +kernel) (pa_cons (pv 2) pa_nil)) pa_nil)) pe_int) pa_nil)))))
  pss_nil)
  (pss_one (ps_ret (pe_lst (pa_cons pe_int (pa_cons (pe_op op_mod (pe_callTy call_int1 rfl T.int (by decide +kernel) (pa_cons (pe_op op_add (pe_op op_mul (pv 2) pe_int) (pe_op op_mul pe_int (pe_op op_add (pv 1) pe_int))) pa_nil)) pe_int) pa_nil)))))))), ?_⟩
  walk_at "sj"
  with_reducible refine Rd.seqJ (fun σ' H' => ∃ c : Int, σ' = [some (.ref a), some (.int i), some (.int c)] ∧ H' = H) ?_ fun N hN => ?_
  · rintro σ' H' ⟨c, rfl, rfl⟩
    walk_at "st"
    refine Rd.iC ⟨by decide, by decide, by decide⟩ ?_
    walk_at "st"
    refine Rd.ite_d (fun h1 => ?_) (fun h1 => ?_)
    · walk_at "st"
      refine Rd.iC (by show (0 : Int) < 2147483629; decide) ?_
      walk_at "st"
      refine ⟨line2, fun p hp => k p _ hp (Rd.same_mk hp) ⟨_, _, upd_same, ?_, ?_, ?_⟩⟩
      · split <;> omega
      · exact Int.emod_nonneg _ (by decide)
      · exact Int.lt_trans (Int.emod_lt_of_pos _ (by decide)) (by decide)
    · walk_at "st"
      refine Rd.iC (.inr ⟨by decide, by decide⟩) ?_
      walk_at "st"
      refine Rd.iC (.inl ⟨by decide, by decide⟩) ?_
      walk_at "st"
      refine Rd.iC (by show (0 : Int) < 2147483647; decide) ?_
      walk_at "st"
      refine ⟨line2, fun p hp => k p _ hp (Rd.same_mk hp) ⟨_, _, upd_same, by decide, ?_, ?_⟩⟩
      · exact Int.emod_nonneg _ (by decide)
      · exact Int.lt_trans (Int.emod_lt_of_pos _ (by decide)) (by decide)
  walk_at "sj"
  refine Rd.len1 (.inl hS) ?_
  walk_at "sj"
  refine Rd.ite_d (fun h1 => ?_) (fun h1 => ?_)
  · rw [List.length_map] at h1
    obtain ⟨c, hc⟩ : ∃ c, ns[i.toNat]? = some c := ⟨ns[i.toNat]'(by omega), List.getElem?_eq_getElem (by omega)⟩
    walk_at "st"
    refine Rd.ixL hS (at_of (j := i.toNat) (v := .int c) (by omega) (by rw [List.getElem?_map, hc]; rfl)) ?_
    walk_at "st"
    exact hN _ _ ⟨c, rfl, rfl⟩
  · walk_at "st"
    exact hN _ _ ⟨0, rfl, rfl⟩
abbrev s__law_take : Stmt := (top 21)
theorem sc__law_take : FnScope ["bag", "size", "digit"] ["bag", "size"] (defScope s__law_take) := ⟨rfl, rfl, rfl, by decide +kernel, rfl, by decide +kernel, by decide +kernel⟩
theorem ok_take (F : FnP K "_law_take" "_law_take" s__law_take f fd) (T : Txt K mg) : FnOk P w K mg base CX0 1 f fd ["bag", "size"] sp_take := by
  refine F.ok sc__law_take (fun vs H Q E h => ?_) (fun cdv A outer s H vs Q E hr h => ?_)
  · obtain ⟨_, _, rfl, _⟩ := h; rfl
  obtain ⟨a, n, rfl, n1, n2, ⟨x, y, hL, x0, y0, y1⟩, k⟩ := h
  refine ⟨_, PSs.nox (pss_cons (ps_if (pt_cmpR op_ge (pe_ix (Rk.ixL K) (pv 0) pe_int (fun _ _ => rfl)) (pv 1) (nomark _))
  (pss_cons (ps_set (i := 2) sc__law_take.nd rfl (Or.inl rfl) (pe_op op_mod (pe_callTy call_int1 rfl T.int (by decide +kernel) (pa_cons (pe_ix (Rk.ixL K) (pv 0) pe_int (fun _ _ => rfl)) pa_nil)) (pv 1)))
  (pss_cons (ps_asg (pe_op op_fdivW (pe_ix (Rk.ixL K) (pv 0) pe_int (fun _ _ => rfl)) (pv 1)) (pg_sub (pv 0) pe_int set_list))
  (pss_one (ps_ret (pv 2)))))
  pss_nil)
  (pss_cons (ps_asg (pe_op op_mod (pe_callTy call_int1 rfl T.int (by decide +kernel) (pa_cons (pe_op op_add (pe_op op_mul (pe_ix (Rk.ixL K) (pv 0) pe_int (fun _ _ => rfl)) pe_int) pe_int) pa_nil)) pe_int) (pg_sub (pv 0) pe_int set_list))
  (pss_cons (ps_asg (pe_op op_mod (pe_callTy call_int1 rfl T.int (by decide +kernel) (pa_cons (pe_op op_add (pe_op op_mul (pe_ix (Rk.ixL K) (pv 0) pe_int (fun _ _ => rfl)) pe_int) pe_int) pa_nil)) pe_int) (pg_sub (pv 0) pe_int set_list))
  (pss_one (ps_ret (pe_op op_mod (pe_callTy call_int1 rfl T.int (by decide +kernel) (pa_cons (pe_op op_fdivW (pe_ix (Rk.ixL K) (pv 0) pe_int (fun _ _ => rfl)) pe_int) pa_nil)) (pv 1))))))), ?_⟩
  walk_at "st"
  refine Rd.ixL (SqL.of hL) at0 ?_
  walk_at "st"
  refine Rd.ite_d (fun h1 => ?_) (fun h1 => ?_)
  · walk_at "st"
    refine Rd.ixL (SqL.of hL) at0 ?_
    walk_at "st"
    refine Rd.iC (by show 0 < n; omega) ?_
    walk_at "st"
    refine Rd.ixL (SqL.of hL) at0 ?_
    walk_at "st"
    refine Rd.iC (wide_div (b := 64) (by omega) (by omega) (by decide) (by decide)) ?_
    walk_at "st"
    refine Rd.setL hL (j := 0) rfl ?_
    walk_at "st"
    refine k _ _ (Int.emod_nonneg _ (by omega)) (Int.emod_lt_of_pos _ (by omega)) ⟨_, _, upd_same, ?_, y0, y1⟩ Rd.But.put
    exact Int.ediv_nonneg x0 (by omega)
  · walk_at "st"
    refine Rd.ixL (SqL.of hL) at1 ?_
    walk_at "st"
    refine Rd.iC (.inr ⟨by decide, by decide⟩) ?_
    walk_at "st"
    refine Rd.iC (by show (0 : Int) < 2147483647; decide) ?_
    walk_at "st"
    refine Rd.setL hL (j := 1) rfl ?_
    walk_at "st"
    have z0 := Int.emod_nonneg (y * 48271 + 11) (b := 2147483647) (by decide)
    have z1 := Int.emod_lt_of_pos (y * 48271 + 11) (b := 2147483647) (by decide)
    generalize (y * 48271 + 11) % 2147483647 = y2 at z0 z1
    refine Rd.ixL (xs := [.int x, .int y2]) (SqL.of upd_same) at1 ?_
    walk_at "st"
    refine Rd.iC (.inr ⟨by decide, by decide⟩) ?_
    walk_at "st"
    refine Rd.iC (by show (0 : Int) < 2147483629; decide) ?_
    walk_at "st"
    refine Rd.setL (xs := [.int x, .int y2]) upd_same (j := 1) rfl ?_
    walk_at "st"
    have w0 := Int.emod_nonneg (y2 * 69621 + 1013) (b := 2147483629) (by decide)
    have w1 := Int.emod_lt_of_pos (y2 * 69621 + 1013) (b := 2147483629) (by decide)
    generalize (y2 * 69621 + 1013) % 2147483629 = y3 at w0 w1
    refine Rd.ixL (xs := [.int x, .int y3]) (SqL.of upd_same) at1 ?_
    walk_at "st"
    refine Rd.iC (wide_div (b := 64) (by decide) (by decide) (by decide) (by decide)) ?_
    walk_at "st"
    refine Rd.iC (by show 0 < n; omega) ?_
    exact k _ _ (Int.emod_nonneg _ (by omega)) (Int.emod_lt_of_pos _ (by omega)) ⟨x, y3, upd_same, x0, w0, by omega⟩ (Rd.But.put.trans Rd.But.put)
abbrev s__law_is_integer : Stmt := (top 25)
theorem sc__law_is_integer : FnScope ["told"] ["told"] (defScope s__law_is_integer) := ⟨rfl, rfl, rfl, by decide +kernel, rfl, by decide +kernel, by decide +kernel⟩
theorem ok_isint (F : FnP K "_law_is_integer" "_law_is_integer" s__law_is_integer f fd) (T : Txt K mg) : FnOk P w K mg base CX0 1 f fd ["told"] sp_isint := by
  refine F.ok sc__law_is_integer (fun vs H Q E h => ?_) (fun cdv A outer s H vs Q E hr h => ?_)
  · obtain ⟨_, rfl, _⟩ := h; rfl
  obtain ⟨n, rfl, k⟩ := h
  refine ⟨_, PSs.nox (pss_one (ps_ret (pe_and (pe_callB (Rk.isi K) rfl T.isinstance (by decide +kernel) (pa_cons (pv 0) (pa_cons (pe_bltn rfl T.int (by decide +kernel) (RelV_ty "int")) pa_nil))) (pe_one (pe_not (pe_callB (Rk.isi K) rfl T.isinstance (by decide +kernel) (pa_cons (pv 0) (pa_cons (pe_bltn rfl T.bool (by decide +kernel) (RelV_ty "bool")) pa_nil)))))))), ?_⟩
  walk_at "st"
  refine Rd.isi (.base (.int n)) (Rd.kit_ty (v := true) (by decide +kernel)) ?_
  walk_at "st"
  refine (if_pos rfl).mpr ?_
  walk_at "st"
  refine Rd.isi (.base (.int n)) (Rd.kit_ty (b := "bool") (v := false) (by decide +kernel)) ?_
  walk_at "st"
  exact k
end
/-- a table in the heap -/
structure TabAt (H : Hp) (p : Addr) (t : List (List Int)) : Prop where
  ob : ∃ as : List Addr, H p = some (.lst (as.map V.ref)) ∧ Rows LstN H as t
theorem TabAt.same {H H' : Hp} {p : Addr} {t : List (List Int)} (X : TabAt H p t) (e : Same H H') : TabAt H' p t := by
  obtain ⟨as, h1, h2⟩ := X.ob
  exact ⟨as, e _ _ h1, h2.sameL e⟩
theorem TabAt.row {K : PySem.W.Frag} {H : Hp} {p : Addr} {t : List (List Int)} (X : TabAt H p t) {x : Nat} (hx : x < t.length) : ∃ (xs : List V) (a : Addr) (r : List Int), SqL K H p xs ∧ atI xs (x : Int) = some (.ref a) ∧ SqL K H a (r.map V.int) ∧ t[x]? = some r := by
  obtain ⟨as, h1, h2⟩ := X.ob
  obtain ⟨a, r, g1, g2, g3⟩ := h2.get hx
  exact ⟨_, a, r, SqL.of h1, at_of (j := x) rfl (by rw [List.getElem?_map, g1]; rfl), SqL.of g3, g2⟩
theorem TabAt.cell {K : PySem.W.Frag} {H : Hp} {p : Addr} {t : List (List Int)} (X : TabAt H p t) (S : Sq t) {x y : Nat} (hx : x < t.length) (hy : y < t.length) : ∃ (xs : List V) (a : Addr) (rs : List V), SqL K H p xs ∧ atI xs (x : Int) = some (.ref a) ∧ SqL K H a rs ∧ atI rs (y : Int) = some (.int (mul t x y : Nat)) := by
  obtain ⟨xs, a, r, h1, h2, h3, h4⟩ := X.row (K := K) hx
  obtain ⟨_, _, r', w1, w2⟩ := S.at hx hy
  rw [h4] at w1
  cases w1
  rw [S.mul_eq hx hy] at w2
  exact ⟨xs, a, _, h1, h2, h3, at_of (j := y) rfl (map_get_int w2)⟩
theorem TabAt.len {H : Hp} {p : Addr} {t : List (List Int)} (X : TabAt H p t) : ∃ as : List Addr, H p = some (.lst (as.map V.ref)) ∧ (as.map V.ref).length = t.length := by
  obtain ⟨as, h1, h2⟩ := X.ob
  exact ⟨as, h1, by rw [List.length_map, h2.len]⟩
theorem isTup {K : PySem.W.Frag} {H : Hp} {Q : VK} {a : Addr} {xs : List V} (h : TupN H a xs) (q : Q (.bl true) H) : rIsi K [.ref a, .ty "tuple"] H Q := by
  obtain ⟨ob, _, e⟩ := h
  exact Rd.isi (.fTuple e) (Rd.kit_ty (v := true) (by decide +kernel)) q
theorem TabAt.dp {K : PySem.W.Frag} {H : Hp} {p : Addr} {t : List (List Int)} (X : TabAt H p t) : Dp K H (.ref p) (lL t) := by
  obtain ⟨as, h1, h2⟩ := X.ob
  exact .lst (SqL.of h1) (dpRowsL h2)
theorem neTab {K : PySem.W.Frag} {H : Hp} {Q : VK} {p q : Addr} {t u : List (List Int)} (X : TabAt H p t) (Y : TabAt H q u) (h : Q (.bl (!decide (t = u))) H) : rNeD K (.ref p) (.ref q) H Q :=
  ⟨_, _, X.dp, Y.dp, lL_shaped _, lL_shaped _, by rw [lL_eqv]; exact h⟩
theorem idx0 {K : PySem.W.Frag} {H : Hp} {Q : VK} {a : Addr} {r : List Int} (h : SqL K H a (r.map V.int)) (m : (0 : Int) ∈ r) (q : Q (.int (r.idxOf 0 : Nat)) H) : rIndex K (.ref a) [.int 0] H Q := by
  obtain ⟨w1, w2⟩ := idx_of m
  refine ⟨a, r.map V.int, .int 0, r.idxOf 0, .int 0, rfl, rfl, h, rfl, flat_ints r, map_get_int w1, by simp [eqV], fun k z hk hz => ?_, q⟩
  obtain ⟨u, hu, rfl⟩ := intAt hz
  have : u ≠ 0 := fun e => w2 k hk (e ▸ hu)
  simp [eqV, this]
/-! ### the law: the tables that it draws -/
theorem Bag.same {H H' : Hp} {b : Addr} (h : Bag H b) (e : Same H H') : Bag H' b := by
  obtain ⟨x, y, h1, h2⟩ := h
  exact ⟨x, y, e _ _ h1, h2⟩
theorem Bag.some {H : Hp} {b : Addr} (h : Bag H b) : H b ≠ none := by
  obtain ⟨x, y, h1, h2⟩ := h
  rw [h1]
  intro z
  cases z
theorem Bag.put {H : Hp} {b p : Addr} {o : HO} (h : Bag H b) (n : b ≠ p) : Bag (upd H p o) b := by
  obtain ⟨x, y, h1, h2⟩ := h
  exact ⟨x, y, by rw [upd_ne n]; exact h1, h2⟩
theorem Bag.ne {H : Hp} {b p : Addr} (h : Bag H b) (n : H p = none) : b ≠ p := fun z => h.some (z ▸ n)
theorem butFree {H H1 : Hp} {b p : Addr} (e : But b H H1) (n : p ≠ b) (h : H1 p = none) : H p = none := by
  cases q : H p with
  | none => rfl
  | some o => rw [e p o n q] at h; cases h
theorem butAdd {H H1 : Hp} {b p : Addr} {o : HO} (e : But b H H1) (h : H1 p = none) : But b H (upd H1 p o) := fun c u n q => by
  have z := e c u n q
  rw [upd_ne (ne_of_none z h)]
  exact z
theorem butMut {H H1 : Hp} {b p : Addr} {o : HO} (e : But b H H1) (h : H p = none) : But b H (upd H1 p o) := fun c u n q => by
  rw [upd_ne (ne_of_none q h)]
  exact e c u n q
theorem butSame {H H1 H2 : Hp} {b : Addr} (e : But b H H1) (s : Same H1 H2) : But b H H2 := fun c u n q => s _ _ (e c u n q)
/-- a new list of new lists of ints -/
structure TabN (H H' : Hp) (p : Addr) (t : List (List Int)) : Prop where
  fresh : H p = none
  ob : ∃ as, H' p = some (.lst (as.map V.ref)) ∧ Rows LstN H' as t ∧ (∀ a ∈ as, H a = none ∧ a ≠ p) ∧ as.Nodup
theorem TabN.at {H H' : Hp} {p : Addr} {u : List (List Int)} (X : TabN H H' p u) {i : Nat} (hi : i < u.length) : ∃ (as : List Addr) (a : Addr) (r : List Int), H' p = some (.lst (as.map V.ref)) ∧ as[i]? = some a ∧ u[i]? = some r ∧ H' a = some (.lst (r.map V.int)) ∧ H a = none ∧ as.length = u.length ∧
    ∀ r' : List Int, TabN H (upd H' a (.lst (r'.map V.int))) p (u.set i r') := by
  obtain ⟨as, h1, h2, h3, h4⟩ := X.ob
  obtain ⟨a, r, g1, g2, g3⟩ := h2.get hi
  obtain ⟨f1, f2⟩ := h3 a (List.mem_of_getElem? g1)
  exact ⟨as, a, r, h1, g1, g2, g3, f1, h2.len, fun r' => ⟨X.fresh, as, by rw [upd_ne f2.symm]; exact h1, h2.put h4 g1, h3, h4⟩⟩
theorem TabN.drop {H H' : Hp} {p : Addr} {u : List (List Int)} (X : TabN H H' p u) : ∃ as : List Addr, H' p = some (.lst (as.map V.ref)) ∧ as.length = u.length ∧ TabN H (upd H' p (.lst (as.dropLast.map V.ref))) p u.dropLast := by
  obtain ⟨as, h1, h2, h3, h4⟩ := X.ob
  refine ⟨as, h1, h2.len, X.fresh, as.dropLast, upd_same, ⟨by rw [List.length_dropLast, List.length_dropLast, h2.len], fun i a r g1 g2 => ?_⟩, fun a ha => h3 a ((List.dropLast_subset _) ha), (List.dropLast_sublist as).nodup h4⟩
  rw [List.getElem?_dropLast] at g1 g2
  split at g1
  · split at g2
    · unfold LstN
      rw [upd_ne (h3 a (List.mem_of_getElem? g1)).2]
      exact h2.row i a r g1 g2
    · cases g2
  · cases g1
/-! ### growing lists of lists -/
def without (e : Addr) (H : Hp) : Hp := fun b => if b = e then none else H b
theorem without_same {e : Addr} {H : Hp} : Same (without e H) H := fun b o h => by
  unfold without at h
  split at h
  · cases h
  · exact h
theorem without_at {e : Addr} {H : Hp} : without e H e = none := if_pos rfl
theorem without_free {e b : Addr} {H : Hp} (h : H b = none) : without e H b = none := by
  unfold without
  split
  · rfl
  · exact h
theorem TabN.sub {H0 H1 H : Hp} {p : Addr} {t : List (List Int)} (X : TabN H1 H p t) (e : Same H0 H1) : TabN H0 H p t := by
  obtain ⟨as, h1, h2, h3, h4⟩ := X.ob
  exact ⟨Same.free e X.fresh, as, h1, h2, fun a ha => ⟨Same.free e (h3 a ha).1, (h3 a ha).2⟩, h4⟩
theorem TabN.on {H0 H1 H2 : Hp} {p : Addr} {t : List (List Int)} (X : TabN H0 H1 p t) (e : Same H1 H2) : TabN H0 H2 p t := by
  obtain ⟨as, h1, h2, h3, h4⟩ := X.ob
  exact ⟨X.fresh, as, e _ _ h1, h2.sameL e, h3, h4⟩
theorem TabN.nil {H0 H1 : Hp} {p : Addr} (h0 : H0 p = none) : TabN H0 (upd H1 p (.lst [])) p [] :=
  ⟨h0, [], upd_same, ⟨rfl, fun i a r h1 h2 => by simp at h1⟩, fun a ha => (by cases ha), List.nodup_nil⟩
theorem TabN.add {H0 H1 H2 : Hp} {p rp : Addr} {as : List Addr} {t : List (List Int)} {r : List Int} (X : TabN H0 H1 p t) (ha : H1 p = some (.lst (as.map V.ref))) (hr : H1 rp = none) (h0 : H0 rp = none) (e : Same H1 H2) (h2 : H2 rp = some (.lst (r.map V.int))) :
    TabN H0 (upd H2 p (.lst ((as ++ [rp]).map V.ref))) p (t ++ [r]) := by
  obtain ⟨as', a1, a2, a3, a4⟩ := X.ob
  rw [ha] at a1
  have ea : as = as' := by
    have := HO.lst.inj (Option.some.inj a1)
    exact (List.map_inj_right fun x y h => V.ref.inj h).mp this
  subst ea
  have nrp : rp ≠ p := fun z => by rw [z, ha] at hr; cases hr
  have rna : rp ∉ as := fun hm => by
    obtain ⟨j, hj⟩ := List.getElem?_of_mem hm
    obtain ⟨aj, rj, j1, j2, j3⟩ := a2.get (i := j) (by rw [← a2.len]; exact (List.getElem?_eq_some_iff.mp hj).1)
    rw [hj] at j1
    cases j1
    unfold LstN at j3
    rw [hr] at j3
    cases j3
  refine ⟨X.fresh, as ++ [rp], upd_same, ⟨by rw [List.length_append, List.length_append, a2.len]; rfl, fun j a r' j1 j2 => ?_⟩, fun a ha => ?_, List.nodup_append.mpr ⟨a4, by simp, fun u hu y hy => by rw [List.mem_singleton.mp hy]; intro q; exact rna (q ▸ hu)⟩⟩
  · by_cases q : j < as.length
    · rw [List.getElem?_append_left q] at j1
      rw [List.getElem?_append_left (by rw [← a2.len]; exact q)] at j2
      have j3 := a2.row j a r' j1 j2
      unfold LstN at j3 ⊢
      rw [upd_ne (a3 a (List.mem_of_getElem? j1)).2]
      exact e _ _ j3
    · have lu := (List.getElem?_eq_some_iff.mp j1).1
      rw [List.length_append, List.length_singleton] at lu
      have ej : j = as.length := by omega
      subst ej
      rw [List.getElem?_append_right (Nat.le_refl _), Nat.sub_self] at j1
      rw [a2.len, List.getElem?_append_right (Nat.le_refl _), Nat.sub_self] at j2
      cases j1
      cases j2
      unfold LstN
      rw [upd_ne nrp]
      exact h2
  · rcases List.mem_append.mp ha with q | q
    · exact a3 a q
    · rw [List.mem_singleton.mp q]
      exact ⟨h0, nrp⟩
theorem TabN.keys {H0 H : Hp} {p : Addr} {t : List (List Int)} (X : TabN H0 H p t) : ∃ (as : List Addr) (k : Addr → List Int), H p = some (.lst (as.map V.ref)) ∧ as.length = t.length ∧ (∀ a ∈ as, H a = some (.lst ((k a).map V.int))) ∧ as.map k = t ∧ as.Nodup ∧ ∀ a ∈ as, H0 a = none := by
  obtain ⟨fa, a1, rows, a3, nd⟩ := X.ob
  have kp : ∀ i a, fa[i]? = some a → t.getD (fa.idxOf a) [] = t.getD i [] := fun i a hi => by
    obtain ⟨h1, h2⟩ := List.getElem?_eq_some_iff.mp hi
    rw [← h2, nd.idxOf_getElem i h1]
  refine ⟨fa, fun a => t.getD (fa.idxOf a) [], a1, rows.len, fun a ha => ?_, ?_, nd, fun a ha => (a3 a ha).1⟩
  · obtain ⟨i, hi⟩ := List.getElem?_of_mem ha
    obtain ⟨a', r, h1, h2, h3⟩ := rows.get (i := i) (by rw [← rows.len]; exact (List.getElem?_eq_some_iff.mp hi).1)
    rw [hi] at h1
    cases h1
    show H a = some (.lst ((t.getD (fa.idxOf a) []).map V.int))
    rw [kp i a hi, getD_of h2]
    exact h3
  · refine List.ext_getElem? fun i => ?_
    rw [List.getElem?_map]
    by_cases q : i < fa.length
    · have h1 : fa[i]? = some fa[i] := List.getElem?_eq_getElem q
      have h2 : t[i]? = some (t[i]'(by rw [← rows.len]; exact q)) := List.getElem?_eq_getElem _
      rw [h1, Option.map_some, h2]
      show some (t.getD (fa.idxOf fa[i]) []) = _
      rw [kp i _ h1, getD_of h2]
    · rw [List.getElem?_eq_none (by omega), List.getElem?_eq_none (by rw [← rows.len]; omega)]; rfl
/-- a new list of new lists, as a comprehension makes it -/
theorem TabN.made {H H' : Hp} {p : Addr} {as : List Addr} {t : List (List Int)} (hp : H p = none) (h : H' p = some (.lst (as.map V.ref))) (l : as.length = t.length)
    (o : ∀ (n : Nat) (a : Addr), as[n]? = some a → (∃ o, H' a = some o ∧ o = .lst ((t.getD n []).map V.int)) ∧ H a = none ∧ a ≠ p) (nd : as.Nodup) : TabN H H' p t :=
  ⟨hp, as, h, ⟨l, fun i z r h1 h2 => by
    obtain ⟨_, h3, rfl⟩ := (o i z h1).1
    rw [getD_of h2] at h3
    exact h3⟩, fun z hz => by
    obtain ⟨i, hi⟩ := List.getElem?_of_mem hz
    exact (o i z hi).2, nd⟩
theorem TabN.tab {H H' : Hp} {p : Addr} {t : List (List Int)} (X : TabN H H' p t) : TabAt H' p t := by
  obtain ⟨as, h1, h2, _, _⟩ := X.ob
  exact ⟨as, h1, h2⟩
/-- the table that a comprehension in a comprehension makes -/
theorem tab_row {n : Nat} {f : Nat → Int} {r : List Int} (l : r.length = n) (h : ∀ i, i < n → r[i]? = some (f i)) : (List.range n).map (fun i => V.int (f i)) = r.map V.int := by
  rw [map_in]
  congr 1
  refine List.ext_getElem? fun i => ?_
  rw [List.getElem?_map]
  by_cases c : i < n
  · rw [List.getElem?_range c, h i c]; rfl
  · rw [List.getElem?_eq_none (by simp; omega), List.getElem?_eq_none (by omega)]; rfl
theorem comp_row {m z : List Int} : (List.range z.length).map (fun n => V.int (m.getD (z.getD n 0).toNat 0)) = (comp m z).map V.int := by
  refine tab_row (by unfold comp; rw [List.length_map]) fun i hi => ?_
  unfold comp
  rw [List.getElem?_map, List.getElem?_eq_getElem hi, getD_of (List.getElem?_eq_getElem hi)]; rfl
theorem tabOf_row {α : Type} [BEq α] {f : α → α → α} {l : List α} {p : α} {n : Nat} (h : l[n]? = some p) : (tabOf f l).getD n [] = l.map fun q => ((l.idxOf (f p q) : Nat) : Int) := getD_of (by unfold tabOf; rw [List.getElem?_map, h]; rfl)
end K02

set_option Elab.async false
set_option linter.all false
set_option maxRecDepth 100000
set_option maxHeartbeats 4000000
namespace K02
open PySem L2 Rd GT
local macro_rules | `(tactic| walk_at "st1") => `(tactic| with_reducible first
  | refine' Rd.seq ?_ | refine' Rd.nxt ?_ | refine' Rd.asg ?_ | refine' Rd.nm ?_ | refine' Rd.con ?_ | refine' Rd.op ?_ | refine' Rd.i0 ?_ | refine' Rd.un ?_ | refine' Rd.u0 ?_
  | refine' Rd.eqI ?_ | refine' Rd.neI ?_ | refine' Rd.eqB ?_ | refine' Rd.tst ?_ | refine' Rd.tB_ ?_ | refine' Rd.exb ?_ | refine' Rd.ifS ?_ | refine' Rd.ret ?_ | refine' Rd.retN ?_ | refine' Rd.drop ?_
  | refine' Rd.nil ?_ | refine' Rd.cons ?_ | refine' Rd.cb ?_ | refine' Rd.call ?_ | refine' Rd.callN ?_ | refine' Rd.z2 ?_ | refine' Rd.z3 ?_ | refine' Rd.revA ?_ | refine' Rd.revL ?_ | refine' Rd.star ?_ | refine' Rd.lc2 ?_ | refine' Rd.andT ?_ | refine' Rd.orT ?_ | refine' Rd.notT ?_ | refine' Rd.andV ?_ | refine' Rd.orV ?_ | refine' Rd.notV ?_ | refine' Rd.chain ?_
  | refine' Rd.lst ?_ | refine' Rd.tup ?_ | refine' Rd.for_ ?_ | refine' Rd.rng1 ?_ | refine' Rd.rng2 ?_ | refine' Rd.itl ?_ | refine' Rd.itt ?_ | refine' Rd.sub ?_
  | refine' Rd.lrg ?_ | refine' Rd.rg1 ?_ | refine' Rd.rg2 ?_ | refine' Rd.exi ?_ | refine' Rd.exi2 ?_ | refine' Rd.int1 ?_ | refine' Rd.ex1 ?_ | refine' Rd.ex2 ?_
  | refine' Rd.fld ?_ | refine' Rd.sfld ?_ | refine' Rd.meth ?_ | refine' Rd.make ?_ | refine' Rd.lc ?_ | refine' Rd.bm ?_ | refine' Rd.bm0 ?_ | refine' Rd.bt ?_ | refine' Rd.enT ?_ | refine' Rd.enL ?_)
local macro_rules | `(tactic| walk_at "st") => `(tactic| repeat (first | walk_at "st1" | ((with_reducible refine' Rd.var ?hv ?_); (case hv => rfl))))
local macro_rules | `(tactic| walk_at "sj1") => `(tactic| with_reducible first
  | refine' Rd.seqA ?_ | refine' Rd.seqD ?_ | refine' Rd.seqF ?_ | refine' Rd.seqW ?_ | refine' Rd.nxt ?_ | refine' Rd.asg ?_ | refine' Rd.nm ?_ | refine' Rd.con ?_ | refine' Rd.op ?_ | refine' Rd.i0 ?_ | refine' Rd.un ?_ | refine' Rd.u0 ?_
  | refine' Rd.eqI ?_ | refine' Rd.neI ?_ | refine' Rd.eqB ?_ | refine' Rd.tst ?_ | refine' Rd.tB_ ?_ | refine' Rd.exb ?_ | refine' Rd.ifS ?_ | refine' Rd.ret ?_ | refine' Rd.retN ?_ | refine' Rd.drop ?_
  | refine' Rd.nil ?_ | refine' Rd.cons ?_ | refine' Rd.cb ?_ | refine' Rd.call ?_ | refine' Rd.callN ?_ | refine' Rd.z2 ?_ | refine' Rd.z3 ?_ | refine' Rd.revA ?_ | refine' Rd.revL ?_ | refine' Rd.star ?_ | refine' Rd.lc2 ?_ | refine' Rd.andT ?_ | refine' Rd.orT ?_ | refine' Rd.notT ?_ | refine' Rd.andV ?_ | refine' Rd.orV ?_ | refine' Rd.notV ?_ | refine' Rd.chain ?_
  | refine' Rd.lst ?_ | refine' Rd.tup ?_ | refine' Rd.for_ ?_ | refine' Rd.rng1 ?_ | refine' Rd.rng2 ?_ | refine' Rd.itl ?_ | refine' Rd.itt ?_ | refine' Rd.sub ?_
  | refine' Rd.lrg ?_ | refine' Rd.rg1 ?_ | refine' Rd.rg2 ?_ | refine' Rd.exi ?_ | refine' Rd.exi2 ?_ | refine' Rd.int1 ?_ | refine' Rd.ex1 ?_ | refine' Rd.ex2 ?_
  | refine' Rd.fld ?_ | refine' Rd.sfld ?_ | refine' Rd.meth ?_ | refine' Rd.make ?_ | refine' Rd.lc ?_ | refine' Rd.bm ?_ | refine' Rd.bm0 ?_ | refine' Rd.bt ?_ | refine' Rd.enT ?_ | refine' Rd.enL ?_)
local macro_rules | `(tactic| walk_at "sj") => `(tactic| repeat (first | walk_at "sj1" | ((with_reducible refine' Rd.var ?hv ?_); (case hv => rfl))))
/-! ### targets -/
abbrev tC (K : PySem.W.Frag) : Addr := He.ga K "Target"
abbrev eT (K : PySem.W.Frag) : Addr := He.ga K "InvalidTarget"
abbrev eV (K : PySem.W.Frag) : Addr := He.ga K "InvalidValue"
abbrev eI (K : PySem.W.Frag) : Addr := He.ga K "InvalidIndex"
def tfs (M Z : Addr) (n e : Int) : List (Str × V) := [("moduli", .ref M), ("order", .int n), ("exponent", .int e), ("zero", .ref Z)]
structure TgtAt (C : Addr) (H : Hp) (g : Addr) (ms : List Int) : Prop where
  ok : OkM ms
  le : pr ms ≤ 32
  ob : ∃ dx M Z, H g = some (.ins C dx (tfs M Z (pr ms : Nat) (lcF ms : Nat))) ∧ TupN H M (ms.map V.int) ∧ H Z = some (.tup (List.replicate ms.length (.int 0)))
section
variable {C : Addr} {H H' : Hp} {g b : Addr} {ms : List Int} {xs : List V}
theorem TgtAt.same (G : TgtAt C H g ms) (e : Same H H') : TgtAt C H' g ms := by
  obtain ⟨dx, M, Z, h1, h2, h3⟩ := G.ob
  exact ⟨G.ok, G.le, dx, M, Z, e _ _ h1, h2.same e, e _ _ h3⟩
theorem TgtAt.but (G : TgtAt C H g ms) (hb : H b = some (.lst xs)) (e : But b H H') : TgtAt C H' g ms := by
  obtain ⟨dx, M, Z, h1, h2, h3⟩ := G.ob
  exact ⟨G.ok, G.le, dx, M, Z, e _ _ (fun z => by rw [z, hb] at h1; cases h1) h1, h2.butL hb e, e _ _ (fun z => by rw [z, hb] at h3; cases h3) h3⟩
theorem TgtAt.few (G : TgtAt C H g ms) : ms.length ≤ 5 := by
  have o := G.ok
  have h := G.le
  clear G
  match ms, o, h with
  | [], _, _ => exact Nat.zero_le _
  | [_], _, _ => exact (by decide : 1 ≤ 5)
  | [_, _], _, _ => exact (by decide : 2 ≤ 5)
  | [_, _, _], _, _ => exact (by decide : 3 ≤ 5)
  | [_, _, _, _], _, _ => exact (by decide : 4 ≤ 5)
  | [_, _, _, _, _], _, _ => exact Nat.le_refl 5
  | a :: b :: c :: d :: e :: f :: r, o, h =>
    exfalso
    have two : ∀ x ∈ a :: b :: c :: d :: e :: f :: r, 2 ≤ x.toNat := fun x hx => by have := o x hx; omega
    have p := pr_pos (ms := r) fun x hx => o x (by simp [hx])
    have h' : a.toNat * (b.toNat * (c.toNat * (d.toNat * (e.toNat * (f.toNat * pr r))))) ≤ 32 := h
    have q1 : 2 * 1 ≤ f.toNat * pr r := Nat.mul_le_mul (two f (by simp)) p
    have q2 : 2 * 2 ≤ e.toNat * (f.toNat * pr r) := Nat.mul_le_mul (two e (by simp)) q1
    have q3 : 2 * 4 ≤ d.toNat * (e.toNat * (f.toNat * pr r)) := Nat.mul_le_mul (two d (by simp)) q2
    have q4 : 2 * 8 ≤ c.toNat * (d.toNat * (e.toNat * (f.toNat * pr r))) := Nat.mul_le_mul (two c (by simp)) q3
    have q5 : 2 * 16 ≤ b.toNat * (c.toNat * (d.toNat * (e.toNat * (f.toNat * pr r)))) := Nat.mul_le_mul (two b (by simp)) q4
    have q6 : 2 * 32 ≤ a.toNat * (b.toNat * (c.toNat * (d.toNat * (e.toNat * (f.toNat * pr r))))) := Nat.mul_le_mul (two a (by simp)) q5
    omega
end
theorem few_of {ms : List Int} (o : OkM ms) (h : pr ms ≤ 32) : ms.length ≤ 5 := by
  match ms, o, h with
  | [], _, _ => exact Nat.zero_le _
  | [_], _, _ => exact (by decide : 1 ≤ 5)
  | [_, _], _, _ => exact (by decide : 2 ≤ 5)
  | [_, _, _], _, _ => exact (by decide : 3 ≤ 5)
  | [_, _, _, _], _, _ => exact (by decide : 4 ≤ 5)
  | [_, _, _, _, _], _, _ => exact Nat.le_refl 5
  | a :: b :: c :: d :: e :: f :: r, o, h =>
    exfalso
    have two : ∀ x ∈ a :: b :: c :: d :: e :: f :: r, 2 ≤ x.toNat := fun x hx => by have := o x hx; omega
    have p := pr_pos (ms := r) fun x hx => o x (by simp [hx])
    have h' : a.toNat * (b.toNat * (c.toNat * (d.toNat * (e.toNat * (f.toNat * pr r))))) ≤ 32 := h
    have q1 : 2 * 1 ≤ f.toNat * pr r := Nat.mul_le_mul (two f (by simp)) p
    have q2 : 2 * 2 ≤ e.toNat * (f.toNat * pr r) := Nat.mul_le_mul (two e (by simp)) q1
    have q3 : 2 * 4 ≤ d.toNat * (e.toNat * (f.toNat * pr r)) := Nat.mul_le_mul (two d (by simp)) q2
    have q4 : 2 * 8 ≤ c.toNat * (d.toNat * (e.toNat * (f.toNat * pr r))) := Nat.mul_le_mul (two c (by simp)) q3
    have q5 : 2 * 16 ≤ b.toNat * (c.toNat * (d.toNat * (e.toNat * (f.toNat * pr r)))) := Nat.mul_le_mul (two b (by simp)) q4
    have q6 : 2 * 32 ≤ a.toNat * (b.toNat * (c.toNat * (d.toNat * (e.toNat * (f.toNat * pr r))))) := Nat.mul_le_mul (two a (by simp)) q5
    omega
theorem tk_moduli (M Z : Addr) (n e : Int) : (tfs M Z n e).lookup ("moduli" : Str) = some (.ref M) := lkHere
theorem tk_order (M Z : Addr) (n e : Int) : (tfs M Z n e).lookup ("order" : Str) = some (.int n) := (lkPast (by decide +kernel)).trans lkHere
theorem tk_exponent (M Z : Addr) (n e : Int) : (tfs M Z n e).lookup ("exponent" : Str) = some (.int e) := (lkPast (by decide +kernel)).trans ((lkPast (by decide +kernel)).trans lkHere)
theorem tk_zero (M Z : Addr) (n e : Int) : (tfs M Z n e).lookup ("zero" : Str) = some (.ref Z) := (lkPast (by decide +kernel)).trans ((lkPast (by decide +kernel)).trans ((lkPast (by decide +kernel)).trans lkHere))
theorem tk_no {m : Str} (h1 : (m == ("moduli" : Str)) = false) (h2 : (m == ("order" : Str)) = false) (h3 : (m == ("exponent" : Str)) = false) (h4 : (m == ("zero" : Str)) = false) (M Z : Addr) (n e : Int) : (tfs M Z n e).lookup m = none :=
  (lkPast h1).trans ((lkPast h2).trans ((lkPast h3).trans ((lkPast h4).trans rfl)))
theorem putF_new {k : Str} {v : V} : ∀ {l : List (Str × V)}, (∀ q ∈ l, ¬ (q.1 = k)) → putF k v l = l ++ [(k, v)]
  | [], _ => rfl
  | q :: l, h => by
    show (if q.1 = k then _ else q :: putF k v l) = _
    rw [if_neg (h q List.mem_cons_self), putF_new fun x hx => h x (List.mem_cons_of_mem _ hx)]; rfl
theorem tput1 (M : Addr) : putF "moduli" (.ref M) [] = ([("moduli", .ref M)] : List (Str × V)) := rfl
theorem tput2 (M : Addr) (n : Int) : putF "order" (.int n) [(("moduli" : Str), V.ref M)] = ([("moduli", .ref M), ("order", .int n)] : List (Str × V)) := putF_new fun q hq => by
  rw [List.mem_singleton.mp hq]; exact (by decide +kernel : ¬ (("moduli" : Str) = "order"))
theorem tput3 (M : Addr) (n e : Int) : putF "exponent" (.int e) [(("moduli" : Str), V.ref M), ("order", .int n)] = ([("moduli", .ref M), ("order", .int n), ("exponent", .int e)] : List (Str × V)) := putF_new fun q hq => by
  rcases List.mem_cons.mp hq with h | h
  · rw [h]; exact (by decide +kernel : ¬ (("moduli" : Str) = "exponent"))
  · rw [List.mem_singleton.mp h]; exact (by decide +kernel : ¬ (("order" : Str) = "exponent"))
theorem tput4 (M Z : Addr) (n e : Int) : putF "zero" (.ref Z) [(("moduli" : Str), V.ref M), ("order", .int n), ("exponent", .int e)] = tfs M Z n e := putF_new fun q hq => by
  rcases List.mem_cons.mp hq with h | h
  · rw [h]; exact (by decide +kernel : ¬ (("moduli" : Str) = "zero"))
  rcases List.mem_cons.mp h with h | h
  · rw [h]; exact (by decide +kernel : ¬ (("order" : Str) = "zero"))
  · rw [List.mem_singleton.mp h]; exact (by decide +kernel : ¬ (("exponent" : Str) = "zero"))
def BigOk (ms : List Int) : Prop := ∀ m ∈ ms, m.natAbs ≤ 2 ^ 140
def sp_tinit (K : PySem.W.Frag) : Sp := fun vs H Q E => ∃ (g dx a : Addr) (ms : List Int), vs = [.ref g, .ref a] ∧ H g = some (.ins (tC K) dx []) ∧ H a = some (.lst (ms.map V.int)) ∧ ms.length ≤ 64 ∧ BigOk ms ∧
  (¬ OkM ms → ∀ H', Same H H' → E (.ref (eT K)) none H') ∧ (OkM ms → 32 < pr ms → ∀ H', Same H H' → E (.ref (eL K)) none H') ∧
  (OkM ms → pr ms ≤ 32 → ∀ H', (∀ b o, b ≠ g → H b = some o → H' b = some o) → TgtAt (tC K) H' g ms → Q .non H')
theorem natLt {n : Nat} {k : Nat} (h : n ≤ 2 ^ k) (k2 : k < 9000) : (n : Int) < 2 ^ 9000 := by
  have : n < 2 ^ 9000 := Nat.lt_of_le_of_lt h (Nat.pow_lt_pow_right (by decide) k2)
  exact_mod_cast this
section
variable {P : Program} {w : World} {K : PySem.W.Frag} {mg : Str → Option Value} {base : Heap} {f : Addr} {fd : FuncData}
abbrev s_Target___init__ : Stmt := (inClass (top 18) 0)
theorem sc_Target___init__ : FnScope ["self", "moduli", "order", "exponent", "modulus"] ["self", "moduli"] (defScope s_Target___init__) := ⟨rfl, rfl, rfl, by decide +kernel, rfl, by decide +kernel, by decide +kernel⟩
theorem ok_tinit (F : FnP K "__init__" "Target.__init__" s_Target___init__ f fd) (T : Txt K mg) : FnOk P w K mg base (L2.CX P w) 1 f fd ["self", "moduli"] (sp_tinit K) := by
  refine F.ok sc_Target___init__ (fun vs H Q E h => ?_) (fun cdv A outer s H vs Q E hr h => ?_)
  · obtain ⟨_, _, _, _, rfl, _⟩ := h; rfl
  obtain ⟨g, dx, a, ms, rfl, hg, ha, z64, big, kT, kL, k⟩ := h
  obtain ⟨tL, g_LIMIT⟩ := T.LIMIT
  refine ⟨_, (pss_cons (ps_set (i := 2) sc_Target___init__.nd rfl (Or.inl rfl) pe_int)
  (pss_cons (ps_set (i := 3) sc_Target___init__.nd rfl (Or.inl rfl) pe_int)
  (pss_cons (ps_for (passes_of rfl) rfl (Rk.pl K rfl (pv 1)) (pg_name (i := 4) sc_Target___init__.nd rfl (Or.inl rfl))
  (pss_cons (ps_if (pt_cmpR op_lt (pv 4) pe_int (nomark _))
  (pss_one (ps_raise rfl (takes_of rfl rfl rfl rfl) (pmk_own PySem.F.excBase_ValueError T.ex_InvalidTarget.xP T.ex_InvalidTarget.gP T.ex_InvalidTarget.kP (raises_own T.ex_InvalidTarget.bP T.ex_InvalidTarget.tP) rfl)))
  pss_nil)
  (pss_cons (ps_set (i := 2) sc_Target___init__.nd rfl (Or.inl rfl) (pe_op op_mulW (pv 2) (pv 4)))
  (pss_one (ps_set (i := 3) sc_Target___init__.nd rfl (Or.inl rfl) (pe_callBfun Rz.cr_lcm rfl T.lcm (pa_cons (pv 3) (pa_cons (pv 4) pa_nil))))))))
  (pss_cons (ps_if (pt_cmpR op_gt (pv 2) (pe_glob (v := .int 32) rfl g_LIMIT ⟨_, rfl⟩) (nomark _))
  (pss_one (ps_raise rfl (takes_of rfl rfl rfl rfl) (pmk_own PySem.F.excBase_ValueError T.ex_LimitExceeded.xP T.ex_LimitExceeded.gP T.ex_LimitExceeded.kP (raises_own T.ex_LimitExceeded.bP T.ex_LimitExceeded.tP) rfl)))
  pss_nil)
  (pss_cons (ps_fld (pv 0) (pe_callTy (Rk.tup K) rfl T.tuple (by decide +kernel) (pa_cons (pv 1) pa_nil)) rfl)
  (pss_cons (ps_fld (pv 0) (pv 2) rfl)
  (pss_cons (ps_fld (pv 0) (pv 3) rfl)
  (pss_one (ps_fld (pv 0) (pe_op (Rk.repS K) (pe_tup (pa_cons pe_int pa_nil)) (pe_callB (Rk.len K) rfl T.len PySem.boot_len (pa_cons (pv 1) pa_nil))) rfl))))))))), ?_⟩
  have bigN : ∀ m ∈ ms, m.toNat ≤ 2 ^ 140 := fun m hm => Nat.le_trans (by omega) (big m hm)
  walk_at "st"
  refine Rd.itl' (SqL.of ha) ?_
  refine for_list (K := K) (a := a) (xs := ms.map V.int) (fun i σ H' => ∃ (v : Option V), σ = [some (.ref g), some (.ref a), some (.int (pr (ms.take i) : Nat)), some (.int (lcF (ms.take i) : Nat)), v] ∧ H' = H ∧ ∀ m ∈ ms.take i, 2 ≤ m)
    ⟨none, rfl, rfl, fun m hm => by rw [List.take_zero] at hm; cases hm⟩ (fun i σ H' _ ⟨_, _, e, _⟩ => e ▸ SqL.of ha) ?_ ?_
  · rintro i x σ H' hx ⟨v, rfl, rfl, ok⟩
    obtain ⟨m, hm, rfl⟩ := intAt hx
    have hi := (List.getElem?_eq_some_iff.mp hm).1
    have mm := List.mem_of_getElem? hm
    walk_at "st"
    refine Rd.ite_d (fun c => ?_) (fun c => ?_)
    · exact kT (fun o => by have := o m mm; omega) _ (Same.refl _)
    have pb := pr_bound bigN i (by omega)
    have lb := lcF_pr (ms := ms) i (by omega)
    have m0 : 0 ≤ m := by omega
    have mb : m < 2 ^ 200 := by
      have h1 := bigN m mm
      have h2 : (m.toNat : Int) < 2 ^ 200 := by
        have : m.toNat < 2 ^ 200 := Nat.lt_of_le_of_lt h1 (Nat.pow_lt_pow_right (by decide) (by decide))
        exact_mod_cast this
      omega
    have p9 : pr (ms.take i) < 2 ^ 9000 := Nat.lt_of_le_of_lt pb (Nat.pow_lt_pow_right (by decide) (by omega))
    have l9 : ((lcF (ms.take i) : Nat) : Int) < 2 ^ 9000 := natLt (Nat.le_trans lb pb) (by omega)
    walk_at "st"
    refine Rd.iC (wide_mul (a := 9000) (b := 200) (by rw [Int.natAbs_natCast]; exact p9) (Nat.lt_of_le_of_lt (big m mm) (Nat.pow_lt_pow_right (by decide) (by decide))) (by decide) (by decide) (by decide)) ?_
    walk_at "st"
    refine ⟨_, _, rfl, by omega, m0, l9, mb, ?_⟩
    walk_at "st"
    refine ⟨some (.int m), ?_, rfl, fun y hy => ?_⟩
    · rw [pr_take hm, lcF_take hm, Int.natCast_mul, Int.toNat_of_nonneg m0]; rfl
    · rw [List.take_add_one, hm] at hy
      rcases List.mem_append.mp hy with h | h
      · exact ok y h
      · rw [List.mem_singleton.mp h]; omega
  · rintro σ H' ⟨v, rfl, rfl, ok⟩
    rw [List.length_map, List.take_length] at ok
    rw [List.length_map, List.take_length]
    have okm : OkM ms := ok
    walk_at "st"
    refine Rd.ite_d (fun c => kL okm (by omega) _ (Same.refl _)) (fun c => ?_)
    have le : pr ms ≤ 32 := by omega
    have few := few_of okm le
    walk_at "st"
    refine ⟨a, _, rfl, .inl ⟨SqL.of ha, fun M oM hM hoM => ?_⟩⟩
    have e1 : Same H' (upd H' M (.frz oM (.tup (ms.map V.int)))) := Rd.same_mk hM
    have hT : TupN (upd H' M (.frz oM (.tup (ms.map V.int)))) M (ms.map V.int) := TupN.mk hoM
    have nMg : M ≠ g := fun z => by rw [z, hg] at hM; cases hM
    generalize upd H' M (.frz oM (.tup (ms.map V.int))) = H1 at e1 hT
    walk_at "st"
    refine ⟨g, tC K, dx, [], rfl, e1 _ _ hg, T.tcl, T.tM, by decide, ?_⟩
    rw [tput1]
    walk_at "st"
    refine ⟨g, tC K, dx, _, rfl, upd_same, T.tcl, T.tO, by show 1 < 1000; decide, ?_⟩
    rw [tput2]
    walk_at "st"
    refine ⟨g, tC K, dx, _, rfl, upd_same, T.tcl, T.tE, by show 2 < 1000; decide, ?_⟩
    rw [tput3]
    have hag : a ≠ g := fun z => by rw [z, hg] at ha; cases ha
    have ha2 : ∀ o1 o2 o3, (upd (upd (upd H1 g o1) g o2) g o3) a = some (.lst (ms.map V.int)) := fun o1 o2 o3 => by rw [upd_ne hag, upd_ne hag, upd_ne hag]; exact e1 _ _ ha
    have keep : ∀ o1 o2 o3 b o, b ≠ g → H' b = some o → (upd (upd (upd H1 g o1) g o2) g o3) b = some o := fun o1 o2 o3 b o n h => by rw [upd_ne n, upd_ne n, upd_ne n]; exact e1 _ _ h
    have hT2 : ∀ o1 o2 o3, TupN (upd (upd (upd H1 g o1) g o2) g o3) M (ms.map V.int) := fun o1 o2 o3 => ((hT.put nMg).put nMg).put nMg
    have hg2 : ∀ o1 o2 o3, (upd (upd (upd H1 g o1) g o2) g o3) g = some o3 := fun _ _ _ => upd_same
    generalize hH2 : upd (upd (upd H1 g _) g _) g _ = H2
    have ha2 := hH2 ▸ ha2 _ _ _
    have keep := fun b o => hH2 ▸ keep _ _ _ b o
    have hT2 := hH2 ▸ hT2 _ _ _
    have hg2 := hH2 ▸ hg2 _ _ _
    walk_at "st"
    refine ⟨(by decide : 1 ≤ sizeLine), fun l hl => ?_⟩
    have e3 : Same H2 (upd H2 l (.tup [.int 0])) := Rd.same_mk hl
    have hL : (upd H2 l (.tup [.int 0])) l = some (.tup [.int 0]) := upd_same
    generalize upd H2 l (.tup [.int 0]) = H3 at e3 hL
    walk_at "st"
    refine Rd.len1 (.inl (SqL.of (e3 _ _ ha2))) ?_
    rw [List.length_map]
    refine ⟨l, _, .int 0, rfl, rfl, SqT.of hL, by omega, by omega, fun h1 => ?_, fun h1 p hp => ?_⟩
    · have nlg : l ≠ g := fun z => by rw [z, hg2] at hl; cases hl
      walk_at "st"
      refine ⟨g, tC K, dx, _, rfl, e3 _ _ hg2, T.tcl, T.tZ, by show 3 < 1000; decide, ?_⟩
      rw [tput4]
      refine k okm le _ (fun b o n h => by rw [upd_ne n]; exact e3 _ _ (keep b o n h)) ⟨okm, le, dx, M, l, upd_same, (hT2.same e3).put nMg, ?_⟩
      rw [upd_ne nlg, hL, show ms.length = 1 by omega]; rfl
    · have e4 : Same H2 (upd H3 p (.tup (List.replicate (ms.length : Int).toNat (.int 0)))) := Rd.same_add e3 hp
      have hp2 : (upd H3 p (.tup (List.replicate (ms.length : Int).toNat (.int 0)))) p = some (.tup (List.replicate ms.length (.int 0))) := upd_same
      have npg : p ≠ g := fun z => by rw [z, e3 _ _ hg2] at hp; cases hp
      generalize upd H3 p (.tup (List.replicate (ms.length : Int).toNat (.int 0))) = H4 at e4 hp2
      walk_at "st"
      refine ⟨g, tC K, dx, _, rfl, e4 _ _ hg2, T.tcl, T.tZ, by show 3 < 1000; decide, ?_⟩
      rw [tput4]
      exact k okm le _ (fun b o n h => by rw [upd_ne n]; exact e4 _ _ (keep b o n h)) ⟨okm, le, dx, M, p, upd_same, (hT2.same e4).put nMg, by rw [upd_ne npg]; exact hp2⟩
end
end K02

set_option Elab.async false
set_option linter.all false
set_option maxRecDepth 100000
set_option maxHeartbeats 4000000
namespace K02
open PySem L2 Rd GT
local macro_rules | `(tactic| walk_at "st1") => `(tactic| with_reducible first
  | refine' Rd.seq ?_ | refine' Rd.nxt ?_ | refine' Rd.asg ?_ | refine' Rd.nm ?_ | refine' Rd.con ?_ | refine' Rd.op ?_ | refine' Rd.i0 ?_ | refine' Rd.un ?_ | refine' Rd.u0 ?_
  | refine' Rd.eqI ?_ | refine' Rd.neI ?_ | refine' Rd.eqB ?_ | refine' Rd.tst ?_ | refine' Rd.tB_ ?_ | refine' Rd.exb ?_ | refine' Rd.ifS ?_ | refine' Rd.ret ?_ | refine' Rd.retN ?_ | refine' Rd.drop ?_
  | refine' Rd.nil ?_ | refine' Rd.cons ?_ | refine' Rd.cb ?_ | refine' Rd.call ?_ | refine' Rd.callN ?_ | refine' Rd.z2 ?_ | refine' Rd.z3 ?_ | refine' Rd.revA ?_ | refine' Rd.revL ?_ | refine' Rd.star ?_ | refine' Rd.lc2 ?_ | refine' Rd.andT ?_ | refine' Rd.orT ?_ | refine' Rd.notT ?_ | refine' Rd.andV ?_ | refine' Rd.orV ?_ | refine' Rd.notV ?_ | refine' Rd.chain ?_
  | refine' Rd.lst ?_ | refine' Rd.tup ?_ | refine' Rd.for_ ?_ | refine' Rd.rng1 ?_ | refine' Rd.rng2 ?_ | refine' Rd.itl ?_ | refine' Rd.itt ?_ | refine' Rd.sub ?_
  | refine' Rd.lrg ?_ | refine' Rd.rg1 ?_ | refine' Rd.rg2 ?_ | refine' Rd.exi ?_ | refine' Rd.exi2 ?_ | refine' Rd.int1 ?_ | refine' Rd.ex1 ?_ | refine' Rd.ex2 ?_
  | refine' Rd.fld ?_ | refine' Rd.sfld ?_ | refine' Rd.meth ?_ | refine' Rd.make ?_ | refine' Rd.lc ?_ | refine' Rd.bm ?_ | refine' Rd.bm0 ?_ | refine' Rd.bt ?_ | refine' Rd.enT ?_ | refine' Rd.enL ?_)
local macro_rules | `(tactic| walk_at "st") => `(tactic| repeat (first | walk_at "st1" | ((with_reducible refine' Rd.var ?hv ?_); (case hv => rfl))))
local macro_rules | `(tactic| walk_at "sj1") => `(tactic| with_reducible first
  | refine' Rd.seqA ?_ | refine' Rd.seqD ?_ | refine' Rd.seqF ?_ | refine' Rd.seqW ?_ | refine' Rd.nxt ?_ | refine' Rd.asg ?_ | refine' Rd.nm ?_ | refine' Rd.con ?_ | refine' Rd.op ?_ | refine' Rd.i0 ?_ | refine' Rd.un ?_ | refine' Rd.u0 ?_
  | refine' Rd.eqI ?_ | refine' Rd.neI ?_ | refine' Rd.eqB ?_ | refine' Rd.tst ?_ | refine' Rd.tB_ ?_ | refine' Rd.exb ?_ | refine' Rd.ifS ?_ | refine' Rd.ret ?_ | refine' Rd.retN ?_ | refine' Rd.drop ?_
  | refine' Rd.nil ?_ | refine' Rd.cons ?_ | refine' Rd.cb ?_ | refine' Rd.call ?_ | refine' Rd.callN ?_ | refine' Rd.z2 ?_ | refine' Rd.z3 ?_ | refine' Rd.revA ?_ | refine' Rd.revL ?_ | refine' Rd.star ?_ | refine' Rd.lc2 ?_ | refine' Rd.andT ?_ | refine' Rd.orT ?_ | refine' Rd.notT ?_ | refine' Rd.andV ?_ | refine' Rd.orV ?_ | refine' Rd.notV ?_ | refine' Rd.chain ?_
  | refine' Rd.lst ?_ | refine' Rd.tup ?_ | refine' Rd.for_ ?_ | refine' Rd.rng1 ?_ | refine' Rd.rng2 ?_ | refine' Rd.itl ?_ | refine' Rd.itt ?_ | refine' Rd.sub ?_
  | refine' Rd.lrg ?_ | refine' Rd.rg1 ?_ | refine' Rd.rg2 ?_ | refine' Rd.exi ?_ | refine' Rd.exi2 ?_ | refine' Rd.int1 ?_ | refine' Rd.ex1 ?_ | refine' Rd.ex2 ?_
  | refine' Rd.fld ?_ | refine' Rd.sfld ?_ | refine' Rd.meth ?_ | refine' Rd.make ?_ | refine' Rd.lc ?_ | refine' Rd.bm ?_ | refine' Rd.bm0 ?_ | refine' Rd.bt ?_ | refine' Rd.enT ?_ | refine' Rd.enL ?_)
local macro_rules | `(tactic| walk_at "sj") => `(tactic| repeat (first | walk_at "sj1" | ((with_reducible refine' Rd.var ?hv ?_); (case hv => rfl))))
/-- what the law asks of the classes -/
structure Txt4 (K : PySem.W.Frag) (mg : Str → Option Value) : Prop where
  g_Group : mg "Group" = some (.ref (He.ga K "Group"))
  g_Target : mg "Target" = some (.ref (He.ga K "Target"))
  ha : PySem.W.findIn K (.ref (He.ga K "Group")) "__class__" = some (some (.builtin "object.__class__"))
  ta : PySem.W.findIn K (.ref (He.ga K "Target")) "__class__" = some (some (.builtin "object.__class__"))
  hn : PySem.W.specialIn K (.builtin "object.__class__") "__get__" = some (some (.builtin "getset_descriptor.__get__"))
  htk : PySem.W.takesIn K (.builtin "object.__class__") = some true
  hm : PySem.W.mroIn K (He.ga K "Group") (.type "object") = some true
  tm : PySem.W.mroIn K (He.ga K "Target") (.type "object") = some true
  kgg : PySem.W.kitOne K (.ref (He.ga K "Group")) (.ref (He.ga K "Group")) = some true
  ktt : PySem.W.kitOne K (.ref (He.ga K "Target")) (.ref (He.ga K "Target")) = some true
  kgt : PySem.W.kitOne K (.ref (He.ga K "Group")) (.ref (He.ga K "Target")) = some false
  ktg : PySem.W.kitOne K (.ref (He.ga K "Target")) (.ref (He.ga K "Group")) = some false
  tg : PySem.W.notFirst K (He.ga K "Target") (.ref (He.ga K "Group")) = true
  gt : PySem.W.notFirst K (He.ga K "Group") (.ref (He.ga K "Target")) = true
def TupP (H : Hp) (a : Addr) (xs : List V) : Prop := H a = some (.tup xs)
def sp_teq (K : PySem.W.Frag) : Sp := fun vs H Q _ => ∃ (a b : Addr) (ms : List Int), vs = [.ref a, .ref b] ∧ TgtAt (tC K) H a ms ∧ ((∃ ns, TgtAt (tC K) H b ns ∧ Q (.bl (decide (ms = ns))) H) ∨ (∃ t, GrpAt (gC K) H b t ∧ Q (.bl false) H))
def sp_geq (K : PySem.W.Frag) : Sp := fun vs H Q _ => ∃ (a b : Addr) (t : List (List Int)) (ms : List Int), vs = [.ref a, .ref b] ∧ GrpAt (gC K) H a t ∧ TgtAt (tC K) H b ms ∧ Q (.bl false) H
def sp_isv (K : PySem.W.Frag) : Sp := fun vs H Q _ => ∃ (g v : Addr) (ms w : List Int), vs = [.ref g, .ref v] ∧ TgtAt (tC K) H g ms ∧ TupX H v (w.map V.int) ∧ w.length ≤ 1000 ∧ ∀ (b : Bool) (H' : Hp), (b = true ↔ Val ms w) → Same H H' → Q (.bl b) H'
def sp_bin (K : PySem.W.Frag) (o : Int → Int → Int) : Sp := fun vs H Q _ => ∃ (g a b : Addr) (ms x y : List Int), vs = [.ref g, .ref a, .ref b] ∧ TgtAt (tC K) H g ms ∧ TupX H a (x.map V.int) ∧ TupX H b (y.map V.int) ∧ x.length = ms.length ∧ y.length = ms.length ∧ ∀ l H', H l = none → Same H H' → TupN H' l ((opV o ms x y).map V.int) → Q (.ref l) H'
def sp_times (K : PySem.W.Frag) : Sp := fun vs H Q _ => ∃ (g a : Addr) (c : Int) (ms x : List Int), vs = [.ref g, .int c, .ref a] ∧ TgtAt (tC K) H g ms ∧ TupX H a (x.map V.int) ∧ Val ms x ∧ ∀ l H', H l = none → Same H H' → TupN H' l ((opV (fun x _ => c * x) ms x x).map V.int) → Q (.ref l) H'
section
variable {P : Program} {w : World} {K : PySem.W.Frag} {mg : Str → Option Value} {base : Heap} {f : Addr} {fd : FuncData}
abbrev s_Target___eq__ : Stmt := (inClass (top 18) 1)
theorem sc_Target___eq__ : FnScope ["self", "other"] ["self", "other"] (defScope s_Target___eq__) := ⟨rfl, rfl, rfl, by decide +kernel, rfl, by decide +kernel, by decide +kernel⟩
theorem ok_teq (F : FnP K "__eq__" "Target.__eq__" s_Target___eq__ f fd) (T : Txt K mg) (T4 : Txt4 K mg) : FnOk P w K mg base CX0 1 f fd ["self", "other"] (sp_teq K) := by
  refine F.ok sc_Target___eq__ (fun vs H Q E h => ?_) (fun cdv A outer s H vs Q E hr h => ?_)
  · obtain ⟨_, _, _, rfl, _⟩ := h; rfl
  obtain ⟨a, b, ms, rfl, G, k⟩ := h
  obtain ⟨dx, M, Z, hg, hM, hZ⟩ := G.ob
  refine ⟨_, PSs.nox (pss_one (ps_ret (pe_and (pe_callB (Rk.isi K) rfl T.isinstance (by decide +kernel) (pa_cons (pv 1) (pa_cons (pe_glob (v := .ref (He.ga K "Target")) rfl T4.g_Target rfl) pa_nil))) (pe_one (pe_cmpR (Rk.eqD K rfl (un64 hr)) (Rk.fld K rfl (pv 0) rfl) (Rk.fld K rfl (pv 1) rfl) (nomark _)))))), ?_⟩
  rcases k with ⟨ns, G2, k⟩ | ⟨t, G2, k⟩
  · obtain ⟨dx2, M2, Z2, hg2, hM2, hZ2⟩ := G2.ob
    walk_at "st"
    refine ⟨.ref b, .ref (tC K), .ref (tC K), .ref (tC K), true, rfl, .own _, .base (.ins hg2 T.tcl T4.ta T4.hn T4.htk T4.tm), T4.ktt, ?_⟩
    walk_at "st"
    refine (if_pos rfl).mpr ?_
    walk_at "st"
    refine Rd.fld' hg T.tcl T.tM (tk_moduli _ _ _ _) ?_
    walk_at "st"
    refine Rd.fld' hg2 T.tcl T.tM (tk_moduli _ _ _ _) ?_
    exact Rd.eqTT hM.sq hM2.sq k
  · obtain ⟨dx2, R2, I2, rs2, hg2, _, _, _⟩ := G2.ob
    walk_at "st"
    refine ⟨.ref b, .ref (tC K), .ref (gC K), .ref (tC K), false, rfl, .own _, .base (.ins hg2 T.cl T4.ha T4.hn T4.htk T4.hm), T4.kgt, ?_⟩
    walk_at "st"
    refine (if_neg Bool.false_ne_true).mpr ?_
    exact k
abbrev s_Group___eq__ : Stmt := (inClass (top 12) 1)
theorem sc_Group___eq__ : FnScope ["self", "other"] ["self", "other"] (defScope s_Group___eq__) := ⟨rfl, rfl, rfl, by decide +kernel, rfl, by decide +kernel, by decide +kernel⟩
theorem ok_geq (F : FnP K "__eq__" "Group.__eq__" s_Group___eq__ f fd) (T : Txt K mg) (T4 : Txt4 K mg) : FnOk P w K mg base CX0 1 f fd ["self", "other"] (sp_geq K) := by
  refine F.ok sc_Group___eq__ (fun vs H Q E h => ?_) (fun cdv A outer s H vs Q E hr h => ?_)
  · obtain ⟨_, _, _, _, rfl, _⟩ := h; rfl
  obtain ⟨a, b, t, ms, rfl, G, G2, k⟩ := h
  obtain ⟨dx2, M2, Z2, hg2, hM2, hZ2⟩ := G2.ob
  refine ⟨_, PSs.nox (pss_one (ps_ret (pe_and (pe_callB (Rk.isi K) rfl T.isinstance (by decide +kernel) (pa_cons (pv 1) (pa_cons (pe_glob (v := .ref (He.ga K "Group")) rfl T4.g_Group rfl) pa_nil))) (pe_one (pe_cmpR (Rk.eqD K rfl (un64 hr)) (Rk.fld K rfl (pv 0) rfl) (Rk.fld K rfl (pv 1) rfl) (nomark _)))))), ?_⟩
  walk_at "st"
  refine ⟨.ref b, .ref (gC K), .ref (tC K), .ref (gC K), false, rfl, .own _, .base (.ins hg2 T.tcl T4.ta T4.hn T4.htk T4.tm), T4.ktg, ?_⟩
  walk_at "st"
  refine (if_neg Bool.false_ne_true).mpr ?_
  exact k
abbrev s_Target_is_value : Stmt := (inClass (top 18) 2)
theorem sc_Target_is_value : FnScope ["self", "value", "entry", "modulus"] ["self", "value"] (defScope s_Target_is_value) := ⟨rfl, rfl, rfl, by decide +kernel, rfl, by decide +kernel, by decide +kernel⟩
theorem ok_isv (F : FnP K "is_value" "Target.is_value" s_Target_is_value f fd) (T : Txt K mg) : FnOk P w K mg base CX0 1 f fd ["self", "value"] (sp_isv K) := by
  refine F.ok sc_Target_is_value (fun vs H Q E h => ?_) (fun cdv A outer s H vs Q E hr h => ?_)
  · obtain ⟨_, _, _, _, rfl, _⟩ := h; rfl
  obtain ⟨g, v, ms, w, rfl, G, hv, z, k⟩ := h
  obtain ⟨dx, M, Z, hg, hM, hZ⟩ := G.ob
  have few := G.few
  refine ⟨_, PSs.nox (pss_cons (ps_if (pt_cmpR op_ne (pe_callB (Rk.len K) rfl T.len PySem.boot_len (pa_cons (pv 1) pa_nil)) (pe_callB (Rk.len K) rfl T.len PySem.boot_len (pa_cons (Rk.fld K rfl (pv 0) rfl) pa_nil)) (nomark _))
  (pss_one (ps_ret pe_bl))
  pss_nil)
  (pss_one (ps_ret (pe_callB (Rk.all K rfl rfl) rfl T.all (by decide +kernel) (pa_cons (pe_lc (own := [("entry", 2), ("modulus", 3)]) rfl sc_Target_is_value.nd (Rk.zip2 K rfl rfl T.zip (pa_cons (pv 1) (pa_cons (Rk.fld K rfl (pv 0) rfl) pa_nil))) (blkOk_by (own := [("entry", 2), ("modulus", 3)]) (N := ["self", "value", "entry", "modulus"]) (sc := defScope s_Target_is_value) (by decide +kernel)) (fun _ _ _ _ _ => (Rk.gtup K rfl rfl (pgs_cons (pg_name (i := 2) sc_Target_is_value.nd rfl (Or.inl rfl)) (pgs_cons (pg_name (i := 3) sc_Target_is_value.nd rfl (Or.inl rfl)) pgs_nil)) (n := 2))) (fun _ _ _ _ _ => pts_nil) (fun _ _ _ _ _ => (pe_chain op_le op_lt pe_int (pv 2) (pv 3)))) pa_nil))))), ?_⟩
  walk_at "st"
  refine Rd.len1 (.inr hv.sq) ?_
  walk_at "st"
  refine Rd.fld' hg T.tcl T.tM (tk_moduli _ _ _ _) ?_
  refine Rd.len1 (.inr hM.sq) ?_
  rw [List.length_map, List.length_map]
  walk_at "st"
  refine Rd.ite_n (fun c => ?_) (fun c => ?_)
  · walk_at "st"
    refine k false H ?_ (Same.refl _)
    simp
    intro h
    have := h.len
    omega
  have l : w.length = ms.length := by omega
  walk_at "st"
  refine Rd.fld' hg T.tcl T.tM (tk_moduli _ _ _ _) ?_
  refine ⟨v, M, .T, .T, w.map V.int, ms.map V.int, rfl, hv.sq, hM.sq, ?_⟩
  have ll : (ms.map V.int).length = (w.map V.int).length := by rw [List.length_map, List.length_map]; omega
  refine Rz.lcMapG (n := (w.map V.int).length) (fun i => .bl (decide (0 ≤ w.getD i 0) && decide (w.getD i 0 < ms.getD i 0))) (Rz.go2 (k1 := .T) (k2 := .T) hv.sq hM.sq ll) (Rz.stop2 (k1 := .T) (k2 := .T) hv.sq hM.sq ll) (by rw [List.length_map]; omega) (fun i v' H1 H2 Q1 hi e y q1 => ?_) (fun p H1 hp e h5 => ?_) (fun v σ H P P' h q => Rz.gm2 v σ H P P' h q)
  · obtain ⟨TT, x, y', rfl, hx, hy, hT, s2⟩ := Rz.yld2 (k1 := .T) (k2 := .T) hv.sq hM.sq e y
    obtain ⟨x, hx2, rfl⟩ := intAt hx
    obtain ⟨m, hm, rfl⟩ := intAt hy
    replace hx := hx2
    rw [getD_of hx, getD_of hm] at q1
    refine Rd.gtup2 (SqT.of hT) ⟨by rfl, ?_⟩
    walk_at "st"
    refine Rd.ite_d (fun c1 => ?_) (fun c1 => ?_)
    · walk_at "st"
      rw [decide_eq_true c1, Bool.true_and] at q1
      exact q1 _ s2
    · rw [decide_eq_false c1, Bool.false_and] at q1
      exact q1 _ s2
  · walk_at "st"
    refine ⟨p, _, rfl, SqL.of (by rw [h5, map_bl]), ?_⟩
    refine k _ _ ?_ e
    rw [all_id, List.length_map, val_iff]
    constructor
    · intro h
      refine ⟨l, fun j x m hx hm => ?_⟩
      have := h j (List.getElem?_eq_some_iff.mp hx).1
      rw [getD_of hx, getD_of hm, Bool.and_eq_true] at this
      exact ⟨of_decide_eq_true this.1, of_decide_eq_true this.2⟩
    · rintro ⟨_, h⟩ j hj
      have hx : w[j]? = some w[j] := List.getElem?_eq_getElem hj
      have hm : ms[j]? = some (ms[j]'(by omega)) := List.getElem?_eq_getElem (by omega)
      obtain ⟨q1, q2⟩ := h j _ _ hx hm
      rw [getD_of hx, getD_of hm, decide_eq_true q1, decide_eq_true q2]; rfl
abbrev s_Target_plus : Stmt := (inClass (top 18) 3)
theorem sc_Target_plus : FnScope ["self", "left", "right", "a", "b", "modulus"] ["self", "left", "right"] (defScope s_Target_plus) := ⟨rfl, rfl, rfl, by decide +kernel, rfl, by decide +kernel, by decide +kernel⟩
theorem ok_plus (F : FnP K "plus" "Target.plus" s_Target_plus f fd) (T : Txt K mg) : FnOk P w K mg base CX0 1 f fd ["self", "left", "right"] (sp_bin K (fun x y => x + y)) := by
  refine F.ok sc_Target_plus (fun vs H Q E h => ?_) (fun cdv A outer s H vs Q E hr h => ?_)
  · obtain ⟨_, _, _, _, _, _, rfl, _⟩ := h; rfl
  obtain ⟨g, a, b, ms, x, y, rfl, G, ha, hb, la, lb, k⟩ := h
  obtain ⟨dx, M, Z, hg, hM, hZ⟩ := G.ob
  have few := G.few
  refine ⟨_, PSs.nox (pss_one (ps_ret (pe_callTy (Rk.tup K) rfl T.tuple (by decide +kernel) (pa_cons (pe_lc (own := [("a", 3), ("b", 4), ("modulus", 5)]) rfl sc_Target_plus.nd (Rk.zip3 K rfl rfl T.zip (pa_cons (pv 1) (pa_cons (pv 2) (pa_cons (Rk.fld K rfl (pv 0) rfl) pa_nil)))) (blkOk_by (own := [("a", 3), ("b", 4), ("modulus", 5)]) (N := ["self", "left", "right", "a", "b", "modulus"]) (sc := defScope s_Target_plus) (by decide +kernel)) (fun _ _ _ _ _ => (Rk.gtup K rfl rfl (pgs_cons (pg_name (i := 3) sc_Target_plus.nd rfl (Or.inl rfl)) (pgs_cons (pg_name (i := 4) sc_Target_plus.nd rfl (Or.inl rfl)) (pgs_cons (pg_name (i := 5) sc_Target_plus.nd rfl (Or.inl rfl)) pgs_nil))) (n := 3))) (fun _ _ _ _ _ => pts_nil) (fun _ _ _ _ _ => (pe_op op_mod (pe_op op_add (pv 3) (pv 4)) (pv 5)))) pa_nil)))), ?_⟩
  walk_at "st"
  refine Rd.fld' hg T.tcl T.tM (tk_moduli _ _ _ _) ?_
  refine ⟨a, b, M, .T, .T, .T, x.map V.int, y.map V.int, ms.map V.int, rfl, ha.sq, hb.sq, hM.sq, ?_⟩
  have l2 : (y.map V.int).length = (x.map V.int).length := by rw [List.length_map, List.length_map]; omega
  have l3 : (ms.map V.int).length = (x.map V.int).length := by rw [List.length_map, List.length_map]; omega
  refine Rz.lcMapG (n := (x.map V.int).length) (fun i => .int ((x.getD i 0 + y.getD i 0) % ms.getD i 0)) (Rz.go3 (k1 := .T) (k2 := .T) (k3 := .T) ha.sq hb.sq hM.sq l2 l3) (Rz.stop3 (k1 := .T) (k2 := .T) (k3 := .T) ha.sq hb.sq hM.sq l2 l3) (by rw [List.length_map]; omega) (fun i v' H1 H2 Q1 hi e yy q1 => ?_) (fun p H1 hp e h5 => ?_) (fun v σ H P P' h q => Rz.gm3 v σ H P P' h q)
  · obtain ⟨TT, x', y', z', rfl, hx, hy, hz, hT, s2⟩ := Rz.yld3 (k1 := .T) (k2 := .T) (k3 := .T) ha.sq hb.sq hM.sq e yy
    obtain ⟨x', hx2, rfl⟩ := intAt hx
    obtain ⟨y', hy2, rfl⟩ := intAt hy
    obtain ⟨m, hm, rfl⟩ := intAt hz
    replace hx := hx2
    replace hy := hy2
    rw [getD_of hx, getD_of hy, getD_of hm] at q1
    have m2 := G.ok m (List.mem_of_getElem? hm)
    refine Rz.gtup3 (SqT.of hT) ⟨by rfl, ?_⟩
    walk_at "st"
    refine Rd.iC (by show 0 < m; omega) ?_
    exact q1 _ s2
  · walk_at "st"
    refine ⟨p, _, rfl, .inl ⟨SqL.of h5, fun l ob hl hob => ?_⟩⟩
    have q := TupN.mk (H := H1) (a := l) (xs := (List.range (x.map V.int).length).map fun i => V.int ((x.getD i 0 + y.getD i 0) % ms.getD i 0)) hob
    refine k l _ (Same.free e hl) (e.trans (Rd.same_mk hl)) ?_
    rw [List.length_map, la, map_in, opV_row (f := fun x y => x + y) la lb] at q ⊢
    exact q
abbrev s_Target_minus : Stmt := (inClass (top 18) 4)
theorem sc_Target_minus : FnScope ["self", "left", "right", "a", "b", "modulus"] ["self", "left", "right"] (defScope s_Target_minus) := ⟨rfl, rfl, rfl, by decide +kernel, rfl, by decide +kernel, by decide +kernel⟩
theorem ok_minus (F : FnP K "minus" "Target.minus" s_Target_minus f fd) (T : Txt K mg) : FnOk P w K mg base CX0 1 f fd ["self", "left", "right"] (sp_bin K (fun x y => x - y)) := by
  refine F.ok sc_Target_minus (fun vs H Q E h => ?_) (fun cdv A outer s H vs Q E hr h => ?_)
  · obtain ⟨_, _, _, _, _, _, rfl, _⟩ := h; rfl
  obtain ⟨g, a, b, ms, x, y, rfl, G, ha, hb, la, lb, k⟩ := h
  obtain ⟨dx, M, Z, hg, hM, hZ⟩ := G.ob
  have few := G.few
  refine ⟨_, PSs.nox (pss_one (ps_ret (pe_callTy (Rk.tup K) rfl T.tuple (by decide +kernel) (pa_cons (pe_lc (own := [("a", 3), ("b", 4), ("modulus", 5)]) rfl sc_Target_minus.nd (Rk.zip3 K rfl rfl T.zip (pa_cons (pv 1) (pa_cons (pv 2) (pa_cons (Rk.fld K rfl (pv 0) rfl) pa_nil)))) (blkOk_by (own := [("a", 3), ("b", 4), ("modulus", 5)]) (N := ["self", "left", "right", "a", "b", "modulus"]) (sc := defScope s_Target_minus) (by decide +kernel)) (fun _ _ _ _ _ => (Rk.gtup K rfl rfl (pgs_cons (pg_name (i := 3) sc_Target_minus.nd rfl (Or.inl rfl)) (pgs_cons (pg_name (i := 4) sc_Target_minus.nd rfl (Or.inl rfl)) (pgs_cons (pg_name (i := 5) sc_Target_minus.nd rfl (Or.inl rfl)) pgs_nil))) (n := 3))) (fun _ _ _ _ _ => pts_nil) (fun _ _ _ _ _ => (pe_op op_mod (pe_op op_sub (pv 3) (pv 4)) (pv 5)))) pa_nil)))), ?_⟩
  walk_at "st"
  refine Rd.fld' hg T.tcl T.tM (tk_moduli _ _ _ _) ?_
  refine ⟨a, b, M, .T, .T, .T, x.map V.int, y.map V.int, ms.map V.int, rfl, ha.sq, hb.sq, hM.sq, ?_⟩
  have l2 : (y.map V.int).length = (x.map V.int).length := by rw [List.length_map, List.length_map]; omega
  have l3 : (ms.map V.int).length = (x.map V.int).length := by rw [List.length_map, List.length_map]; omega
  refine Rz.lcMapG (n := (x.map V.int).length) (fun i => .int ((x.getD i 0 - y.getD i 0) % ms.getD i 0)) (Rz.go3 (k1 := .T) (k2 := .T) (k3 := .T) ha.sq hb.sq hM.sq l2 l3) (Rz.stop3 (k1 := .T) (k2 := .T) (k3 := .T) ha.sq hb.sq hM.sq l2 l3) (by rw [List.length_map]; omega) (fun i v' H1 H2 Q1 hi e yy q1 => ?_) (fun p H1 hp e h5 => ?_) (fun v σ H P P' h q => Rz.gm3 v σ H P P' h q)
  · obtain ⟨TT, x', y', z', rfl, hx, hy, hz, hT, s2⟩ := Rz.yld3 (k1 := .T) (k2 := .T) (k3 := .T) ha.sq hb.sq hM.sq e yy
    obtain ⟨x', hx2, rfl⟩ := intAt hx
    obtain ⟨y', hy2, rfl⟩ := intAt hy
    obtain ⟨m, hm, rfl⟩ := intAt hz
    replace hx := hx2
    replace hy := hy2
    rw [getD_of hx, getD_of hy, getD_of hm] at q1
    have m2 := G.ok m (List.mem_of_getElem? hm)
    refine Rz.gtup3 (SqT.of hT) ⟨by rfl, ?_⟩
    walk_at "st"
    refine Rd.iC (by show 0 < m; omega) ?_
    exact q1 _ s2
  · walk_at "st"
    refine ⟨p, _, rfl, .inl ⟨SqL.of h5, fun l ob hl hob => ?_⟩⟩
    have q := TupN.mk (H := H1) (a := l) (xs := (List.range (x.map V.int).length).map fun i => V.int ((x.getD i 0 - y.getD i 0) % ms.getD i 0)) hob
    refine k l _ (Same.free e hl) (e.trans (Rd.same_mk hl)) ?_
    rw [List.length_map, la, map_in, opV_row (f := fun x y => x - y) la lb] at q ⊢
    exact q
abbrev s_Target_times : Stmt := (inClass (top 18) 5)
theorem sc_Target_times : FnScope ["self", "factor", "value", "entry", "modulus"] ["self", "factor", "value"] (defScope s_Target_times) := ⟨rfl, rfl, rfl, by decide +kernel, rfl, by decide +kernel, by decide +kernel⟩
theorem ok_times (F : FnP K "times" "Target.times" s_Target_times f fd) (T : Txt K mg) : FnOk P w K mg base CX0 1 f fd ["self", "factor", "value"] (sp_times K) := by
  refine F.ok sc_Target_times (fun vs H Q E h => ?_) (fun cdv A outer s H vs Q E hr h => ?_)
  · obtain ⟨_, _, _, _, _, rfl, _⟩ := h; rfl
  obtain ⟨g, a, c, ms, x, rfl, G, ha, hv, k⟩ := h
  obtain ⟨dx, M, Z, hg, hM, hZ⟩ := G.ob
  have few := G.few
  have la := hv.len
  have bnd := (val_iff.mp hv).2
  have m32 : ∀ m ∈ ms, m ≤ 32 := fun m hm => by
    obtain ⟨i, hi⟩ := List.getElem?_of_mem hm
    have h1 := pr_take hi
    have h2 := pr_take_le G.ok (i + 1)
    have h3 := pr_pos (ms := ms.take i) fun y hy => G.ok y (List.mem_of_mem_take hy)
    have h4 := G.le
    have h5 : 1 * m.toNat ≤ pr (ms.take i) * m.toNat := Nat.mul_le_mul_right _ h3
    omega
  refine ⟨_, PSs.nox (pss_one (ps_ret (pe_callTy (Rk.tup K) rfl T.tuple (by decide +kernel) (pa_cons (pe_lc (own := [("entry", 3), ("modulus", 4)]) rfl sc_Target_times.nd (Rk.zip2 K rfl rfl T.zip (pa_cons (pv 2) (pa_cons (Rk.fld K rfl (pv 0) rfl) pa_nil))) (blkOk_by (own := [("entry", 3), ("modulus", 4)]) (N := ["self", "factor", "value", "entry", "modulus"]) (sc := defScope s_Target_times) (by decide +kernel)) (fun _ _ _ _ _ => (Rk.gtup K rfl rfl (pgs_cons (pg_name (i := 3) sc_Target_times.nd rfl (Or.inl rfl)) (pgs_cons (pg_name (i := 4) sc_Target_times.nd rfl (Or.inl rfl)) pgs_nil)) (n := 2))) (fun _ _ _ _ _ => pts_nil) (fun _ _ _ _ _ => (pe_op op_mod (pe_op op_mul (pv 1) (pv 3)) (pv 4)))) pa_nil)))), ?_⟩
  walk_at "st"
  refine Rd.fld' hg T.tcl T.tM (tk_moduli _ _ _ _) ?_
  refine ⟨a, M, .T, .T, x.map V.int, ms.map V.int, rfl, ha.sq, hM.sq, ?_⟩
  have l2 : (ms.map V.int).length = (x.map V.int).length := by rw [List.length_map, List.length_map]; omega
  refine Rz.lcMapG (n := (x.map V.int).length) (fun i => .int (c * x.getD i 0 % ms.getD i 0)) (Rz.go2 (k1 := .T) (k2 := .T) ha.sq hM.sq l2) (Rz.stop2 (k1 := .T) (k2 := .T) ha.sq hM.sq l2) (by rw [List.length_map]; omega) (fun i v' H1 H2 Q1 hi e yy q1 => ?_) (fun p H1 hp e h5 => ?_) (fun v σ H P P' h q => Rz.gm2 v σ H P P' h q)
  · obtain ⟨TT, x', y', rfl, hx, hy, hT, s2⟩ := Rz.yld2 (k1 := .T) (k2 := .T) ha.sq hM.sq e yy
    obtain ⟨x', hx2, rfl⟩ := intAt hx
    obtain ⟨m, hm, rfl⟩ := intAt hy
    replace hx := hx2
    rw [getD_of hx, getD_of hm] at q1
    have m2 := G.ok m (List.mem_of_getElem? hm)
    have m3 := m32 m (List.mem_of_getElem? hm)
    obtain ⟨x0, x1⟩ := bnd i x' m hx hm
    refine Rd.gtup2 (SqT.of hT) ⟨by rfl, ?_⟩
    walk_at "st"
    refine Rd.iC (.inr ⟨by omega, by omega⟩) ?_
    walk_at "st"
    refine Rd.iC (by show 0 < m; omega) ?_
    exact q1 _ s2
  · walk_at "st"
    refine ⟨p, _, rfl, .inl ⟨SqL.of h5, fun l ob hl hob => ?_⟩⟩
    have q := TupN.mk (H := H1) (a := l) (xs := (List.range (x.map V.int).length).map fun i => V.int (c * x.getD i 0 % ms.getD i 0)) hob
    refine k l _ (Same.free e hl) (e.trans (Rd.same_mk hl)) ?_
    have z := opV_row (f := fun x _ => c * x) la la
    rw [List.length_map, la, map_in, z] at q ⊢
    exact q
end
end K02

set_option Elab.async false
set_option linter.all false
set_option maxRecDepth 100000
set_option maxHeartbeats 4000000
namespace K02
open PySem L2 Rd GT
local macro_rules | `(tactic| walk_at "st1") => `(tactic| with_reducible first
  | refine' Rd.seq ?_ | refine' Rd.nxt ?_ | refine' Rd.asg ?_ | refine' Rd.nm ?_ | refine' Rd.con ?_ | refine' Rd.op ?_ | refine' Rd.i0 ?_ | refine' Rd.un ?_ | refine' Rd.u0 ?_
  | refine' Rd.eqI ?_ | refine' Rd.neI ?_ | refine' Rd.eqB ?_ | refine' Rd.tst ?_ | refine' Rd.tB_ ?_ | refine' Rd.exb ?_ | refine' Rd.ifS ?_ | refine' Rd.ret ?_ | refine' Rd.retN ?_ | refine' Rd.drop ?_
  | refine' Rd.nil ?_ | refine' Rd.cons ?_ | refine' Rd.cb ?_ | refine' Rd.call ?_ | refine' Rd.callN ?_ | refine' Rd.z2 ?_ | refine' Rd.z3 ?_ | refine' Rd.revA ?_ | refine' Rd.revL ?_ | refine' Rd.star ?_ | refine' Rd.lc2 ?_ | refine' Rd.andT ?_ | refine' Rd.orT ?_ | refine' Rd.notT ?_ | refine' Rd.andV ?_ | refine' Rd.orV ?_ | refine' Rd.notV ?_ | refine' Rd.chain ?_
  | refine' Rd.lst ?_ | refine' Rd.tup ?_ | refine' Rd.for_ ?_ | refine' Rd.rng1 ?_ | refine' Rd.rng2 ?_ | refine' Rd.itl ?_ | refine' Rd.itt ?_ | refine' Rd.sub ?_
  | refine' Rd.lrg ?_ | refine' Rd.rg1 ?_ | refine' Rd.rg2 ?_ | refine' Rd.exi ?_ | refine' Rd.exi2 ?_ | refine' Rd.int1 ?_ | refine' Rd.ex1 ?_ | refine' Rd.ex2 ?_
  | refine' Rd.fld ?_ | refine' Rd.sfld ?_ | refine' Rd.meth ?_ | refine' Rd.make ?_ | refine' Rd.lc ?_ | refine' Rd.bm ?_ | refine' Rd.bm0 ?_ | refine' Rd.bt ?_ | refine' Rd.enT ?_ | refine' Rd.enL ?_)
local macro_rules | `(tactic| walk_at "st") => `(tactic| repeat (first | walk_at "st1" | ((with_reducible refine' Rd.var ?hv ?_); (case hv => rfl))))
local macro_rules | `(tactic| walk_at "sj1") => `(tactic| with_reducible first
  | refine' Rd.seqA ?_ | refine' Rd.seqD ?_ | refine' Rd.seqF ?_ | refine' Rd.seqW ?_ | refine' Rd.nxt ?_ | refine' Rd.asg ?_ | refine' Rd.nm ?_ | refine' Rd.con ?_ | refine' Rd.op ?_ | refine' Rd.i0 ?_ | refine' Rd.un ?_ | refine' Rd.u0 ?_
  | refine' Rd.eqI ?_ | refine' Rd.neI ?_ | refine' Rd.eqB ?_ | refine' Rd.tst ?_ | refine' Rd.tB_ ?_ | refine' Rd.exb ?_ | refine' Rd.ifS ?_ | refine' Rd.ret ?_ | refine' Rd.retN ?_ | refine' Rd.drop ?_
  | refine' Rd.nil ?_ | refine' Rd.cons ?_ | refine' Rd.cb ?_ | refine' Rd.call ?_ | refine' Rd.callN ?_ | refine' Rd.z2 ?_ | refine' Rd.z3 ?_ | refine' Rd.revA ?_ | refine' Rd.revL ?_ | refine' Rd.star ?_ | refine' Rd.lc2 ?_ | refine' Rd.andT ?_ | refine' Rd.orT ?_ | refine' Rd.notT ?_ | refine' Rd.andV ?_ | refine' Rd.orV ?_ | refine' Rd.notV ?_ | refine' Rd.chain ?_
  | refine' Rd.lst ?_ | refine' Rd.tup ?_ | refine' Rd.for_ ?_ | refine' Rd.rng1 ?_ | refine' Rd.rng2 ?_ | refine' Rd.itl ?_ | refine' Rd.itt ?_ | refine' Rd.sub ?_
  | refine' Rd.lrg ?_ | refine' Rd.rg1 ?_ | refine' Rd.rg2 ?_ | refine' Rd.exi ?_ | refine' Rd.exi2 ?_ | refine' Rd.int1 ?_ | refine' Rd.ex1 ?_ | refine' Rd.ex2 ?_
  | refine' Rd.fld ?_ | refine' Rd.sfld ?_ | refine' Rd.meth ?_ | refine' Rd.make ?_ | refine' Rd.lc ?_ | refine' Rd.bm ?_ | refine' Rd.bm0 ?_ | refine' Rd.bt ?_ | refine' Rd.enT ?_ | refine' Rd.enL ?_)
local macro_rules | `(tactic| walk_at "sj") => `(tactic| repeat (first | walk_at "sj1" | ((with_reducible refine' Rd.var ?hv ?_); (case hv => rfl))))
/-- a list of tuples of ints -/
structure LT (H : Hp) (p : Addr) (vs : List (List Int)) : Prop where
  ob : ∃ as : List Addr, H p = some (.lst (as.map V.ref)) ∧ Rows TupP H as vs
theorem LT.same {H H' : Hp} {p : Addr} {vs : List (List Int)} (X : LT H p vs) (e : Same H H') : LT H' p vs := by
  obtain ⟨as, h1, h2⟩ := X.ob
  exact ⟨as, e _ _ h1, h2.map fun a xs _ h => e _ _ h⟩
theorem snoc_rows {l : List Int} {m : Int} (m0 : 2 ≤ m) {p : Nat} : (dg l (p / m.toNat) ++ [((p % m.toNat : Nat) : Int)]) = dg (l ++ [m]) p := by
  have := dg_snoc l m (p / m.toNat) (p % m.toNat) (Nat.mod_lt _ (by omega))
  rw [Nat.mul_comm, Nat.div_add_mod] at this
  exact this.symm
def sp_allv (K : PySem.W.Frag) : Sp := fun vs H Q _ => ∃ (g : Addr) (ms : List Int), vs = [.ref g] ∧ TgtAt (tC K) H g ms ∧ ∀ l H', H l = none → Same H H' → LT H' l (VL ms) → Q (.ref l) H'
def sp_pos (K : PySem.W.Frag) : Sp := fun vs H Q E => ∃ (g v : Addr) (ms w : List Int), vs = [.ref g, .ref v] ∧ TgtAt (tC K) H g ms ∧ TupX H v (w.map V.int) ∧ w.length ≤ 1000 ∧ (Val ms w → ∀ H', Same H H' → Q (.int (psn ms w : Nat)) H') ∧ (¬ Val ms w → ∀ H', Same H H' → E (.ref (eV K)) none H')
def sp_vat (K : PySem.W.Frag) : Sp := fun vs H Q E => ∃ (g : Addr) (ms : List Int) (p : Int), vs = [.ref g, .int p] ∧ TgtAt (tC K) H g ms ∧ (0 ≤ p → p < (pr ms : Nat) → ∀ l H', H l = none → Same H H' → TupN H' l ((dg ms p.toNat).map V.int) → Q (.ref l) H') ∧ (¬ (0 ≤ p ∧ p < (pr ms : Nat)) → ∀ H', Same H H' → E (.ref (eI K)) none H')
def sp_asg (K : PySem.W.Frag) : Sp := fun vs H Q _ => ∃ (g : Addr) (ms : List Int), vs = [.ref g] ∧ TgtAt (tC K) H g ms ∧ ∀ q H', Same H H' → GrpAt (gC K) H' q (tabOf (addV ms) (VL ms)) → Q (.ref q) H'
theorem m32of {C : Addr} {H : Hp} {g : Addr} {ms : List Int} (G : TgtAt C H g ms) : ∀ m ∈ ms, m ≤ 32 := fun m hm => by
  obtain ⟨i, hi⟩ := List.getElem?_of_mem hm
  have h1 := pr_take hi
  have h2 := pr_take_le G.ok (i + 1)
  have h3 := pr_pos (ms := ms.take i) fun y hy => G.ok y (List.mem_of_mem_take hy)
  have h4 := G.le
  have h5 : 1 * m.toNat ≤ pr (ms.take i) * m.toNat := Nat.mul_le_mul_right _ h3
  omega
section
variable {P : Program} {w : World} {K : PySem.W.Frag} {mg : Str → Option Value} {base : Heap} {f : Addr} {fd : FuncData}
abbrev s_Target_all_values : Stmt := (inClass (top 18) 6)
theorem sc_Target_all_values : FnScope ["self", "values", "modulus", "value", "entry"] ["self"] (defScope s_Target_all_values) := ⟨rfl, rfl, rfl, by decide +kernel, rfl, by decide +kernel, by decide +kernel⟩
theorem ok_allv (F : FnP K "all_values" "Target.all_values" s_Target_all_values f fd) (T : Txt K mg) : FnOk P w K mg base CX0 1 f fd ["self"] (sp_allv K) := by
  refine F.ok sc_Target_all_values (fun vs H Q E h => ?_) (fun cdv A outer s H vs Q E hr h => ?_)
  · obtain ⟨_, _, rfl, _⟩ := h; rfl
  obtain ⟨g, ms, rfl, G, k⟩ := h
  obtain ⟨dx, M, Z, hg, hM, hZ⟩ := G.ob
  have few := G.few
  have m32 := m32of G
  refine ⟨_, PSs.nox (pss_cons (ps_set (i := 1) sc_Target_all_values.nd rfl (Or.inl rfl) (pe_lst (pa_cons (pe_tup pa_nil) pa_nil)))
  (pss_cons (ps_for PassesOwn.never rfl (Rk.pt K rfl (Rk.fld K rfl (pv 0) rfl)) (pg_name (i := 2) sc_Target_all_values.nd rfl (Or.inr rfl))
  (pss_one (ps_setLc2 (i := 1) (own := [("value", 3), ("entry", 4)]) rfl sc_Target_all_values.nd rfl rfl (sw_true rfl rfl rfl (by decide +kernel)) (Rk.pl K rfl (pv 1)) (blkOk_by (own := [("value", 3), ("entry", 4)]) (N := ["self", "values", "modulus", "value", "entry"]) (sc := defScope s_Target_all_values) (by decide +kernel)) (vs1 := [4]) (by decide) (fun _ _ _ _ _ => (pg_name (i := 3) sc_Target_all_values.nd rfl (Or.inl rfl))) (fun _ _ _ _ _ => pts_nil) (fun _ _ _ _ _ => (pi_range1 rfl T.range (pa_cons (pv 2) pa_nil))) (fun _ _ _ _ _ => (pg_name (i := 4) sc_Target_all_values.nd rfl (Or.inl rfl))) (fun _ _ _ _ _ => pts_nil) (fun _ _ _ _ _ => (pe_tup (Rk.star K rfl (pv 3) (pa_cons (pv 4) pa_nil)))))))
  (pss_one (ps_ret (pv 1))))), ?_⟩
  walk_at "st"
  refine ⟨Nat.zero_le _, fun u hu => ?_⟩
  have e1 : Same H (upd H u (.tup [])) := Rd.same_mk hu
  have hU : (upd H u (.tup [])) u = some (.tup []) := upd_same
  generalize upd H u (.tup []) = H1 at e1 hU
  walk_at "st"
  refine ⟨(by decide : 1 ≤ sizeLine), fun l hl => ?_⟩
  have e2 : Same H (upd H1 l (.lst [.ref u])) := Rd.same_add e1 hl
  have hl0 := Same.free e1 hl
  have X0 : LT (upd H1 l (.lst [.ref u])) l (VL []) := ⟨[u], upd_same, rfl, fun i a r h1 h2 => by
    cases i with
    | zero =>
      cases h1
      cases h2
      unfold TupP
      rw [upd_ne (ne_of_none hU hl)]
      exact hU
    | succ i => simp at h1⟩
  generalize upd H1 l (.lst [.ref u]) = H2 at e2 X0
  walk_at "st"
  refine Rd.fld' (e2 _ _ hg) T.tcl T.tM (tk_moduli _ _ _ _) ?_
  refine Rd.itt' (hM.same e2).sq ?_
  refine for_tup (K := K) (a := M) (xs := ms.map V.int) (fun i σ H' => ∃ (p : Addr) (v : Option V), σ = [some (.ref g), some (.ref p), v, none, none] ∧ Same H H' ∧ H p = none ∧ LT H' p (VL (ms.take i)))
    ⟨l, none, rfl, e2, hl0, by rw [List.take_zero]; exact X0⟩ (fun i σ H' _ ⟨_, _, _, e, _⟩ => (hM.same e).sq) ?_ ?_
  · rintro i x σ H' hx ⟨p, v, rfl, e3, hp0, X⟩
    obtain ⟨m, hm, rfl⟩ := intAt hx
    have m2 := G.ok m (List.mem_of_getElem? hm)
    have mx := m32 m (List.mem_of_getElem? hm)
    obtain ⟨as, a1, a2⟩ := X.ob
    have pl : pr (ms.take i) ≤ 32 := Nat.le_trans (pr_take_le G.ok i) G.le
    have al : as.length = pr (ms.take i) := by rw [a2.len, VL_len]
    have ml : as.length * m.toNat ≤ 32 * 32 := Nat.mul_le_mul (by omega) (by omega)
    walk_at "st"
    refine Rd.itl' (SqL.of a1) ?_
    refine Rd.lc2New (fun i' k' o => o = .tup ((dg (ms.take i) i' ++ [((k' : Nat) : Int)]).map V.int)) m.toNat (Rd.src_list (SqL.of a1)) (by rw [List.length_map]; omega) (by intro _; rfl) (by intro _ _; rfl) (fun x H1 R _ hR => ?_) (fun i' k' x H1 Q1 hx2 hk e4 q1 => ?_) (fun q ra H4 hq e4 h4 lra hra => ?_)
    · walk_at "st"
      exact ⟨by omega, by omega, hR⟩
    · obtain ⟨az, z, rfl, g1, g2, g3⟩ := a2.at hx2
      have hi' : i' < pr (ms.take i) := by
        have := (List.getElem?_eq_some_iff.mp g2).1
        rw [VL_len] at this
        exact this
      rw [VL_get hi'] at g2
      cases g2
      walk_at "st"
      refine ⟨az, _, rfl, .inl (SqT.of (e4 _ _ g3)), ?_⟩
      walk_at "st"
      refine ⟨?_, fun t ht => ?_⟩
      · rw [List.length_append, List.length_map, dg_len]
        exact Nat.le_of_lt (Nat.lt_of_le_of_lt (by rw [List.length_take]; show min i ms.length + 1 ≤ 1000; omega) (by decide : 1000 < sizeLine))
      · exact q1 t _ _ ht (Rd.same_mk ht) upd_same (by rw [List.map_append]; rfl)
    · walk_at "st"
      refine ⟨q, some (.int m), rfl, e3.trans e4, Same.free e3 hq, ra, h4, ?_, fun n a r h1 h2 => ?_⟩
      · rw [lra, List.length_map, VL_len, pr_take hm, al]
      · have hn : n < pr (ms.take (i + 1)) := by
          have := (List.getElem?_eq_some_iff.mp h2).1
          rw [VL_len] at this
          exact this
        rw [VL_get hn] at h2
        cases h2
        obtain ⟨⟨o, ho, rfl⟩, _, _⟩ := hra n a h1
        unfold TupP
        rw [ho, snoc_rows m2, List.take_add_one, hm]; rfl
  · rintro σ H' ⟨p, v, rfl, e3, hp0, X⟩
    rw [List.length_map, List.take_length] at X
    walk_at "st"
    exact k p H' hp0 e3 X
abbrev s_Target_position : Stmt := (inClass (top 18) 7)
theorem sc_Target_position : FnScope ["self", "value", "position", "entry", "modulus"] ["self", "value"] (defScope s_Target_position) := ⟨rfl, rfl, rfl, by decide +kernel, rfl, by decide +kernel, by decide +kernel⟩
theorem ok_pos (F : FnP K "position" "Target.position" s_Target_position f fd) (T : Txt K mg) (M_is_value : MOk P w K mg base CX0 (tC K) "is_value" 1 ["self", "value"] (sp_isv K)) : FnOk P w K mg base (L2.CX P w) 2 f fd ["self", "value"] (sp_pos K) := by
  refine F.ok sc_Target_position (fun vs H Q E h => ?_) (fun cdv A outer s H vs Q E hr h => ?_)
  · obtain ⟨_, _, _, _, rfl, _⟩ := h; rfl
  obtain ⟨g, v, ms, w, rfl, G, hv, z, k, kE⟩ := h
  obtain ⟨dx, M, Z, hg, hM, hZ⟩ := G.ob
  have few := G.few
  have m32 := m32of G
  refine ⟨_, (pss_cons (ps_if (pt_not (pt_val (methX M_is_value (hr.mono (by decide)) (passN) (pv 0) (pa_cons (pv 1) pa_nil))))
  (pss_one (ps_raise rfl (takes_of rfl rfl rfl rfl) (pmk_own PySem.F.excBase_ValueError T.ex_InvalidValue.xP T.ex_InvalidValue.gP T.ex_InvalidValue.kP (raises_own T.ex_InvalidValue.bP T.ex_InvalidValue.tP) rfl)))
  pss_nil)
  (pss_cons (ps_set (i := 2) sc_Target_position.nd rfl (Or.inl rfl) pe_int)
  (pss_cons (ps_for (passes_of rfl) rfl (Rk.zip2 K rfl rfl T.zip (pa_cons (pv 1) (pa_cons (Rk.fld K rfl (pv 0) rfl) pa_nil))) (Rk.gtup K rfl rfl (pgs_cons (pg_name (i := 3) sc_Target_position.nd rfl (Or.inl rfl)) (pgs_cons (pg_name (i := 4) sc_Target_position.nd rfl (Or.inl rfl)) pgs_nil)) (n := 2))
  (pss_one (ps_set (i := 2) sc_Target_position.nd rfl (Or.inl rfl) (pe_op op_add (pe_op op_mul (pv 2) (pv 4)) (pv 3)))))
  (pss_one (ps_ret (pv 2)))))), ?_⟩
  walk_at "st"
  refine ⟨g, dx, _, rfl, hg, tk_no (by decide +kernel) (by decide +kernel) (by decide +kernel) (by decide +kernel) _ _ _ _, ?_⟩
  walk_at "st"
  refine ⟨g, v, ms, w, rfl, G, hv, z, fun b H1 hb e1 => ?_⟩
  walk_at "st"
  refine Rd.ite_nb (fun c => ?_) (fun c => ?_)
  · exact kE (fun h => by rw [hb.mpr h] at c; cases c) _ e1
  have vl := hb.mp c
  have l := vl.len
  walk_at "st"
  refine Rd.fld' (e1 _ _ hg) T.tcl T.tM (tk_moduli _ _ _ _) ?_
  refine ⟨v, M, .T, .T, w.map V.int, ms.map V.int, rfl, (hv.same e1).sq, (hM.same e1).sq, ?_⟩
  refine Rz.for2 (K := K) (k1 := .T) (k2 := .T) (xs := w.map V.int) (ys := ms.map V.int) (by rw [List.length_map, List.length_map]; exact l) (fun i σ H' => ∃ (v3 v4 : Option V), σ = [some (.ref g), some (.ref v), some (.int (psn (ms.take i) (w.take i) : Nat)), v3, v4] ∧ Same H H')
    ⟨none, none, rfl, e1⟩ (fun i σ H' ⟨_, _, _, e⟩ => ⟨(hv.same e).sq, (hM.same e).sq⟩) ?_ ?_
  · rintro i x y TT σ H' hx hy ⟨v3, v4, rfl, e2⟩ hT
    obtain ⟨x, hx2, rfl⟩ := intAt hx
    obtain ⟨m, hm, rfl⟩ := intAt hy
    have m2 := G.ok m (List.mem_of_getElem? hm)
    have m3 := m32 m (List.mem_of_getElem? hm)
    obtain ⟨x0, x1⟩ := (val_iff.mp vl).2 i x m hx2 hm
    have st := psn_take G.ok vl hm hx2
    refine Rd.gtup2 (SqT.of upd_same) ?_
    walk_at "st"
    refine Rd.iC (.inr ⟨by omega, by omega⟩) ?_
    walk_at "st"
    refine ⟨some (.int x), some (.int m), ?_, Rd.same_add e2 hT⟩
    rw [st, Int.natCast_add, Int.natCast_mul, Int.toNat_of_nonneg x0, Int.toNat_of_nonneg (by omega : 0 ≤ m)]; rfl
  · rintro σ H' ⟨v3, v4, rfl, e2⟩
    rw [List.length_map, List.take_length, l, List.take_length]
    walk_at "st"
    exact k vl _ e2
abbrev s_Target_value_at : Stmt := (inClass (top 18) 8)
theorem sc_Target_value_at : FnScope ["self", "position", "entries", "rest", "modulus"] ["self", "position"] (defScope s_Target_value_at) := ⟨rfl, rfl, rfl, by decide +kernel, rfl, by decide +kernel, by decide +kernel⟩
theorem ok_vat (F : FnP K "value_at" "Target.value_at" s_Target_value_at f fd) (T : Txt K mg) : FnOk P w K mg base (L2.CX P w) 1 f fd ["self", "position"] (sp_vat K) := by
  refine F.ok sc_Target_value_at (fun vs H Q E h => ?_) (fun cdv A outer s H vs Q E hr h => ?_)
  · obtain ⟨_, _, _, rfl, _⟩ := h; rfl
  obtain ⟨g, ms, p, rfl, G, k, kE⟩ := h
  obtain ⟨dx, M, Z, hg, hM, hZ⟩ := G.ob
  have few := G.few
  have m32 := m32of G
  have ple := G.le
  refine ⟨_, (pss_cons (ps_if (pt_not (pt_chain op_le op_lt pe_int (pv 1) (Rk.fld K rfl (pv 0) rfl)))
  (pss_one (ps_raise rfl (takes_of rfl rfl rfl rfl) (pmk_own PySem.F.excBase_ValueError T.ex_InvalidIndex.xP T.ex_InvalidIndex.gP T.ex_InvalidIndex.kP (raises_own T.ex_InvalidIndex.bP T.ex_InvalidIndex.tP) rfl)))
  pss_nil)
  (pss_cons (ps_set (i := 2) sc_Target_value_at.nd rfl (Or.inl rfl) (pe_lst pa_nil))
  (pss_cons (ps_set (i := 3) sc_Target_value_at.nd rfl (Or.inl rfl) (pv 1))
  (pss_cons (ps_for (passes_of rfl) rfl (Rk.revA K rfl rfl T.reversed (Rk.fld K rfl (pv 0) rfl)) (pg_name (i := 4) sc_Target_value_at.nd rfl (Or.inl rfl))
  (pss_cons (ps_expr (Rk.bm K rfl PySem.F.plainAttrs_list PySem.F.slot_list_append PySem.F.type_list_append mt_append (pv 2) (pa_cons (pe_op op_mod (pv 3) (pv 4)) pa_nil)))
  (pss_one (ps_set (i := 3) sc_Target_value_at.nd rfl (Or.inl rfl) (pe_op op_fdivW (pv 3) (pv 4))))))
  (pss_one (ps_ret (pe_callTy (Rk.tup K) rfl T.tuple (by decide +kernel) (pa_cons (Rk.revL K rfl (pv 2)) pa_nil)))))))), ?_⟩
  walk_at "st"
  refine Rd.ite_d (fun c1 => ?_) (fun c1 => ?_)
  · walk_at "st"
    refine Rd.fld' hg T.tcl T.tO (tk_order _ _ _ _) ?_
    walk_at "st"
    refine Rd.ite_n (fun c2 => kE (fun h => c2 h.2) _ (Same.refl _)) (fun c2 => ?_)
    walk_at "st"
    refine ⟨Nat.zero_le _, fun en hen => ?_⟩
    have e1 : Same H (upd H en (.lst [])) := Rd.same_mk hen
    have h1 : (upd H en (.lst [])) en = some (.lst []) := upd_same
    generalize upd H en (.lst []) = H1 at e1 h1
    walk_at "st"
    refine Rd.fld' (e1 _ _ hg) T.tcl T.tM (tk_moduli _ _ _ _) ?_
    refine ⟨M, ms.map V.int, rfl, .inr ⟨(hM.same e1).sq, ?_⟩⟩
    have hl : (ms.map V.int).length = ms.length := List.length_map ..
    refine RT.for_ItvT (K := K) (a := M) (xs := ms.map V.int) (fun i σ H' => ∃ (v : Option V), σ = [some (.ref g), some (.int p), some (.ref en), some (.int ((p.toNat / pr (ms.drop (ms.length - i)) : Nat) : Int)), v] ∧ Same H H' ∧ H' en = some (.lst (((dg (ms.drop (ms.length - i)) p.toNat).reverse).map V.int)))
      ⟨none, by rw [Nat.sub_zero, List.drop_length]; show _ = [some (V.ref g), some (V.int p), some (V.ref en), some (V.int ((p.toNat / 1 : Nat) : Int)), none]; rw [Nat.div_one, Int.toNat_of_nonneg c1]; rfl, e1, by rw [Nat.sub_zero, List.drop_length]; exact h1⟩ (fun i σ H' ⟨_, _, e, _⟩ => (hM.same e).sq) ?_ ?_
    · rintro i x σ H' hi hx ⟨v, rfl, e2, h2⟩
      rw [hl] at hi hx
      obtain ⟨m, hm, rfl⟩ := intAt hx
      have m2 := G.ok m (List.mem_of_getElem? hm)
      have m3 := m32 m (List.mem_of_getElem? hm)
      obtain ⟨d1, d2⟩ := dg_drop (p := p.toNat) hm
      have ei : ms.length - 1 - i + 1 = ms.length - i := by omega
      rw [ei] at d1 d2
      have ej : ms.length - (i + 1) = ms.length - 1 - i := by omega
      have dl : (dg (ms.drop (ms.length - i)) p.toNat).length ≤ 5 := by rw [dg_len, List.length_drop]; omega
      walk_at "st"
      refine Rd.tyL h2 ?_
      walk_at "st"
      refine Rd.iC (by show 0 < m; omega) ?_
      walk_at "st"
      refine Rd.app h2 (by rw [List.length_map, List.length_reverse]; exact line_of (by omega)) ?_
      walk_at "st"
      refine Rd.iC (wide_div (b := 64) (by omega) (by omega) (by decide) (by decide)) ?_
      walk_at "st"
      have mc : (m.toNat : Int) = m := Int.toNat_of_nonneg (by omega)
      refine ⟨some (.int m), ?_, Rd.same_mut e2 hen, ?_⟩
      · rw [ej, d2, Nat.mul_comm, ← Nat.div_div_eq_div_mul, Int.natCast_ediv (p.toNat / _), mc]; rfl
      · rw [upd_same, ej, d1, List.reverse_cons, List.map_append]
        show _ = some (HO.lst (_ ++ [V.int (((p.toNat / pr (ms.drop (ms.length - i)) % m.toNat : Nat) : Int))]))
        rw [Int.natCast_emod, mc]
    · rintro σ H' ⟨v, rfl, e2, h2⟩
      rw [hl, Nat.sub_self, List.drop_zero] at h2
      walk_at "st"
      refine ⟨en, _, rfl, SqL.of h2, fun l2 hl2 => ?_⟩
      have e3 : Same H (upd H' l2 (.lst (((dg ms p.toNat).reverse).map V.int).reverse)) := Rd.same_add e2 hl2
      have h3 : (upd H' l2 (.lst (((dg ms p.toNat).reverse).map V.int).reverse)) l2 = some (.lst ((dg ms p.toNat).map V.int)) := by rw [upd_same, ← List.map_reverse, List.reverse_reverse]
      generalize upd H' l2 (.lst (((dg ms p.toNat).reverse).map V.int).reverse) = H3 at e3 h3
      walk_at "st"
      refine ⟨l2, _, rfl, .inl ⟨SqL.of h3, fun l ob hl3 hob => ?_⟩⟩
      exact k c1 c2 l _ (Same.free e3 hl3) (e3.trans (Rd.same_mk hl3)) (TupN.mk hob)
  · walk_at "st"
    exact kE (fun h => c1 h.1) _ (Same.refl _)
abbrev s_Target_as_group : Stmt := (inClass (top 18) 9)
theorem sc_Target_as_group : FnScope ["self", "values", "w", "v"] ["self"] (defScope s_Target_as_group) := ⟨rfl, rfl, rfl, by decide +kernel, rfl, by decide +kernel, by decide +kernel⟩
theorem ok_asg (F : FnP K "as_group" "Target.as_group" s_Target_as_group f fd) (T : Txt K mg) (M_all_values : MOk P w K mg base CX0 (tC K) "all_values" 1 ["self"] (sp_allv K)) (M_plus : MOk P w K mg base CX0 (tC K) "plus" 1 ["self", "left", "right"] (sp_bin K (fun x y => x + y)))
    (M_position : MOk P w K mg base (L2.CX P w) (tC K) "position" 2 ["self", "value"] (sp_pos K)) (D_Group : KOk P w K mg base (L2.CX P w) "Group" (gC K) 2 ["self", "table"] (sp_init K)) : FnOk P w K mg base CX0 4 f fd ["self"] (sp_asg K) := by
  refine F.ok sc_Target_as_group (fun vs H Q E h => ?_) (fun cdv A outer s H vs Q E hr h => ?_)
  · obtain ⟨_, _, rfl, _⟩ := h; rfl
  obtain ⟨g, ms, rfl, G, k⟩ := h
  obtain ⟨dx, M, Z, hg, hM, hZ⟩ := G.ob
  have few := G.few
  have ple := G.le
  have GG := tgtGrp G.ok
  have noA : ∀ {m : Str}, (m == ("moduli" : Str)) = false → (m == ("order" : Str)) = false → (m == ("exponent" : Str)) = false → (m == ("zero" : Str)) = false → (tfs M Z (pr ms : Nat) (lcF ms : Nat)).lookup m = none := fun h1 h2 h3 h4 => tk_no h1 h2 h3 h4 _ _ _ _
  refine ⟨_, PSs.nox (pss_cons (ps_set (i := 1) sc_Target_as_group.nd rfl (Or.inr rfl) (methX0 M_all_values (hr.mono (by decide)) (passN) (pv 0)))
  (pss_one (ps_ret (makeX D_Group (hr.mono (by decide)) (passN) (pa_cons (pe_lc (own := [("v", 3)]) rfl sc_Target_as_group.nd (Rk.pl K rfl (pv 1)) (blkOk_by (own := [("v", 3)]) (N := ["self", "values", "w", "v"]) (sc := defScope s_Target_as_group) (by decide +kernel)) (fun _ _ _ _ _ => (pg_name (i := 3) sc_Target_as_group.nd rfl (Or.inr rfl))) (fun _ _ _ _ _ => pts_nil) (fun _ _ _ _ _ => (pe_lc (own := [("w", 2)]) rfl sc_Target_as_group.nd (Rk.pl K rfl (pv 1)) (blkOk_by (own := [("w", 2)]) (N := ["self", "values", "w", "v"]) (sc := (relS { kind := .function, names := [(".0", .local), ("v", .cell), ("self", .free), ("values", .free)], isGenerator := false, isCoroutine := false } (defScope s_Target_as_group))) (by decide +kernel)) (fun _ _ _ _ _ => (pg_name (i := 2) sc_Target_as_group.nd rfl (Or.inl rfl))) (fun _ _ _ _ _ => pts_nil) (fun _ _ _ _ _ => (methX M_position (hr.mono (by decide)) (passN) (pv 0) (pa_cons (methX M_plus (hr.mono (by decide)) (passN) (pv 0) (pa_cons (pv 3) (pa_cons (pv 2) pa_nil))) pa_nil)))))) pa_nil))))), ?_⟩
  walk_at "st"
  refine ⟨g, dx, _, rfl, hg, noA (by decide +kernel) (by decide +kernel) (by decide +kernel) (by decide +kernel), ?_⟩
  refine ⟨g, ms, rfl, G, fun l H1 hl e1 X => ?_⟩
  obtain ⟨as, a1, a2⟩ := X.ob
  have al : as.length = pr ms := by rw [a2.len, VL_len]
  walk_at "st"
  refine Rd.itl' (SqL.of a1) ?_
  refine Rd.lcNew (fun i o => o = .lst (((tabOf (addV ms) (VL ms)).getD i []).map V.int)) (Rd.src_list (SqL.of a1)) (by rw [List.length_map]; omega) (by intro _; rfl) (fun i y H4 Q1 hy e4 q1 => ?_) (fun tb ra H4 htb e4 h6 lra hra nd => ?_)
  · obtain ⟨az, z, rfl, g1, g2, g3⟩ := a2.at hy
    have zv := (VL_mem G.ok).mp (List.mem_of_getElem? g2)
    rw [tabOf_row (f := addV ms) g2] at q1
    walk_at "st"
    refine Rd.itl' (SqL.of (e4 _ _ a1)) ?_
    refine Rd.lcMap (fun j => .int (((VL ms).idxOf (addV ms z ((VL ms).getD j [])) : Nat) : Int)) (Rd.src_list (SqL.of (e4 _ _ a1))) (by rw [List.length_map]; omega) (by intro _; rfl) (fun j y H5 Q2 hy2 e5 q2 => ?_) (fun rp H5 hrp e5 h9 => ?_)
    · obtain ⟨aq, q, rfl, k1, k2, k3⟩ := a2.at hy2
      have qv := (VL_mem G.ok).mp (List.mem_of_getElem? k2)
      rw [getD_of k2] at q2
      have e6 := e4.trans e5
      have e16 := e1.trans e6
      have pv := opV_val (fun x y => x + y) G.ok zv.len qv.len
      walk_at "st"
      refine ⟨g, dx, _, rfl, e16 _ _ hg, noA (by decide +kernel) (by decide +kernel) (by decide +kernel) (by decide +kernel), ?_⟩
      walk_at "st"
      refine ⟨g, dx, _, rfl, e16 _ _ hg, noA (by decide +kernel) (by decide +kernel) (by decide +kernel) (by decide +kernel), ?_⟩
      walk_at "st"
      refine ⟨g, az, aq, ms, z, q, rfl, G.same e16, .inl (e6 _ _ g3), .inl (e6 _ _ k3), zv.len, qv.len, fun l2 H6 hl2 e7 hL => ?_⟩
      refine ⟨g, l2, ms, _, rfl, (G.same e16).same e7, hL.x, by rw [opV_len _ zv.len qv.len]; omega, fun _ H7 e8 => ?_, fun no => absurd pv no⟩
      rw [VL_idx G.ok pv] at q2
      exact q2 _ (e7.trans e8)
    · refine q1 rp _ _ hrp e5 h9 ?_
      rw [List.length_map, a2.len]
      congr 1
      refine tab_row (by rw [List.length_map]) fun j hj => ?_
      rw [List.getElem?_map, List.getElem?_eq_getElem hj, getD_of (List.getElem?_eq_getElem hj)]; rfl
  · have XT : TabN H1 H4 tb (tabOf (addV ms) (VL ms)) := TabN.made htb h6 (by rw [lra, List.length_map, a2.len, tabOf_len]) hra nd
    obtain ⟨ta, t1, trows, t3, t4⟩ := XT.ob
    have e14 := e1.trans e4
    have tl : (tabOf (addV ms) (VL ms)).length ≤ 32 := by rw [tabOf_len, VL_len]; exact ple
    walk_at "st"
    intro q dx2 hq hdx ndx
    have e5 : Same H4 (upd (upd H4 dx2 (.own q)) q (.ins (gC K) dx2 [])) := (Rd.same_mk hdx).trans (Rd.same_mk (by rw [upd_ne ndx.symm]; exact hq))
    have hgi : (upd (upd H4 dx2 (.own q)) q (.ins (gC K) dx2 [])) q = some (.ins (gC K) dx2 []) := upd_same
    generalize upd (upd H4 dx2 (.own q)) q (.ins (gC K) dx2 []) = H5 at e5 hgi
    refine ⟨q, dx2, tb, ta, _, rfl, hgi, e5 _ _ t1, trows.sameL e5, by omega, fun h => absurd h (by omega), fun _ nG => absurd GG nG, fun _ _ H6 e6 GA => ⟨rfl, ?_⟩⟩
    have e7 : Same H4 H6 := fun c o h => e6 c o (fun z => by rw [z, hq] at h; cases h) (e5 c o h)
    exact k q _ (e14.trans e7) GA
end
end K02

set_option Elab.async false
set_option linter.all false
set_option maxRecDepth 100000
set_option maxHeartbeats 4000000
namespace K02
open PySem L2 Rd GT
local macro_rules | `(tactic| walk_at "st1") => `(tactic| with_reducible first
  | refine' Rd.seq ?_ | refine' Rd.nxt ?_ | refine' Rd.asg ?_ | refine' Rd.nm ?_ | refine' Rd.con ?_ | refine' Rd.op ?_ | refine' Rd.i0 ?_ | refine' Rd.un ?_ | refine' Rd.u0 ?_
  | refine' Rd.eqI ?_ | refine' Rd.neI ?_ | refine' Rd.eqB ?_ | refine' Rd.tst ?_ | refine' Rd.tB_ ?_ | refine' Rd.exb ?_ | refine' Rd.ifS ?_ | refine' Rd.ret ?_ | refine' Rd.retN ?_ | refine' Rd.drop ?_
  | refine' Rd.nil ?_ | refine' Rd.cons ?_ | refine' Rd.cb ?_ | refine' Rd.call ?_ | refine' Rd.callN ?_ | refine' Rd.z2 ?_ | refine' Rd.z3 ?_ | refine' Rd.revA ?_ | refine' Rd.revL ?_ | refine' Rd.star ?_ | refine' Rd.lc2 ?_ | refine' Rd.andT ?_ | refine' Rd.orT ?_ | refine' Rd.notT ?_ | refine' Rd.andV ?_ | refine' Rd.orV ?_ | refine' Rd.notV ?_ | refine' Rd.chain ?_
  | refine' Rd.lst ?_ | refine' Rd.tup ?_ | refine' Rd.for_ ?_ | refine' Rd.rng1 ?_ | refine' Rd.rng2 ?_ | refine' Rd.itl ?_ | refine' Rd.itt ?_ | refine' Rd.sub ?_
  | refine' Rd.lrg ?_ | refine' Rd.rg1 ?_ | refine' Rd.rg2 ?_ | refine' Rd.exi ?_ | refine' Rd.exi2 ?_ | refine' Rd.int1 ?_ | refine' Rd.ex1 ?_ | refine' Rd.ex2 ?_
  | refine' Rd.fld ?_ | refine' Rd.sfld ?_ | refine' Rd.meth ?_ | refine' Rd.make ?_ | refine' Rd.lc ?_ | refine' Rd.bm ?_ | refine' Rd.bm0 ?_ | refine' Rd.bt ?_ | refine' Rd.enT ?_ | refine' Rd.enL ?_)
local macro_rules | `(tactic| walk_at "st") => `(tactic| repeat (first | walk_at "st1" | ((with_reducible refine' Rd.var ?hv ?_); (case hv => rfl))))
local macro_rules | `(tactic| walk_at "sj1") => `(tactic| with_reducible first
  | refine' Rd.seqA ?_ | refine' Rd.seqD ?_ | refine' Rd.seqF ?_ | refine' Rd.seqW ?_ | refine' Rd.nxt ?_ | refine' Rd.asg ?_ | refine' Rd.nm ?_ | refine' Rd.con ?_ | refine' Rd.op ?_ | refine' Rd.i0 ?_ | refine' Rd.un ?_ | refine' Rd.u0 ?_
  | refine' Rd.eqI ?_ | refine' Rd.neI ?_ | refine' Rd.eqB ?_ | refine' Rd.tst ?_ | refine' Rd.tB_ ?_ | refine' Rd.exb ?_ | refine' Rd.ifS ?_ | refine' Rd.ret ?_ | refine' Rd.retN ?_ | refine' Rd.drop ?_
  | refine' Rd.nil ?_ | refine' Rd.cons ?_ | refine' Rd.cb ?_ | refine' Rd.call ?_ | refine' Rd.callN ?_ | refine' Rd.z2 ?_ | refine' Rd.z3 ?_ | refine' Rd.revA ?_ | refine' Rd.revL ?_ | refine' Rd.star ?_ | refine' Rd.lc2 ?_ | refine' Rd.andT ?_ | refine' Rd.orT ?_ | refine' Rd.notT ?_ | refine' Rd.andV ?_ | refine' Rd.orV ?_ | refine' Rd.notV ?_ | refine' Rd.chain ?_
  | refine' Rd.lst ?_ | refine' Rd.tup ?_ | refine' Rd.for_ ?_ | refine' Rd.rng1 ?_ | refine' Rd.rng2 ?_ | refine' Rd.itl ?_ | refine' Rd.itt ?_ | refine' Rd.sub ?_
  | refine' Rd.lrg ?_ | refine' Rd.rg1 ?_ | refine' Rd.rg2 ?_ | refine' Rd.exi ?_ | refine' Rd.exi2 ?_ | refine' Rd.int1 ?_ | refine' Rd.ex1 ?_ | refine' Rd.ex2 ?_
  | refine' Rd.fld ?_ | refine' Rd.sfld ?_ | refine' Rd.meth ?_ | refine' Rd.make ?_ | refine' Rd.lc ?_ | refine' Rd.bm ?_ | refine' Rd.bm0 ?_ | refine' Rd.bt ?_ | refine' Rd.enT ?_ | refine' Rd.enL ?_)
local macro_rules | `(tactic| walk_at "sj") => `(tactic| repeat (first | walk_at "sj1" | ((with_reducible refine' Rd.var ?hv ?_); (case hv => rfl))))
/-! ### the law: values, sums, common multiples -/
def sp_common : Sp := fun vs H Q _ => ∃ (a : Addr) (ms : List Int), vs = [.ref a] ∧ H a = some (.lst (ms.map V.int)) ∧ OkM ms ∧ pr ms ≤ 32 ∧ Q (.int (lcF ms : Nat)) H
def sp_lvals : Sp := fun vs H Q _ => ∃ (a : Addr) (ms : List Int), vs = [.ref a] ∧ H a = some (.lst (ms.map V.int)) ∧ OkM ms ∧ pr ms ≤ 32 ∧ ∀ l H', H l = none → Same H H' → LT H' l (VL ms) → Q (.ref l) H'
def sp_ltab : Sp := fun vs H Q _ => ∃ (a : Addr) (ms : List Int), vs = [.ref a] ∧ H a = some (.lst (ms.map V.int)) ∧ OkM ms ∧ pr ms ≤ 32 ∧ ∀ l H', Same H H' → TabAt H' l (tabOf (addV ms) (VL ms)) → Q (.ref l) H'
theorem m32le {ms : List Int} (o : OkM ms) (h4 : pr ms ≤ 32) : ∀ m ∈ ms, m ≤ 32 := fun m hm => by
  obtain ⟨i, hi⟩ := List.getElem?_of_mem hm
  have h1 := pr_take hi
  have h2 := pr_take_le o (i + 1)
  have h3 := pr_pos (ms := ms.take i) fun y hy => o y (List.mem_of_mem_take hy)
  have h5 : 1 * m.toNat ≤ pr (ms.take i) * m.toNat := Nat.mul_le_mul_right _ h3
  omega
/-- multiples of s, one by one, until m divides -/
theorem lcm_walk {s m r : Nat} (hs : 0 < s) (hm : 0 < m) (r1 : 1 ≤ r) (hr : s * r ≤ Nat.lcm s m) : (s * r % m = 0 ↔ s * r = Nat.lcm s m) := by
  constructor
  · intro h
    have d1 : m ∣ s * r := Nat.dvd_of_mod_eq_zero h
    have d := Nat.lcm_dvd (Nat.dvd_mul_right s r) d1
    exact Nat.le_antisymm hr (Nat.le_of_dvd (Nat.mul_pos hs r1) d)
  · intro h
    rw [h]
    exact Nat.mod_eq_zero_of_dvd (Nat.dvd_lcm_right s m)
theorem lcm_next {s m r : Nat} (hs : 0 < s) (hr : s * r < Nat.lcm s m) : s * r + s ≤ Nat.lcm s m := by
  obtain ⟨t, ht⟩ := Nat.dvd_lcm_left s m
  rw [ht] at hr ⊢
  have : r < t := Nat.lt_of_mul_lt_mul_left hr
  have := Nat.mul_le_mul_left s (show r + 1 ≤ t from this)
  rw [Nat.mul_succ] at this
  exact this
section
variable {P : Program} {w : World} {K : PySem.W.Frag} {mg : Str → Option Value} {base : Heap} {f : Addr} {fd : FuncData}
abbrev s__law_common : Stmt := (top 22)
theorem sc__law_common : FnScope ["moduli", "result", "modulus", "step", "k"] ["moduli"] (defScope s__law_common) := ⟨rfl, rfl, rfl, by decide +kernel, rfl, by decide +kernel, by decide +kernel⟩
theorem ok_common (F : FnP K "_law_common" "_law_common" s__law_common f fd) (T : Txt K mg) : FnOk P w K mg base CX0 1 f fd ["moduli"] sp_common := by
  refine F.ok sc__law_common (fun vs H Q E h => ?_) (fun cdv A outer s H vs Q E hr h => ?_)
  · obtain ⟨_, _, rfl, _⟩ := h; rfl
  obtain ⟨a, ms, rfl, ha, o, ple, k⟩ := h
  have few := few_of o ple
  have m32 := m32le o ple
  refine ⟨_, PSs.nox (pss_cons (ps_set (i := 1) sc__law_common.nd rfl (Or.inl rfl) pe_int)
  (pss_cons (ps_for PassesOwn.never rfl (Rk.pl K rfl (pv 0)) (pg_name (i := 2) sc__law_common.nd rfl (Or.inl rfl))
  (pss_cons (ps_set (i := 3) sc__law_common.nd rfl (Or.inl rfl) (pv 1))
  (pss_one (ps_for PassesOwn.never rfl (pi_range1 rfl T.range (pa_cons pe_int pa_nil)) (pg_name (i := 4) sc__law_common.nd rfl (Or.inl rfl))
  (pss_one (ps_if (pt_cmpR op_ne (pe_op op_mod (pe_callTy call_int1 rfl T.int (by decide +kernel) (pa_cons (pv 1) pa_nil)) (pv 2)) pe_int (nomark _))
  (pss_one (ps_set (i := 1) sc__law_common.nd rfl (Or.inl rfl) (pe_op op_add (pv 1) (pv 3))))
  pss_nil))))))
  (pss_one (ps_ret (pv 1))))), ?_⟩
  walk_at "st"
  refine Rd.itl' (SqL.of ha) ?_
  refine for_list (K := K) (a := a) (xs := ms.map V.int) (fun i σ H' => ∃ (v2 v3 v4 : Option V), σ = [some (.ref a), some (.int (lcF (ms.take i) : Nat)), v2, v3, v4] ∧ H' = H)
    ⟨none, none, none, rfl, rfl⟩ (fun i σ H' _ ⟨_, _, _, _, e⟩ => e ▸ SqL.of ha) ?_ ?_
  · rintro i x σ H' hx ⟨v2, v3, v4, rfl, rfl⟩
    obtain ⟨m, hm, rfl⟩ := intAt hx
    have m2 := o m (List.mem_of_getElem? hm)
    have mx := m32 m (List.mem_of_getElem? hm)
    have hi := (List.getElem?_eq_some_iff.mp hm).1
    have sp := lcF_pos o i (by omega)
    have sl := lcF_pr (ms := ms) i (by omega)
    have pl := pr_take_le o i
    have nx := lcF_take hm
    generalize lcF (ms.take i) = s at sp sl nx
    have mp : 0 < m.toNat := by omega
    have ll := lcm_le s m.toNat
    have lb : Nat.lcm s m.toNat ≤ 32 * 32 := Nat.le_trans ll (Nat.mul_le_mul (by omega) (by omega))
    have mc : (m.toNat : Int) = m := Int.toNat_of_nonneg (by omega)
    walk_at "st"
    refine ⟨by decide, by decide, ?_⟩
    refine for_range (fun j σ H2 => ∃ (v4 : Option V) (r : Nat), σ = [some (.ref a), some (.int ((s * r : Nat) : Int)), some (.int m), some (.int (s : Nat)), v4] ∧ H2 = H' ∧ 1 ≤ r ∧ s * r ≤ Nat.lcm s m.toNat ∧ (s * r = Nat.lcm s m.toNat ∨ r = j + 1))
      ⟨v4, 1, by rw [Nat.mul_one]; rfl, rfl, Nat.le_refl 1, by rw [Nat.mul_one]; exact Nat.le_of_dvd (Nat.lcm_pos sp mp) (Nat.dvd_lcm_left _ _), .inr rfl⟩ ?_ ?_
    · rintro j σ H2 hj ⟨v4, r, rfl, rfl, r1, rl, rj⟩
      walk_at "st"
      refine Rd.iC (by show 0 < m; omega) ?_
      walk_at "st"
      have em : ((s * r : Nat) : Int) % m = ((s * r % m.toNat : Nat) : Int) := by rw [Int.natCast_emod, mc]
      rw [em]
      refine Rd.ite_n (fun c => ?_) (fun c => ?_)
      · have ne : s * r ≠ Nat.lcm s m.toNat := fun z => c (by rw [(lcm_walk sp mp r1 rl).mpr z]; rfl)
        have nxt := lcm_next sp (Nat.lt_of_le_of_ne rl ne)
        walk_at "st"
        refine ⟨some (.int (0 + (j : Nat))), r + 1, ?_, rfl, by omega, by rw [Nat.mul_succ]; exact nxt, .inr ?_⟩
        · rw [Nat.mul_succ, Int.natCast_add]; rfl
        · rcases rj with z | z
          · exact absurd z ne
          · omega
      · have e : s * r = Nat.lcm s m.toNat := (lcm_walk sp mp r1 rl).mp (by omega)
        walk_at "st"
        exact ⟨some (.int (0 + (j : Nat))), r, rfl, rfl, r1, rl, .inl e⟩
    · rintro σ H2 ⟨v4, r, rfl, rfl, r1, rl, rj⟩
      have e : s * r = Nat.lcm s m.toNat := by
        rcases rj with z | z
        · exact z
        · have hr : r = 33 := z
          have h1 : s * m.toNat ≤ s * r := Nat.mul_le_mul_left s (by omega)
          omega
      walk_at "st"
      refine ⟨some (.int m), some (.int (s : Nat)), v4, ?_, rfl⟩
      rw [nx, e]
  · rintro σ H' ⟨v2, v3, v4, rfl, rfl⟩
    rw [List.length_map, List.take_length]
    walk_at "st"
    exact k
abbrev s__law_values : Stmt := (top 23)
theorem sc__law_values : FnScope ["moduli", "size", "modulus", "values", "position", "rest", "value", "j"] ["moduli"] (defScope s__law_values) := ⟨rfl, rfl, rfl, by decide +kernel, rfl, by decide +kernel, by decide +kernel⟩
theorem ok_lvals (F : FnP K "_law_values" "_law_values" s__law_values f fd) (T : Txt K mg) : FnOk P w K mg base CX0 1 f fd ["moduli"] sp_lvals := by
  refine F.ok sc__law_values (fun vs H Q E h => ?_) (fun cdv A outer s H vs Q E hr h => ?_)
  · obtain ⟨_, _, rfl, _⟩ := h; rfl
  obtain ⟨a, ms, rfl, ha, o, ple, k⟩ := h
  have few := few_of o ple
  have m32 := m32le o ple
  refine ⟨_, PSs.nox (pss_cons (ps_set (i := 1) sc__law_values.nd rfl (Or.inl rfl) pe_int)
  (pss_cons (ps_for PassesOwn.never rfl (Rk.pl K rfl (pv 0)) (pg_name (i := 2) sc__law_values.nd rfl (Or.inl rfl))
  (pss_one (ps_set (i := 1) sc__law_values.nd rfl (Or.inl rfl) (pe_op op_mul (pv 1) (pv 2)))))
  (pss_cons (ps_set (i := 3) sc__law_values.nd rfl (Or.inl rfl) (pe_lst pa_nil))
  (pss_cons (ps_for PassesOwn.never rfl (pi_range1 rfl T.range (pa_cons (pv 1) pa_nil)) (pg_name (i := 4) sc__law_values.nd rfl (Or.inl rfl))
  (pss_cons (ps_set (i := 5) sc__law_values.nd rfl (Or.inl rfl) (pv 4))
  (pss_cons (ps_set (i := 6) sc__law_values.nd rfl (Or.inl rfl) (pe_tup pa_nil))
  (pss_cons (ps_for PassesOwn.never rfl (pi_range3 rfl T.range (pa_cons (pe_op op_sub (pe_callB (Rk.len K) rfl T.len PySem.boot_len (pa_cons (pv 0) pa_nil)) pe_int) (pa_cons (pe_un un_neg pe_int) (pa_cons (pe_un un_neg pe_int) pa_nil)))) (pg_name (i := 7) sc__law_values.nd rfl (Or.inl rfl))
  (pss_cons (ps_set (i := 6) sc__law_values.nd rfl (Or.inl rfl) (pe_op (Rk.catA K) (pe_tup (pa_cons (pe_op op_mod (pe_callTy call_int1 rfl T.int (by decide +kernel) (pa_cons (pv 5) pa_nil)) (pe_ix (Rk.ixL K) (pv 0) (pv 7) (fun _ _ => rfl))) pa_nil)) (pv 6)))
  (pss_one (ps_set (i := 5) sc__law_values.nd rfl (Or.inl rfl) (pe_op op_fdivW (pv 5) (pe_ix (Rk.ixL K) (pv 0) (pv 7) (fun _ _ => rfl)))))))
  (pss_one (ps_expr (Rk.bm K rfl PySem.F.plainAttrs_list PySem.F.slot_list_append PySem.F.type_list_append mt_append (pv 3) (pa_cons (pv 6) pa_nil))))))))
  (pss_one (ps_ret (pv 3))))))), ?_⟩
  walk_at "st"
  refine Rd.itl' (SqL.of ha) ?_
  refine for_list (K := K) (a := a) (xs := ms.map V.int) (fun i σ H' => ∃ v2 : Option V, σ = [some (.ref a), some (.int (pr (ms.take i) : Nat)), v2, none, none, none, none, none] ∧ H' = H)
    ⟨none, rfl, rfl⟩ (fun i σ H' _ ⟨_, _, e⟩ => e ▸ SqL.of ha) ?_ ?_
  · rintro i x σ H' hx ⟨v2, rfl, rfl⟩
    obtain ⟨m, hm, rfl⟩ := intAt hx
    have m2 := o m (List.mem_of_getElem? hm)
    have mx := m32 m (List.mem_of_getElem? hm)
    have pl := pr_take_le o i
    have st := pr_take hm
    walk_at "st"
    refine Rd.iC (.inr ⟨by omega, by omega⟩) ?_
    walk_at "st"
    refine ⟨some (.int m), ?_, rfl⟩
    rw [st, Int.natCast_mul, Int.toNat_of_nonneg (by omega : 0 ≤ m)]; rfl
  rintro σ H' ⟨v2, rfl, rfl⟩
  rw [List.length_map, List.take_length]
  walk_at "st"
  refine ⟨Nat.zero_le _, fun l hl => ?_⟩
  have hln := hl
  have e1 : Same H' (upd H' l (.lst [])) := Rd.same_mk hl
  have X0 : (upd H' l (.lst [])) l = some (.lst []) := upd_same
  generalize upd H' l (.lst []) = H1 at e1 X0
  walk_at "st"
  refine ⟨by omega, by omega, ?_⟩
  refine for_range (fun p σ H2 => ∃ (v4 v5 v6 v7 : Option V) (as : List Addr), σ = [some (.ref a), some (.int (pr ms : Nat)), v2, some (.ref l), v4, v5, v6, v7] ∧ Same H' H2 ∧ H2 l = some (.lst (as.map V.ref)) ∧ Rows TupP H2 as ((VL ms).take p))
    ⟨none, none, none, none, [], rfl, e1, X0, by rw [List.take_zero]; exact ⟨rfl, fun i a r h => by simp at h⟩⟩ ?_ ?_
  · rintro p σ H2 hp ⟨v4, v5, v6, v7, as, rfl, e2, X, R⟩
    have hp2 : p < pr ms := by omega
    walk_at "st"
    refine ⟨Nat.zero_le _, fun u hu => ?_⟩
    have e3 : Same H2 (upd H2 u (.tup [])) := Rd.same_mk hu
    have hU : (upd H2 u (.tup [])) u = some (.tup []) := upd_same
    generalize upd H2 u (.tup []) = H3 at e3 hU
    walk_at "st"
    refine Rd.rng3 ?_
    walk_at "st"
    refine Rd.len1 (.inl (SqL.of (e3 _ _ (e2 _ _ ha)))) ?_
    walk_at "st"
    rw [List.length_map]
    refine ⟨(ms.length : Int) - 1, -1, -1, ms.length, rfl, ?_, ?_⟩
    · have h := RgC.neg (i := (ms.length : Int) - 1) (j := -1) (by omega) (by omega) (by decide) (by decide)
      rw [show ((ms.length : Int) - 1 - -1).toNat = ms.length by omega] at h
      exact h
    refine for_rangeC (fun i σ H4 => ∃ (v7 : Option V) (z : Addr), σ = [some (.ref a), some (.int (pr ms : Nat)), v2, some (.ref l), some (.int (0 + (p : Nat))), some (.int ((p / pr (ms.drop (ms.length - i)) : Nat) : Int)), some (.ref z), v7] ∧ Same H2 H4 ∧ TupP H4 z ((dg (ms.drop (ms.length - i)) p).map V.int))
      ⟨v7, u, ?_, e3, ?_⟩ ?_ ?_
    · rw [Nat.sub_zero, List.drop_length]
      show _ = [some (.ref a), some (.int (pr ms : Nat)), v2, some (.ref l), some (.int (0 + (p : Nat))), some (.int ((p / 1 : Nat) : Int)), some (.ref u), v7]
      rw [Nat.div_one, Int.zero_add]; rfl
    · rw [Nat.sub_zero, List.drop_length]; exact hU
    · rintro i σ H4 hi ⟨v7, z, rfl, e4, hz⟩
      have hj : ms.length - 1 - i < ms.length := by omega
      obtain ⟨m, hm⟩ : ∃ m, ms[ms.length - 1 - i]? = some m := ⟨_, List.getElem?_eq_getElem hj⟩
      have m2 := o m (List.mem_of_getElem? hm)
      have m3 := m32 m (List.mem_of_getElem? hm)
      obtain ⟨d1, d2⟩ := dg_drop (p := p) hm
      have ei : ms.length - 1 - i + 1 = ms.length - i := by omega
      rw [ei] at d1 d2
      have ej : ms.length - (i + 1) = ms.length - 1 - i := by omega
      have dl : (dg (ms.drop (ms.length - i)) p).length ≤ 5 := by rw [dg_len, List.length_drop]; omega
      have mc : (m.toNat : Int) = m := Int.toNat_of_nonneg (by omega)
      have hx : (ms.length : Int) - 1 + (i : Nat) * (-1) = ((ms.length - 1 - i : Nat) : Int) := by omega
      have ha4 := e4 _ _ (e2 _ _ ha)
      rw [hx]
      walk_at "st"
      refine Rd.ixL (SqL.of ha4) (at_of (j := ms.length - 1 - i) rfl (map_get_int hm)) ?_
      walk_at "st"
      refine Rd.iC (by show 0 < m; omega) ?_
      walk_at "st"
      refine ⟨(by decide : 1 ≤ sizeLine), fun q hq => ?_⟩
      have e5 : Same H4 (upd H4 q (.tup [V.int (((p / pr (ms.drop (ms.length - i)) : Nat) : Int) % m)])) := Rd.same_mk hq
      have hQ : (upd H4 q (.tup [V.int (((p / pr (ms.drop (ms.length - i)) : Nat) : Int) % m)])) q = some (.tup [V.int (((p / pr (ms.drop (ms.length - i)) : Nat) : Int) % m)]) := upd_same
      generalize upd H4 q (.tup [V.int (((p / pr (ms.drop (ms.length - i)) : Nat) : Int) % m)]) = H5 at e5 hQ
      have hz5 := e5 _ _ hz
      have hd : (((p / pr (ms.drop (ms.length - i)) : Nat) : Int) % m) = ((p / pr (ms.drop (ms.length - i)) % m.toNat : Nat) : Int) := by rw [Int.natCast_emod, mc]
      rw [hd] at hQ
      have fin : ∀ (z2 : Addr) (H6 : Hp), Same H5 H6 → TupP H6 z2 ((dg (ms.drop (ms.length - (i + 1))) p).map V.int) → ∃ (v7 : Option V) (z : Addr), [some (V.ref a), some (V.int (pr ms : Nat)), v2, some (V.ref l), some (V.int (0 + (p : Nat))), some (V.int (((p / pr (ms.drop (ms.length - i)) : Nat) : Int) / m)), some (V.ref z2), some (V.int ((ms.length - 1 - i : Nat) : Int))] = [some (V.ref a), some (.int (pr ms : Nat)), v2, some (.ref l), some (.int (0 + (p : Nat))), some (.int ((p / pr (ms.drop (ms.length - (i + 1))) : Nat) : Int)), some (.ref z), v7] ∧ Same H2 H6 ∧ TupP H6 z ((dg (ms.drop (ms.length - (i + 1))) p).map V.int) := by
        intro z2 H6 e6 h6
        refine ⟨some (V.int ((ms.length - 1 - i : Nat) : Int)), z2, ?_, (e4.trans e5).trans e6, h6⟩
        rw [ej, d2, Nat.mul_comm, ← Nat.div_div_eq_div_mul, Int.natCast_ediv (p / _), mc]
      walk_at "st"
      refine ⟨q, z, _, _, rfl, rfl, SqT.of hQ, SqT.of hz5, ?_, ?_, ?_, ?_⟩
      · rw [List.length_map]; exact Nat.le_of_lt (Nat.lt_of_le_of_lt (by show 1 + _ ≤ 1000; omega) (by decide : 1000 < sizeLine))
      · intro h; cases h
      · intro _ h
        have ha5 := e5 _ _ ha4
        walk_at "st"
        refine Rd.ixL (SqL.of ha5) (at_of (j := ms.length - 1 - i) rfl (map_get_int hm)) ?_
        walk_at "st"
        refine Rd.iC (wide_div (b := 64) (by omega) (by omega) (by decide) (by decide)) ?_
        walk_at "st"
        refine fin q _ (Same.refl _) ?_
        unfold TupP
        have : dg (ms.drop (ms.length - i)) p = [] := List.map_eq_nil_iff.mp h
        rw [ej, d1, this, hQ]; rfl
      · intro _ _ r hr
        have e6 : Same H5 (upd H5 r (.tup ([V.int ((p / pr (ms.drop (ms.length - i)) % m.toNat : Nat) : Int)] ++ (dg (ms.drop (ms.length - i)) p).map V.int))) := Rd.same_mk hr
        have hR : (upd H5 r (.tup ([V.int ((p / pr (ms.drop (ms.length - i)) % m.toNat : Nat) : Int)] ++ (dg (ms.drop (ms.length - i)) p).map V.int))) r = some (.tup ((dg (ms.drop (ms.length - (i + 1))) p).map V.int)) := by rw [upd_same, ej, d1]; rfl
        generalize upd H5 r (.tup ([V.int ((p / pr (ms.drop (ms.length - i)) % m.toNat : Nat) : Int)] ++ (dg (ms.drop (ms.length - i)) p).map V.int)) = H6 at e6 hR
        have ha5 := e6 _ _ (e5 _ _ ha4)
        walk_at "st"
        refine Rd.ixL (SqL.of ha5) (at_of (j := ms.length - 1 - i) rfl (map_get_int hm)) ?_
        walk_at "st"
        refine Rd.iC (wide_div (b := 64) (by omega) (by omega) (by decide) (by decide)) ?_
        walk_at "st"
        exact fin r _ e6 hR
    · rintro σ H4 ⟨v7, z, rfl, e4, hz⟩
      rw [Nat.sub_self, List.drop_zero] at hz
      have X4 := e4 _ _ X
      have al : as.length = p := by rw [R.len, List.length_take, VL_len]; omega
      walk_at "st"
      refine Rd.tyL X4 ?_
      walk_at "st"
      refine Rd.app X4 (by rw [List.length_map]; exact line_of (by omega)) ?_
      walk_at "st"
      refine ⟨some (.int (0 + (p : Nat))), _, some (.ref z), v7, as ++ [z], rfl, Rd.same_mut (e2.trans e4) hln, by rw [upd_same, List.map_append]; rfl, ?_⟩
      have nz : ∀ {c : Addr} {xs : List V}, TupP H4 c xs → TupP (upd H4 l (.lst (as.map V.ref ++ [V.ref z]))) c xs := fun {c xs} h => by
        unfold TupP at h ⊢
        rw [upd_ne (fun e => by rw [e, X4] at h; cases h)]
        exact h
      have vt : (VL ms).take (p + 1) = (VL ms).take p ++ [dg ms p] := by rw [List.take_add_one, VL_get hp2]; rfl
      rw [vt]
      refine ⟨by rw [List.length_append, List.length_append, R.len]; rfl, fun n c r h1 h2 => nz ?_⟩
      by_cases cn : n < as.length
      · rw [List.getElem?_append_left cn] at h1
        rw [List.getElem?_append_left (by rw [← R.len]; exact cn)] at h2
        exact e4 _ _ (R.row n c r h1 h2)
      · rw [List.getElem?_append_right (by omega)] at h1
        rw [List.getElem?_append_right (by rw [← R.len]; omega), ← R.len] at h2
        cases hn : n - as.length with
        | zero => rw [hn] at h1 h2; cases h1; cases h2; exact hz
        | succ n => rw [hn] at h1; simp at h1
  · rintro σ H2 ⟨v4, v5, v6, v7, as, rfl, e2, X, R⟩
    walk_at "st"
    refine k l _ hln e2 ⟨as, X, ?_⟩
    rw [show (((pr ms : Nat) : Int)).toNat = (VL ms).length by rw [VL_len]; omega, List.take_length] at R
    exact R
end
end K02

set_option Elab.async false
set_option linter.all false
set_option maxRecDepth 100000
set_option maxHeartbeats 4000000
namespace K02
open PySem L2 Rd GT
local macro_rules | `(tactic| walk_at "st1") => `(tactic| with_reducible first
  | refine' Rd.seq ?_ | refine' Rd.nxt ?_ | refine' Rd.asg ?_ | refine' Rd.nm ?_ | refine' Rd.con ?_ | refine' Rd.op ?_ | refine' Rd.i0 ?_ | refine' Rd.un ?_ | refine' Rd.u0 ?_
  | refine' Rd.eqI ?_ | refine' Rd.neI ?_ | refine' Rd.eqB ?_ | refine' Rd.tst ?_ | refine' Rd.tB_ ?_ | refine' Rd.exb ?_ | refine' Rd.ifS ?_ | refine' Rd.ret ?_ | refine' Rd.retN ?_ | refine' Rd.drop ?_
  | refine' Rd.nil ?_ | refine' Rd.cons ?_ | refine' Rd.cb ?_ | refine' Rd.call ?_ | refine' Rd.callN ?_ | refine' Rd.z2 ?_ | refine' Rd.z3 ?_ | refine' Rd.revA ?_ | refine' Rd.revL ?_ | refine' Rd.star ?_ | refine' Rd.lc2 ?_ | refine' Rd.andT ?_ | refine' Rd.orT ?_ | refine' Rd.notT ?_ | refine' Rd.andV ?_ | refine' Rd.orV ?_ | refine' Rd.notV ?_ | refine' Rd.chain ?_
  | refine' Rd.lst ?_ | refine' Rd.tup ?_ | refine' Rd.for_ ?_ | refine' Rd.rng1 ?_ | refine' Rd.rng2 ?_ | refine' Rd.itl ?_ | refine' Rd.itt ?_ | refine' Rd.sub ?_
  | refine' Rd.lrg ?_ | refine' Rd.rg1 ?_ | refine' Rd.rg2 ?_ | refine' Rd.exi ?_ | refine' Rd.exi2 ?_ | refine' Rd.int1 ?_ | refine' Rd.ex1 ?_ | refine' Rd.ex2 ?_
  | refine' Rd.fld ?_ | refine' Rd.sfld ?_ | refine' Rd.meth ?_ | refine' Rd.make ?_ | refine' Rd.lc ?_ | refine' Rd.bm ?_ | refine' Rd.bm0 ?_ | refine' Rd.bt ?_ | refine' Rd.enT ?_ | refine' Rd.enL ?_)
local macro_rules | `(tactic| walk_at "st") => `(tactic| repeat (first | walk_at "st1" | ((with_reducible refine' Rd.var ?hv ?_); (case hv => rfl))))
local macro_rules | `(tactic| walk_at "sj1") => `(tactic| with_reducible first
  | refine' Rd.seqA ?_ | refine' Rd.seqD ?_ | refine' Rd.seqF ?_ | refine' Rd.seqW ?_ | refine' Rd.nxt ?_ | refine' Rd.asg ?_ | refine' Rd.nm ?_ | refine' Rd.con ?_ | refine' Rd.op ?_ | refine' Rd.i0 ?_ | refine' Rd.un ?_ | refine' Rd.u0 ?_
  | refine' Rd.eqI ?_ | refine' Rd.neI ?_ | refine' Rd.eqB ?_ | refine' Rd.tst ?_ | refine' Rd.tB_ ?_ | refine' Rd.exb ?_ | refine' Rd.ifS ?_ | refine' Rd.ret ?_ | refine' Rd.retN ?_ | refine' Rd.drop ?_
  | refine' Rd.nil ?_ | refine' Rd.cons ?_ | refine' Rd.cb ?_ | refine' Rd.call ?_ | refine' Rd.callN ?_ | refine' Rd.z2 ?_ | refine' Rd.z3 ?_ | refine' Rd.revA ?_ | refine' Rd.revL ?_ | refine' Rd.star ?_ | refine' Rd.lc2 ?_ | refine' Rd.andT ?_ | refine' Rd.orT ?_ | refine' Rd.notT ?_ | refine' Rd.andV ?_ | refine' Rd.orV ?_ | refine' Rd.notV ?_ | refine' Rd.chain ?_
  | refine' Rd.lst ?_ | refine' Rd.tup ?_ | refine' Rd.for_ ?_ | refine' Rd.rng1 ?_ | refine' Rd.rng2 ?_ | refine' Rd.itl ?_ | refine' Rd.itt ?_ | refine' Rd.sub ?_
  | refine' Rd.lrg ?_ | refine' Rd.rg1 ?_ | refine' Rd.rg2 ?_ | refine' Rd.exi ?_ | refine' Rd.exi2 ?_ | refine' Rd.int1 ?_ | refine' Rd.ex1 ?_ | refine' Rd.ex2 ?_
  | refine' Rd.fld ?_ | refine' Rd.sfld ?_ | refine' Rd.meth ?_ | refine' Rd.make ?_ | refine' Rd.lc ?_ | refine' Rd.bm ?_ | refine' Rd.bm0 ?_ | refine' Rd.bt ?_ | refine' Rd.enT ?_ | refine' Rd.enL ?_)
local macro_rules | `(tactic| walk_at "sj") => `(tactic| repeat (first | walk_at "sj1" | ((with_reducible refine' Rd.var ?hv ?_); (case hv => rfl))))
/-! ### the law: the table of a target -/
theorem rgN (n : Nat) : (((n : Nat) : Int)).toNat = n := by omega
section
variable {P : Program} {w : World} {K : PySem.W.Frag} {mg : Str → Option Value} {base : Heap} {f : Addr} {fd : FuncData}
abbrev s__law_target_table : Stmt := (top 24)
theorem sc__law_target_table : FnScope ["moduli", "values", "sums", "j", "b", "a", "entry", "row"] ["moduli"] (defScope s__law_target_table) := ⟨rfl, rfl, rfl, by decide +kernel, rfl, by decide +kernel, by decide +kernel⟩
theorem ok_ltab (F : FnP K "_law_target_table" "_law_target_table" s__law_target_table f fd) (T : Txt K mg) (D__law_values : DOk P w K mg base CX0 "_law_values" 1 ["moduli"] sp_lvals) : FnOk P w K mg base CX0 2 f fd ["moduli"] sp_ltab := by
  refine F.ok sc__law_target_table (fun vs H Q E h => ?_) (fun cdv A outer s H vs Q E hr h => ?_)
  · obtain ⟨_, _, rfl, _⟩ := h; rfl
  obtain ⟨a, ms, rfl, ha, o, ple, k⟩ := h
  have few := few_of o ple
  refine ⟨_, PSs.nox (pss_cons (ps_set (i := 1) sc__law_target_table.nd rfl (Or.inr rfl) (callX D__law_values (hr.mono (by decide)) (passN) (pa_cons (pv 0) pa_nil)))
  (pss_cons (ps_setLc (i := 2) (own := [("a", 5)]) rfl sc__law_target_table.nd rfl rfl (sw_true rfl rfl rfl (by decide +kernel)) (Rk.pl K rfl (pv 1)) (blkOk_by (own := [("a", 5)]) (N := ["moduli", "values", "sums", "j", "b", "a", "entry", "row"]) (sc := defScope s__law_target_table) (by decide +kernel)) (fun _ _ _ _ _ => (pg_name (i := 5) sc__law_target_table.nd rfl (Or.inr rfl))) (fun _ _ _ _ _ => pts_nil) (fun _ _ _ _ _ => (pe_lc (own := [("b", 4)]) rfl sc__law_target_table.nd (Rk.pl K rfl (pv 1)) (blkOk_by (own := [("b", 4)]) (N := ["moduli", "values", "sums", "j", "b", "a", "entry", "row"]) (sc := (relS { kind := .function, names := [(".0", .local), ("a", .cell), ("moduli", .free), ("values", .free)], isGenerator := false, isCoroutine := false } (defScope s__law_target_table))) (by decide +kernel)) (fun _ _ _ _ _ => (pg_name (i := 4) sc__law_target_table.nd rfl (Or.inr rfl))) (fun _ _ _ _ _ => pts_nil) (fun _ _ _ _ _ => (pe_lc (own := [("j", 3)]) rfl sc__law_target_table.nd (pi_range1 rfl T.range (pa_cons (pe_callB (Rk.len K) rfl T.len PySem.boot_len (pa_cons (pv 0) pa_nil)) pa_nil)) (blkOk_by (own := [("j", 3)]) (N := ["moduli", "values", "sums", "j", "b", "a", "entry", "row"]) (sc := (relS { kind := .function, names := [(".0", .local), ("b", .cell), ("range", .globalImplicit), ("len", .globalImplicit), ("a", .free), ("moduli", .free)], isGenerator := false, isCoroutine := false } (relS { kind := .function, names := [(".0", .local), ("a", .cell), ("moduli", .free), ("values", .free)], isGenerator := false, isCoroutine := false } (defScope s__law_target_table)))) (by decide +kernel)) (fun _ _ _ _ _ => (pg_name (i := 3) sc__law_target_table.nd rfl (Or.inl rfl))) (fun _ _ _ _ _ => pts_nil) (fun _ _ _ _ _ => (pe_op op_mod (pe_callTy call_int1 rfl T.int (by decide +kernel) (pa_cons (pe_op op_add (pe_ix (Rk.ixT K) (pv 5) (pv 3) (fun _ _ => rfl)) (pe_ix (Rk.ixT K) (pv 4) (pv 3) (fun _ _ => rfl))) pa_nil)) (pe_ix (Rk.ixL K) (pv 0) (pv 3) (fun _ _ => rfl)))))))))
  (pss_one (ps_ret (pe_lc (own := [("row", 7)]) rfl sc__law_target_table.nd (Rk.pl K rfl (pv 2)) (blkOk_by (own := [("row", 7)]) (N := ["moduli", "values", "sums", "j", "b", "a", "entry", "row"]) (sc := defScope s__law_target_table) (by decide +kernel)) (fun _ _ _ _ _ => (pg_name (i := 7) sc__law_target_table.nd rfl (Or.inl rfl))) (fun _ _ _ _ _ => pts_nil) (fun _ _ _ _ _ => (pe_lc (own := [("entry", 6)]) rfl sc__law_target_table.nd (Rk.pl K rfl (pv 7)) (blkOk_by (own := [("entry", 6)]) (N := ["moduli", "values", "sums", "j", "b", "a", "entry", "row"]) (sc := (relS { kind := .function, names := [(".0", .local), ("row", .local), ("values", .free)], isGenerator := false, isCoroutine := false } (defScope s__law_target_table))) (by decide +kernel)) (fun _ _ _ _ _ => (pg_name (i := 6) sc__law_target_table.nd rfl (Or.inl rfl))) (fun _ _ _ _ _ => pts_nil) (fun _ _ _ _ _ => (Rk.bm K rfl PySem.F.plainAttrs_list PySem.F.slot_list_index PySem.F.type_list_index (Rk.indexD K rfl (un65 hr)) (pv 1) (pa_cons (pe_callTy (Rk.tup K) rfl T.tuple (by decide +kernel) (pa_cons (pv 6) pa_nil)) pa_nil)))))))))), ?_⟩
  walk_at "st"
  refine ⟨a, ms, rfl, ha, o, ple, fun l H1 hl e1 X => ?_⟩
  obtain ⟨as, a1, a2⟩ := X.ob
  have al : as.length = pr ms := by rw [a2.len, VL_len]
  walk_at "st"
  refine Rd.itl' (SqL.of a1) ?_
  refine lcTab (fun i => (VL ms).map (addV ms ((VL ms).getD i []))) (Rd.src_list (SqL.of a1)) (by rw [List.length_map]; omega) (by intro _; rfl) (fun i y H2 Q1 hy e2 q1 => ?_) (fun tb ts H2 htb e2 h2 lts hts => ?_)
  · obtain ⟨az, z, rfl, g1, g2, g3⟩ := a2.at hy
    have zv := (VL_mem o).mp (List.mem_of_getElem? g2)
    rw [getD_of g2] at q1
    walk_at "st"
    refine Rd.itl' (SqL.of (e2 _ _ a1)) ?_
    refine Rd.lcNew (fun j o => o = .lst ((addV ms z ((VL ms).getD j [])).map V.int)) (Rd.src_list (SqL.of (e2 _ _ a1))) (by rw [List.length_map]; omega) (by intro _; rfl) (fun j y H3 Q2 hy2 e3 q2 => ?_) (fun rp ra H3 hrp e3 h3 lra hra nd => ?_)
    · obtain ⟨aq, q, rfl, k1, k2, k3⟩ := a2.at hy2
      have qv := (VL_mem o).mp (List.mem_of_getElem? k2)
      rw [getD_of k2] at q2
      have e6 := e2.trans e3
      have e16 := e1.trans e6
      walk_at "st"
      refine Rd.len1 (.inl (SqL.of (e16 _ _ ha))) ?_
      walk_at "st"
      rw [List.length_map]
      refine ⟨by omega, by omega, ?_⟩
      refine Rd.lcMap (fun i => .int ((z.getD i 0 + q.getD i 0) % ms.getD i 0)) (Rd.src_rng _ _ _) (by rw [Rd.rgL_len]; omega) (by intro _; rfl) (fun i y H4 Q3 hy3 e4 q3 => ?_) (fun cp H4 hcp e4 h4 => ?_)
      · have hi : i < ms.length := by
          have := (List.getElem?_eq_some_iff.mp hy3).1
          rw [Rd.rgL_len] at this
          omega
        rw [Rd.rgL_get (by omega)] at hy3
        cases hy3
        have e7 := e6.trans e4
        have hz : z[i]? = some (z.getD i 0) := by have h := zv.len; rw [List.getD_eq_getElem?_getD, List.getElem?_eq_getElem (by omega)]; rfl
        have hq : q[i]? = some (q.getD i 0) := by have h := qv.len; rw [List.getD_eq_getElem?_getD, List.getElem?_eq_getElem (by omega)]; rfl
        have hm : ms[i]? = some (ms.getD i 0) := by rw [List.getD_eq_getElem?_getD, List.getElem?_eq_getElem hi]; rfl
        have m2 := o _ (List.mem_of_getElem? hm)
        walk_at "st"
        refine Rd.ixT (SqT.of (e7 _ _ g3)) (at_of (j := i) (by omega) (map_get_int hz)) ?_
        walk_at "st"
        refine Rd.ixT (SqT.of (e7 _ _ k3)) (at_of (j := i) (by omega) (map_get_int hq)) ?_
        walk_at "st"
        refine Rd.ixL (SqL.of ((e16.trans e4) _ _ ha)) (at_of (j := i) (by omega) (map_get_int hm)) ?_
        walk_at "st"
        refine Rd.iC (by show 0 < ms.getD i 0; omega) ?_
        exact q3 _ (Same.refl _)
      · refine q2 cp _ _ hcp e4 h4 ?_
        rw [Rd.rgL_len]
        have := opV_row (f := fun x y => x + y) zv.len qv.len
        show _ = HO.lst ((opV (fun x y => x + y) ms z q).map V.int)
        rw [← this, List.map_map, show ((ms.length : Int)).toNat = ms.length by omega]; rfl
    · refine q1 rp ra H3 hrp e3 h3 ⟨by rw [lra, List.length_map, List.length_map, a2.len], fun n c r h1 h5 => ?_⟩ fun c hc => ?_
      · rw [List.getElem?_map] at h5
        obtain ⟨⟨_, h6, rfl⟩, _, _⟩ := hra n c h1
        obtain ⟨v, hv, rfl⟩ := Option.map_eq_some_iff.mp h5
        rw [getD_of hv] at h6
        exact h6
      · obtain ⟨n, hn⟩ := List.getElem?_of_mem hc
        exact (hra n c hn).2.1
  rw [List.length_map, al] at lts
  have e12 := e1.trans e2
  walk_at "st"
  refine Rd.itl' (SqL.of h2) ?_
  refine Rd.lcNew (fun i o => o = .lst (((tabOf (addV ms) (VL ms)).getD i []).map V.int)) (Rd.src_list (SqL.of h2)) (by rw [List.length_map]; omega) (by intro _; rfl) (fun i y H3 Q1 hy e3 q1 => ?_) (fun rp ra H3 hrp e3 h3 lra hra nd => ?_)
  · rw [List.getElem?_map] at hy
    obtain ⟨c, hc, rfl⟩ := Option.map_eq_some_iff.mp hy
    have hi : i < pr ms := by
      have := (List.getElem?_eq_some_iff.mp hc).1
      omega
    obtain ⟨rs, r1, r2⟩ := hts i c hc
    have g2 := VL_get hi
    rw [getD_of g2] at r2
    have zv := (VL_mem o).mp (List.mem_of_getElem? g2)
    rw [tabOf_row (f := addV ms) g2] at q1
    have rl : rs.length = pr ms := by rw [r2.len, List.length_map, VL_len]
    walk_at "st"
    refine Rd.itl' (SqL.of (e3 _ _ r1)) ?_
    refine Rd.lcMap (fun j => .int (((VL ms).idxOf (addV ms (dg ms i) ((VL ms).getD j [])) : Nat) : Int)) (Rd.src_list (SqL.of (e3 _ _ r1))) (by rw [List.length_map]; omega) (by intro _; rfl) (fun j y H4 Q2 hy2 e4 q2 => ?_) (fun qp H4 hqp e4 h4 => ?_)
    · obtain ⟨aq, q, rfl, k1, k2, k3⟩ := r2.at hy2
      rw [List.getElem?_map] at k2
      obtain ⟨v, hv, rfl⟩ := Option.map_eq_some_iff.mp k2
      have vv := (VL_mem o).mp (List.mem_of_getElem? hv)
      rw [getD_of hv] at q2
      have pv := opV_val (fun x y => x + y) o zv.len vv.len
      have e34 := e3.trans e4
      have X4 := (e2.trans e34) _ _ a1
      walk_at "st"
      refine Rd.tyL X4 ?_
      walk_at "st"
      refine ⟨aq, _, rfl, .inl ⟨SqL.of (e34 _ _ k3), fun t ob ht hob => ?_⟩⟩
      have e5 := Rd.same_mk (H := H4) (o := .frz ob (.tup ((addV ms (dg ms i) v).map V.int))) ht
      walk_at "st"
      refine indexLT (rs := as) (t := VL ms) (d := addV ms (dg ms i) v) (.inl (.inr ⟨ob, upd_same⟩)) (e5 _ _ X4) ?_ ((VL_mem o).mpr pv) ?_
      · exact (a2.map fun b xs _ h => (e2.trans (e34.trans e5)) _ _ h)
      · exact q2 _ e5
    · refine q1 qp _ _ hqp e4 h4 ?_
      rw [List.length_map, rl]
      congr 1
      refine tab_row (by rw [List.length_map, VL_len]) fun j hj => ?_
      rw [List.getElem?_map, List.getElem?_eq_getElem (by rw [VL_len]; exact hj), getD_of (List.getElem?_eq_getElem (by rw [VL_len]; exact hj))]; rfl
  · have XT : TabN H2 H3 rp (tabOf (addV ms) (VL ms)) := TabN.made hrp h3 (by rw [lra, List.length_map, lts, tabOf_len, VL_len]) hra nd
    obtain ⟨ta, t1, trows, t3, t4⟩ := XT.ob
    exact k rp _ (e12.trans e3) ⟨ta, t1, trows⟩
end
end K02

set_option Elab.async false
set_option linter.all false
set_option maxRecDepth 100000
set_option maxHeartbeats 4000000
namespace K02
open PySem L2 Rd GT
local macro_rules | `(tactic| walk_at "st1") => `(tactic| with_reducible first
  | refine' Rd.seq ?_ | refine' Rd.nxt ?_ | refine' Rd.asg ?_ | refine' Rd.nm ?_ | refine' Rd.con ?_ | refine' Rd.op ?_ | refine' Rd.i0 ?_ | refine' Rd.un ?_ | refine' Rd.u0 ?_
  | refine' Rd.eqI ?_ | refine' Rd.neI ?_ | refine' Rd.eqB ?_ | refine' Rd.tst ?_ | refine' Rd.tB_ ?_ | refine' Rd.exb ?_ | refine' Rd.ifS ?_ | refine' Rd.ret ?_ | refine' Rd.retN ?_ | refine' Rd.drop ?_
  | refine' Rd.nil ?_ | refine' Rd.cons ?_ | refine' Rd.cb ?_ | refine' Rd.call ?_ | refine' Rd.callN ?_ | refine' Rd.z2 ?_ | refine' Rd.z3 ?_ | refine' Rd.revA ?_ | refine' Rd.revL ?_ | refine' Rd.star ?_ | refine' Rd.lc2 ?_ | refine' Rd.andT ?_ | refine' Rd.orT ?_ | refine' Rd.notT ?_ | refine' Rd.andV ?_ | refine' Rd.orV ?_ | refine' Rd.notV ?_ | refine' Rd.chain ?_
  | refine' Rd.lst ?_ | refine' Rd.tup ?_ | refine' Rd.for_ ?_ | refine' Rd.rng1 ?_ | refine' Rd.rng2 ?_ | refine' Rd.itl ?_ | refine' Rd.itt ?_ | refine' Rd.sub ?_
  | refine' Rd.lrg ?_ | refine' Rd.rg1 ?_ | refine' Rd.rg2 ?_ | refine' Rd.exi ?_ | refine' Rd.exi2 ?_ | refine' Rd.int1 ?_ | refine' Rd.ex1 ?_ | refine' Rd.ex2 ?_
  | refine' Rd.fld ?_ | refine' Rd.sfld ?_ | refine' Rd.meth ?_ | refine' Rd.make ?_ | refine' Rd.lc ?_ | refine' Rd.bm ?_ | refine' Rd.bm0 ?_ | refine' Rd.bt ?_ | refine' Rd.enT ?_ | refine' Rd.enL ?_)
local macro_rules | `(tactic| walk_at "st") => `(tactic| repeat (first | walk_at "st1" | ((with_reducible refine' Rd.var ?hv ?_); (case hv => rfl))))
local macro_rules | `(tactic| walk_at "sj1") => `(tactic| with_reducible first
  | refine' Rd.seqA ?_ | refine' Rd.seqD ?_ | refine' Rd.seqF ?_ | refine' Rd.seqW ?_ | refine' Rd.nxt ?_ | refine' Rd.asg ?_ | refine' Rd.nm ?_ | refine' Rd.con ?_ | refine' Rd.op ?_ | refine' Rd.i0 ?_ | refine' Rd.un ?_ | refine' Rd.u0 ?_
  | refine' Rd.eqI ?_ | refine' Rd.neI ?_ | refine' Rd.eqB ?_ | refine' Rd.tst ?_ | refine' Rd.tB_ ?_ | refine' Rd.exb ?_ | refine' Rd.ifS ?_ | refine' Rd.ret ?_ | refine' Rd.retN ?_ | refine' Rd.drop ?_
  | refine' Rd.nil ?_ | refine' Rd.cons ?_ | refine' Rd.cb ?_ | refine' Rd.call ?_ | refine' Rd.callN ?_ | refine' Rd.z2 ?_ | refine' Rd.z3 ?_ | refine' Rd.revA ?_ | refine' Rd.revL ?_ | refine' Rd.star ?_ | refine' Rd.lc2 ?_ | refine' Rd.andT ?_ | refine' Rd.orT ?_ | refine' Rd.notT ?_ | refine' Rd.andV ?_ | refine' Rd.orV ?_ | refine' Rd.notV ?_ | refine' Rd.chain ?_
  | refine' Rd.lst ?_ | refine' Rd.tup ?_ | refine' Rd.for_ ?_ | refine' Rd.rng1 ?_ | refine' Rd.rng2 ?_ | refine' Rd.itl ?_ | refine' Rd.itt ?_ | refine' Rd.sub ?_
  | refine' Rd.lrg ?_ | refine' Rd.rg1 ?_ | refine' Rd.rg2 ?_ | refine' Rd.exi ?_ | refine' Rd.exi2 ?_ | refine' Rd.int1 ?_ | refine' Rd.ex1 ?_ | refine' Rd.ex2 ?_
  | refine' Rd.fld ?_ | refine' Rd.sfld ?_ | refine' Rd.meth ?_ | refine' Rd.make ?_ | refine' Rd.lc ?_ | refine' Rd.bm ?_ | refine' Rd.bm0 ?_ | refine' Rd.bt ?_ | refine' Rd.enT ?_ | refine' Rd.enL ?_)
local macro_rules | `(tactic| walk_at "sj") => `(tactic| repeat (first | walk_at "sj1" | ((with_reducible refine' Rd.var ?hv ?_); (case hv => rfl))))
/-! ### what the law calls the same -/
def sp_same : Nat → Sp
  | 0 => fun _ _ _ _ => False
  | n + 1 => fun vs H Q _ => ∃ x y : V, vs = [x, y] ∧ DD H n x y ∧ ∀ H', Same H H' → Q (.bl true) H'
section
variable {P : Program} {w : World} {K : PySem.W.Frag} {mg : Str → Option Value} {base : Heap} {f : Addr} {fd : FuncData}
theorem isTupX {H : Hp} {Q : VK} {a : Addr} {xs : List V} (T : String) (b : Bool) (h : TupX H a xs) (k : PySem.W.kitOne [] (.type "tuple") (.type T) = some b) (k2 : ∀ K : PySem.W.Frag, PySem.W.kitOne K (.type "tuple") (.type T) = PySem.W.kitOne [] (.type "tuple") (.type T)) (q : Q (.bl b) H) : rIsi K [.ref a, .ty T] H Q := by
  rcases h with h | ⟨o, h⟩
  · exact Rd.isi (.base (.tup h)) (Rd.kit_ty (v := b) k k2) q
  · exact Rd.isi (.fTuple h) (Rd.kit_ty (v := b) k k2) q
theorem isLst {H : Hp} {Q : VK} {a : Addr} {xs : List V} (T : String) (b : Bool) (h : H a = some (.lst xs)) (k : PySem.W.kitOne [] (.type "list") (.type T) = some b) (k2 : ∀ K : PySem.W.Frag, PySem.W.kitOne K (.type "list") (.type T) = PySem.W.kitOne [] (.type "list") (.type T)) (q : Q (.bl b) H) : rIsi K [.ref a, .ty T] H Q :=
  Rd.isi (.base (.lst h)) (Rd.kit_ty (v := b) k k2) q
theorem neBB {H : Hp} {Q : VK} {a b : Bool} (h : Q (.bl (!(a == b))) H) : rNe (.bl a) (.bl b) H Q := ⟨rfl, (show Q (.bl (!decide (V.bl a = V.bl b))) H from by rw [dec_bl]; exact h)⟩
abbrev s__law_same : Stmt := (top 26)
theorem sc__law_same : FnScope ["told", "due", "key", "k"] ["told", "due"] (defScope s__law_same) := ⟨rfl, rfl, rfl, by decide +kernel, rfl, by decide +kernel, by decide +kernel⟩
theorem ok_same (n : Nat) (F : FnP K "_law_same" "_law_same" s__law_same f fd) (T : Txt K mg) (D__law_is_integer : DOk P w K mg base CX0 "_law_is_integer" 1 ["told"] sp_isint)
    (D__law_same : DOk P w K mg base CX0 "_law_same" (n + 1) ["told", "due"] (sp_same n)) : FnOk P w K mg base CX0 (n + 2) f fd ["told", "due"] (sp_same (n + 1)) := by
  refine F.ok sc__law_same (fun vs H Q E h => ?_) (fun cdv A outer s H vs Q E hr h => ?_)
  · obtain ⟨_, _, rfl, _⟩ := h; rfl
  obtain ⟨x, y, rfl, dd, k⟩ := h
  refine ⟨_, PSs.nox (pss_cons (ps_if (PW.pt (pw_or (pt_cmpR op_isN (pv 1) pe_non (nomark _)) (pw_or1 (pt_val (pe_callB (Rk.isi K) rfl T.isinstance (by decide +kernel) (pa_cons (pv 1) (pa_cons (pe_bltn rfl T.bool (by decide +kernel) (RelV_ty "bool")) pa_nil)))))))
  (pss_one (ps_ret (pe_or (pe_and (pe_cmpR op_isN (pv 0) pe_non (nomark _)) (pe_one (pe_cmpR op_isN (pv 1) pe_non (nomark _)))) (pe_one (pe_and (pe_callB (Rk.isi K) rfl T.isinstance (by decide +kernel) (pa_cons (pv 0) (pa_cons (pe_bltn rfl T.bool (by decide +kernel) (RelV_ty "bool")) pa_nil))) (pe_and (pe_callB (Rk.isi K) rfl T.isinstance (by decide +kernel) (pa_cons (pv 1) (pa_cons (pe_bltn rfl T.bool (by decide +kernel) (RelV_ty "bool")) pa_nil))) (pe_one (pe_cmpR op_eq (pv 0) (pv 1) (nomark _)))))))))
  pss_nil)
  (pss_cons (ps_if (pt_val (pe_callB (Rk.isi K) rfl T.isinstance (by decide +kernel) (pa_cons (pv 1) (pa_cons (pe_bltn rfl T.int (by decide +kernel) (RelV_ty "int")) pa_nil))))
  (pss_one (ps_ret (pe_and (callX D__law_is_integer (hr.mono (by omega)) (passN) (pa_cons (pv 0) pa_nil)) (pe_one (pe_cmpR op_eq (pv 0) (pv 1) (nomark _))))))
  pss_nil)
  (pss_cons (ps_if (pt_val (pe_callB (Rk.isi K) rfl T.isinstance (by decide +kernel) (pa_cons (pv 1) (pa_cons (pe_bltn rfl T.str (by decide +kernel) (RelV_ty "str")) pa_nil))))
  (pss_one (ps_ret (pe_and (pe_callB (Rk.isi K) rfl T.isinstance (by decide +kernel) (pa_cons (pv 0) (pa_cons (pe_bltn rfl T.str (by decide +kernel) (RelV_ty "str")) pa_nil))) (pe_one (pe_cmpR op_eq (pv 0) (pv 1) (nomark _))))))
  pss_nil)
  (pss_cons (ps_if (pt_val (pe_callB (Rk.isi K) rfl T.isinstance (by decide +kernel) (pa_cons (pv 1) (pa_cons (pe_bltn rfl T.dict (by decide +kernel) (RelV_ty "dict")) pa_nil))))
  (pss_cons (ps_if (PW.pt (pw_or (pt_not (pt_val (pe_callB (Rk.isi K) rfl T.isinstance (by decide +kernel) (pa_cons (pv 0) (pa_cons (pe_bltn rfl T.dict (by decide +kernel) (RelV_ty "dict")) pa_nil))))) (pw_or1 (pt_not (pt_val (callX D__law_same (hr.mono (by omega)) (passN) (pa_cons (pe_callTy (Rk.lis K) rfl T.list (by decide +kernel) (pa_cons (pv 0) pa_nil)) (pa_cons (pe_callTy (Rk.lis K) rfl T.list (by decide +kernel) (pa_cons (pv 1) pa_nil)) pa_nil))))))))
  (pss_one (ps_ret pe_bl))
  pss_nil)
  (pss_one (ps_ret (pe_callB (Rk.all K rfl rfl) rfl T.all (by decide +kernel) (pa_cons (pe_lc (own := [("key", 2)]) rfl sc__law_same.nd (Rk.pl K rfl (pv 1)) (blkOk_by (own := [("key", 2)]) (N := ["told", "due", "key", "k"]) (sc := defScope s__law_same) (by decide +kernel)) (fun _ _ _ _ _ => (pg_name (i := 2) sc__law_same.nd rfl (Or.inl rfl))) (fun _ _ _ _ _ => pts_nil) (fun _ _ _ _ _ => (callX D__law_same (hr.mono (by omega)) (passN) (pa_cons (pe_ix (Rk.ixA K) (pv 0) (pv 2) (fun _ _ => rfl)) (pa_cons (pe_ix (Rk.ixA K) (pv 1) (pv 2) (fun _ _ => rfl)) pa_nil))))) pa_nil)))))
  pss_nil)
  (pss_cons (ps_if (PW.pt (pw_or (pt_cmpR op_ne (pe_callB (Rk.isi K) rfl T.isinstance (by decide +kernel) (pa_cons (pv 1) (pa_cons (pe_bltn rfl T.list (by decide +kernel) (RelV_ty "list")) pa_nil))) (pe_callB (Rk.isi K) rfl T.isinstance (by decide +kernel) (pa_cons (pv 0) (pa_cons (pe_bltn rfl T.list (by decide +kernel) (RelV_ty "list")) pa_nil))) (nomark _)) (pw_or1 (pt_cmpR op_ne (pe_callB (Rk.isi K) rfl T.isinstance (by decide +kernel) (pa_cons (pv 1) (pa_cons (pe_bltn rfl T.tuple (by decide +kernel) (RelV_ty "tuple")) pa_nil))) (pe_callB (Rk.isi K) rfl T.isinstance (by decide +kernel) (pa_cons (pv 0) (pa_cons (pe_bltn rfl T.tuple (by decide +kernel) (RelV_ty "tuple")) pa_nil))) (nomark _)))))
  (pss_one (ps_ret pe_bl))
  pss_nil)
  (pss_cons (ps_if (pt_cmpR op_ne (pe_callB (Rk.len K) rfl T.len PySem.boot_len (pa_cons (pv 0) pa_nil)) (pe_callB (Rk.len K) rfl T.len PySem.boot_len (pa_cons (pv 1) pa_nil)) (nomark _))
  (pss_one (ps_ret pe_bl))
  pss_nil)
  (pss_one (ps_ret (pe_callB (Rk.all K rfl rfl) rfl T.all (by decide +kernel) (pa_cons (pe_lc (own := [("k", 3)]) rfl sc__law_same.nd (pi_range1 rfl T.range (pa_cons (pe_callB (Rk.len K) rfl T.len PySem.boot_len (pa_cons (pv 1) pa_nil)) pa_nil)) (blkOk_by (own := [("k", 3)]) (N := ["told", "due", "key", "k"]) (sc := defScope s__law_same) (by decide +kernel)) (fun _ _ _ _ _ => (pg_name (i := 3) sc__law_same.nd rfl (Or.inl rfl))) (fun _ _ _ _ _ => pts_nil) (fun _ _ _ _ _ => (callX D__law_same (hr.mono (by omega)) (passN) (pa_cons (pe_ix (Rk.ixA K) (pv 0) (pv 3) (fun _ _ => rfl)) (pa_cons (pe_ix (Rk.ixA K) (pv 1) (pv 3) (fun _ _ => rfl)) pa_nil))))) pa_nil)))))))))), ?_⟩
  cases dd with
  | bl _ b =>
    walk_at "st"
    refine ⟨rfl, ?_⟩
    walk_at "st"
    refine (if_neg (by simp)).mpr ?_
    walk_at "st"
    refine Rd.isi (.base (.bl b)) (Rd.kit_ty (v := true) (by decide +kernel)) ?_
    walk_at "st"
    refine (if_pos rfl).mpr ?_
    walk_at "st"
    refine ⟨rfl, ?_⟩
    walk_at "st"
    refine (if_neg (by simp)).mpr ?_
    walk_at "st"
    refine (if_neg (by simp)).mpr ?_
    walk_at "st"
    refine Rd.isi (.base (.bl b)) (Rd.kit_ty (v := true) (by decide +kernel)) ?_
    walk_at "st"
    refine (if_pos rfl).mpr ?_
    walk_at "st"
    refine Rd.isi (.base (.bl b)) (Rd.kit_ty (v := true) (by decide +kernel)) ?_
    walk_at "st"
    refine (if_pos rfl).mpr ?_
    walk_at "st"
    rw [beq_self_eq_true]
    exact k _ (Same.refl _)
  | int _ i =>
    walk_at "st"
    refine ⟨rfl, ?_⟩
    walk_at "st"
    refine (if_neg (by simp)).mpr ?_
    walk_at "st"
    refine Rd.isi (.base (.int i)) (Rd.kit_ty (b := "bool") (v := false) (by decide +kernel)) ?_
    walk_at "st"
    refine (if_neg (by simp)).mpr ?_
    walk_at "st"
    refine Rd.isi (.base (.int i)) (Rd.kit_ty (v := true) (by decide +kernel)) ?_
    walk_at "st"
    refine (if_pos rfl).mpr ?_
    walk_at "st"
    refine ⟨i, rfl, ?_⟩
    walk_at "st"
    refine (if_pos rfl).mpr ?_
    walk_at "st"
    rw [decide_eq_true rfl]
    exact k _ (Same.refl _)
  | @lst m a b xs ys h1 h2 h3 h4 h5 =>
    walk_at "st"
    refine ⟨rfl, ?_⟩
    walk_at "st"
    refine (if_neg (by simp)).mpr ?_
    walk_at "st"
    refine isLst "bool" false h2 (by decide +kernel) (by intro K; rfl) ?_
    walk_at "st"
    refine (if_neg (by simp)).mpr ?_
    walk_at "st"
    refine isLst "int" false h2 (by decide +kernel) (by intro K; rfl) ?_
    walk_at "st"
    refine (if_neg (by simp)).mpr ?_
    walk_at "st"
    refine isLst "str" false h2 (by decide +kernel) (by intro K; rfl) ?_
    walk_at "st"
    refine (if_neg (by simp)).mpr ?_
    walk_at "st"
    refine isLst "dict" false h2 (by decide +kernel) (by intro K; rfl) ?_
    walk_at "st"
    refine (if_neg (by simp)).mpr ?_
    walk_at "st"
    refine isLst "list" true h2 (by decide +kernel) (by intro K; rfl) ?_
    walk_at "st"
    refine isLst "list" true h1 (by decide +kernel) (by intro K; rfl) ?_
    refine neBB ?_
    walk_at "st"
    refine (if_neg (by simp)).mpr ?_
    walk_at "st"
    refine isLst "tuple" false h2 (by decide +kernel) (by intro K; rfl) ?_
    walk_at "st"
    refine isLst "tuple" false h1 (by decide +kernel) (by intro K; rfl) ?_
    refine neBB ?_
    walk_at "st"
    refine (if_neg (by simp)).mpr ?_
    walk_at "st"
    refine Rd.len1 (.inl (SqL.of h1)) ?_
    walk_at "st"
    refine Rd.len1 (.inl (SqL.of h2)) ?_
    walk_at "st"
    refine Rd.ite_n (fun c => absurd (by omega) c) (fun _ => ?_)
    walk_at "st"
    refine Rd.len1 (.inl (SqL.of h2)) ?_
    refine ⟨_, rfl, by omega, by omega, ?_⟩
    refine Rd.lcMap (fun _ => .bl true) (Rd.src_rng 0 _ H) (by rw [Rd.rgL_len]; omega) (by intro _; rfl) (fun j z H1 Q1 hz e1 q1 => ?_) (fun p H1 hp e1 h6 => ?_)
    · have hj : j < ys.length := by
        have := (List.getElem?_eq_some_iff.mp hz).1
        rw [Rd.rgL_len] at this
        omega
      rw [Rd.rgL_get (by omega)] at hz
      cases hz
      walk_at "st"
      refine .inl (Rd.ixL (SqL.of (e1 _ _ h1)) (at_of (j := j) (v := xs[j]'(by omega)) (by omega) (List.getElem?_eq_getElem (by omega))) ?_)
      walk_at "st"
      refine .inl (Rd.ixL (SqL.of (e1 _ _ h2)) (at_of (j := j) (v := ys[j]) (by omega) (List.getElem?_eq_getElem hj)) ?_)
      exact ⟨_, _, rfl, (h5 j _ _ (List.getElem?_eq_getElem (by omega)) (List.getElem?_eq_getElem hj)).same e1, fun H2 e2 => q1 _ e2⟩
    · walk_at "st"
      refine ⟨p, _, rfl, SqL.of (by rw [h6, map_bl _ (fun _ => true)]), ?_⟩
      rw [all_id.mpr fun _ _ => rfl]
      exact k _ e1
  | @tup m a b xs ys h1 h2 h3 h4 h5 =>
    walk_at "st"
    refine ⟨rfl, ?_⟩
    walk_at "st"
    refine (if_neg (by simp)).mpr ?_
    walk_at "st"
    refine isTupX "bool" false h2 (by decide +kernel) (by intro K; rfl) ?_
    walk_at "st"
    refine (if_neg (by simp)).mpr ?_
    walk_at "st"
    refine isTupX "int" false h2 (by decide +kernel) (by intro K; rfl) ?_
    walk_at "st"
    refine (if_neg (by simp)).mpr ?_
    walk_at "st"
    refine isTupX "str" false h2 (by decide +kernel) (by intro K; rfl) ?_
    walk_at "st"
    refine (if_neg (by simp)).mpr ?_
    walk_at "st"
    refine isTupX "dict" false h2 (by decide +kernel) (by intro K; rfl) ?_
    walk_at "st"
    refine (if_neg (by simp)).mpr ?_
    walk_at "st"
    refine isTupX "list" false h2 (by decide +kernel) (by intro K; rfl) ?_
    walk_at "st"
    refine isTupX "list" false h1 (by decide +kernel) (by intro K; rfl) ?_
    refine neBB ?_
    walk_at "st"
    refine (if_neg (by simp)).mpr ?_
    walk_at "st"
    refine isTupX "tuple" true h2 (by decide +kernel) (by intro K; rfl) ?_
    walk_at "st"
    refine isTupX "tuple" true h1 (by decide +kernel) (by intro K; rfl) ?_
    refine neBB ?_
    walk_at "st"
    refine (if_neg (by simp)).mpr ?_
    walk_at "st"
    refine Rd.len1 (.inr h1.sq) ?_
    walk_at "st"
    refine Rd.len1 (.inr h2.sq) ?_
    walk_at "st"
    refine Rd.ite_n (fun c => absurd (by omega) c) (fun _ => ?_)
    walk_at "st"
    refine Rd.len1 (.inr h2.sq) ?_
    refine ⟨_, rfl, by omega, by omega, ?_⟩
    refine Rd.lcMap (fun _ => .bl true) (Rd.src_rng 0 _ H) (by rw [Rd.rgL_len]; omega) (by intro _; rfl) (fun j z H1 Q1 hz e1 q1 => ?_) (fun p H1 hp e1 h6 => ?_)
    · have hj : j < ys.length := by
        have := (List.getElem?_eq_some_iff.mp hz).1
        rw [Rd.rgL_len] at this
        omega
      rw [Rd.rgL_get (by omega)] at hz
      cases hz
      walk_at "st"
      refine .inr (Rd.ixT (h1.same e1).sq (at_of (j := j) (v := xs[j]'(by omega)) (by omega) (List.getElem?_eq_getElem (by omega))) ?_)
      walk_at "st"
      refine .inr (Rd.ixT (h2.same e1).sq (at_of (j := j) (v := ys[j]) (by omega) (List.getElem?_eq_getElem hj)) ?_)
      exact ⟨_, _, rfl, (h5 j _ _ (List.getElem?_eq_getElem (by omega)) (List.getElem?_eq_getElem hj)).same e1, fun H2 e2 => q1 _ e2⟩
    · walk_at "st"
      refine ⟨p, _, rfl, SqL.of (by rw [h6, map_bl _ (fun _ => true)]), ?_⟩
      rw [all_id.mpr fun _ _ => rfl]
      exact k _ e1
end
end K02

set_option Elab.async false
set_option linter.all false
set_option maxRecDepth 100000
set_option maxHeartbeats 4000000
namespace K02
open PySem L2 Rd GT
local macro_rules | `(tactic| walk_at "st1") => `(tactic| with_reducible first
  | refine' Rd.seq ?_ | refine' Rd.nxt ?_ | refine' Rd.asg ?_ | refine' Rd.nm ?_ | refine' Rd.con ?_ | refine' Rd.op ?_ | refine' Rd.i0 ?_ | refine' Rd.un ?_ | refine' Rd.u0 ?_
  | refine' Rd.eqI ?_ | refine' Rd.neI ?_ | refine' Rd.eqB ?_ | refine' Rd.tst ?_ | refine' Rd.tB_ ?_ | refine' Rd.exb ?_ | refine' Rd.ifS ?_ | refine' Rd.ret ?_ | refine' Rd.retN ?_ | refine' Rd.drop ?_
  | refine' Rd.nil ?_ | refine' Rd.cons ?_ | refine' Rd.cb ?_ | refine' Rd.call ?_ | refine' Rd.callN ?_ | refine' Rd.z2 ?_ | refine' Rd.z3 ?_ | refine' Rd.revA ?_ | refine' Rd.revL ?_ | refine' Rd.star ?_ | refine' Rd.lc2 ?_ | refine' Rd.andT ?_ | refine' Rd.orT ?_ | refine' Rd.notT ?_ | refine' Rd.andV ?_ | refine' Rd.orV ?_ | refine' Rd.notV ?_ | refine' Rd.chain ?_
  | refine' Rd.lst ?_ | refine' Rd.tup ?_ | refine' Rd.for_ ?_ | refine' Rd.rng1 ?_ | refine' Rd.rng2 ?_ | refine' Rd.itl ?_ | refine' Rd.itt ?_ | refine' Rd.sub ?_
  | refine' Rd.lrg ?_ | refine' Rd.rg1 ?_ | refine' Rd.rg2 ?_ | refine' Rd.exi ?_ | refine' Rd.exi2 ?_ | refine' Rd.int1 ?_ | refine' Rd.ex1 ?_ | refine' Rd.ex2 ?_
  | refine' Rd.fld ?_ | refine' Rd.sfld ?_ | refine' Rd.meth ?_ | refine' Rd.make ?_ | refine' Rd.lc ?_ | refine' Rd.bm ?_ | refine' Rd.bm0 ?_ | refine' Rd.bt ?_ | refine' Rd.enT ?_ | refine' Rd.enL ?_)
local macro_rules | `(tactic| walk_at "st") => `(tactic| repeat (first | walk_at "st1" | ((with_reducible refine' Rd.var ?hv ?_); (case hv => rfl))))
local macro_rules | `(tactic| walk_at "sj1") => `(tactic| with_reducible first
  | refine' Rd.seqA ?_ | refine' Rd.seqD ?_ | refine' Rd.seqF ?_ | refine' Rd.seqW ?_ | refine' Rd.nxt ?_ | refine' Rd.asg ?_ | refine' Rd.nm ?_ | refine' Rd.con ?_ | refine' Rd.op ?_ | refine' Rd.i0 ?_ | refine' Rd.un ?_ | refine' Rd.u0 ?_
  | refine' Rd.eqI ?_ | refine' Rd.neI ?_ | refine' Rd.eqB ?_ | refine' Rd.tst ?_ | refine' Rd.tB_ ?_ | refine' Rd.exb ?_ | refine' Rd.ifS ?_ | refine' Rd.ret ?_ | refine' Rd.retN ?_ | refine' Rd.drop ?_
  | refine' Rd.nil ?_ | refine' Rd.cons ?_ | refine' Rd.cb ?_ | refine' Rd.call ?_ | refine' Rd.callN ?_ | refine' Rd.z2 ?_ | refine' Rd.z3 ?_ | refine' Rd.revA ?_ | refine' Rd.revL ?_ | refine' Rd.star ?_ | refine' Rd.lc2 ?_ | refine' Rd.andT ?_ | refine' Rd.orT ?_ | refine' Rd.notT ?_ | refine' Rd.andV ?_ | refine' Rd.orV ?_ | refine' Rd.notV ?_ | refine' Rd.chain ?_
  | refine' Rd.lst ?_ | refine' Rd.tup ?_ | refine' Rd.for_ ?_ | refine' Rd.rng1 ?_ | refine' Rd.rng2 ?_ | refine' Rd.itl ?_ | refine' Rd.itt ?_ | refine' Rd.sub ?_
  | refine' Rd.lrg ?_ | refine' Rd.rg1 ?_ | refine' Rd.rg2 ?_ | refine' Rd.exi ?_ | refine' Rd.exi2 ?_ | refine' Rd.int1 ?_ | refine' Rd.ex1 ?_ | refine' Rd.ex2 ?_
  | refine' Rd.fld ?_ | refine' Rd.sfld ?_ | refine' Rd.meth ?_ | refine' Rd.make ?_ | refine' Rd.lc ?_ | refine' Rd.bm ?_ | refine' Rd.bm0 ?_ | refine' Rd.bt ?_ | refine' Rd.enT ?_ | refine' Rd.enL ?_)
local macro_rules | `(tactic| walk_at "sj") => `(tactic| repeat (first | walk_at "sj1" | ((with_reducible refine' Rd.var ?hv ?_); (case hv => rfl))))
/-! ### the law: the lists that it draws -/
def sp_good : Sp := fun vs H Q _ => ∃ (b : Addr), vs = [.ref b] ∧ Bag H b ∧ ∀ (p : Addr) (ms : List Int) (H' : Hp), H p = none → Bag H' b → But b H H' → H' p = some (.lst (ms.map V.int)) → OkM ms → pr ms ≤ 32 → Q (.ref p) H'
def sp_exact : Sp := fun vs H Q _ => ∃ (b : Addr), vs = [.ref b] ∧ Bag H b ∧ ∀ (p : Addr) (ms : List Int) (H' : Hp), H p = none → Bag H' b → But b H H' → H' p = some (.lst (ms.map V.int)) → ms.length ≤ 6 → (∀ m ∈ ms, 2 ≤ m ∧ m ≤ 37) → Q (.ref p) H'
def sp_bad : Sp := fun vs H Q _ => ∃ (b : Addr), vs = [.ref b] ∧ Bag H b ∧ ∀ (v : Int) (H' : Hp), v.natAbs < 2 ^ 140 → Bag H' b → But b H H' → Q (.int v) H'
section
variable {P : Program} {w : World} {K : PySem.W.Frag} {mg : Str → Option Value} {base : Heap} {f : Addr} {fd : FuncData}
abbrev s__law_good : Stmt := (top 27)
theorem sc__law_good : FnScope ["bag", "moduli", "room", "few", "k", "size", "modulus"] ["bag"] (defScope s__law_good) := ⟨rfl, rfl, rfl, by decide +kernel, rfl, by decide +kernel, by decide +kernel⟩
theorem ok_good (F : FnP K "_law_good" "_law_good" s__law_good f fd) (T : Txt K mg) (D__law_take : DOk P w K mg base CX0 "_law_take" 1 ["bag", "size"] sp_take) : FnOk P w K mg base CX0 2 f fd ["bag"] sp_good := by
  refine F.ok sc__law_good (fun vs H Q E h => ?_) (fun cdv A outer s H vs Q E hr h => ?_)
  · obtain ⟨_, rfl, _⟩ := h; rfl
  obtain ⟨b, rfl, hb, kQ⟩ := h
  refine ⟨_, PSs.nox (pss_cons (ps_set (i := 1) sc__law_good.nd rfl (Or.inl rfl) (pe_lst pa_nil))
  (pss_cons (ps_set (i := 2) sc__law_good.nd rfl (Or.inl rfl) pe_int)
  (pss_cons (ps_set (i := 3) sc__law_good.nd rfl (Or.inl rfl) (callX D__law_take (hr.mono (by decide)) (passN) (pa_cons (pv 0) (pa_cons pe_int pa_nil))))
  (pss_cons (ps_for PassesOwn.never rfl (pi_range1 rfl T.range (pa_cons pe_int pa_nil)) (pg_name (i := 4) sc__law_good.nd rfl (Or.inl rfl))
  (pss_one (ps_if (PW.pt (pw_and (pt_cmpR op_ge (pv 2) pe_int (nomark _)) (pw_and1 (pt_cmpR op_gt (callX D__law_take (hr.mono (by decide)) (passN) (pa_cons (pv 0) (pa_cons pe_int pa_nil))) pe_int (nomark _)))))
  (pss_cons (ps_set (i := 5) sc__law_good.nd rfl (Or.inl rfl) (pe_op op_sub (pv 2) pe_int))
  (pss_cons (ps_if (pt_cmpR op_eq (pv 3) pe_int (nomark _))
  (pss_one (ps_set (i := 5) sc__law_good.nd rfl (Or.inl rfl) (pe_callB (call_min2 rfl) rfl T.min (by decide +kernel) (pa_cons (pv 5) (pa_cons pe_int pa_nil)))))
  pss_nil)
  (pss_cons (ps_set (i := 6) sc__law_good.nd rfl (Or.inl rfl) (pe_op op_add pe_int (callX D__law_take (hr.mono (by decide)) (passN) (pa_cons (pv 0) (pa_cons (pv 5) pa_nil)))))
  (pss_cons (ps_expr (Rk.bm K rfl PySem.F.plainAttrs_list PySem.F.slot_list_append PySem.F.type_list_append mt_append (pv 1) (pa_cons (pv 6) pa_nil)))
  (pss_one (ps_set (i := 2) sc__law_good.nd rfl (Or.inl rfl) (pe_op op_fdivW (pv 2) (pv 6))))))))
  pss_nil)))
  (pss_one (ps_ret (pv 1))))))), ?_⟩
  walk_at "st"
  refine ⟨Nat.zero_le _, fun p hp => ?_⟩
  have nbp := hb.ne hp
  have hb1 : Bag (upd H p (.lst [])) b := hb.put nbp
  have e1 : But b H (upd H p (.lst [])) := butAdd (Rd.But.refl _ _) hp
  have h1 : (upd H p (.lst [])) p = some (.lst []) := upd_same
  generalize upd H p (.lst []) = H1 at hb1 e1 h1
  walk_at "st"
  refine ⟨b, 2, rfl, by decide, by decide, hb1, fun few H2 f0 f1 hb2 e2 => ?_⟩
  have e12 := e1.trans e2
  have h2 := e2 p _ nbp.symm h1
  walk_at "st"
  refine ⟨by decide, by decide, ?_⟩
  refine for_range (fun k σ H3 => ∃ (v4 v5 v6 : Option V) (ms : List Int) (room : Nat), σ = [some (.ref b), some (.ref p), some (.int (room : Nat)), some (.int few), v4, v5, v6] ∧ Bag H3 b ∧ But b H H3 ∧ H3 p = some (.lst (ms.map V.int)) ∧ OkM ms ∧ room * pr ms ≤ 32 ∧ pr ms ≤ 32 ∧ ms.length ≤ k)
    ⟨none, none, none, [], 32, rfl, hb2, e12, h2, (fun m h => absurd h List.not_mem_nil), Nat.le_refl _, by decide, Nat.le_refl _⟩ ?_ ?_
  · rintro k σ H3 hk ⟨v4, v5, v6, ms, room, rfl, hb3, e3, h3, o, rp, pl, ml⟩
    have pp := pr_pos o
    have r32 : room ≤ 32 := by
      have := Nat.mul_le_mul_left room pp
      omega
    walk_at "st"
    have skip : ∀ (v5 : Option V) (H4 : Hp), Bag H4 b → But b H3 H4 → ∃ (w4 w5 w6 : Option V) (ms' : List Int) (room' : Nat), [some (V.ref b), some (V.ref p), some (V.int (room : Nat)), some (V.int few), some (V.int (0 + (k : Nat))), v5, v6] = [some (.ref b), some (.ref p), some (.int (room' : Nat)), some (.int few), w4, w5, w6] ∧ Bag H4 b ∧ But b H H4 ∧ H4 p = some (.lst (ms'.map V.int)) ∧ OkM ms' ∧ room' * pr ms' ≤ 32 ∧ pr ms' ≤ 32 ∧ ms'.length ≤ k + 1 :=
      fun v5 H4 hb4 e4 => ⟨some (V.int (0 + (k : Nat))), v5, v6, ms, room, rfl, hb4, e3.trans e4, e4 p _ nbp.symm h3, o, rp, pl, by omega⟩
    refine Rd.ite_d (fun c1 => ?_) (fun c1 => skip v5 _ hb3 (Rd.But.refl _ _))
    walk_at "st"
    refine ⟨b, 4, rfl, by decide, by decide, hb3, fun x H4 x0 x1 hb4 e4 => ?_⟩
    walk_at "st"
    refine Rd.ite_d (fun c2 => ?_) (fun c2 => skip v5 _ hb4 e4)
    have h4 := e4 p _ nbp.symm h3
    have nxt : ∀ (sz : Int) (H5 : Hp) (v : Int), 1 ≤ sz → sz < room → 0 ≤ v → v < sz → Bag H5 b → But b H4 H5 → H5 p = some (.lst (ms.map V.int)) ∧ ∃ m : Nat, 2 + v = (m : Nat) ∧ 2 ≤ m ∧ m ≤ room ∧ OkM (ms ++ [2 + v]) ∧ room / m * pr (ms ++ [2 + v]) ≤ 32 ∧ pr (ms ++ [2 + v]) ≤ 32 := by
      intro sz H5 v s1 s2 v0 v1 hb5 e5
      obtain ⟨m, hm⟩ : ∃ m : Nat, 2 + v = (m : Int) := ⟨(2 + v).toNat, by omega⟩
      refine ⟨e5 p _ nbp.symm h4, m, hm, by omega, by omega, fun y hy => ?_, ?_, ?_⟩
      · rcases List.mem_append.mp hy with h | h
        · exact o y h
        · rw [List.mem_singleton.mp h]; omega
      · rw [pr_append, pr_one, hm, Int.toNat_natCast]
        have h1 := Nat.div_mul_le_self room m
        have h2 := Nat.mul_le_mul_right (pr ms) h1
        rw [Nat.mul_comm (pr ms), ← Nat.mul_assoc]
        omega
      · rw [pr_append, pr_one, hm, Int.toNat_natCast]
        have h2 : m * pr ms ≤ room * pr ms := Nat.mul_le_mul_right _ (by omega)
        rw [Nat.mul_comm (pr ms)]
        omega
    have ln : (ms.map V.int).length < sizeLine := by rw [List.length_map]; exact line_of (by have : k < 5 := hk; omega)
    walk_at "st"
    refine Rd.ite_d (fun c3 => ?_) (fun c3 => ?_)
    · walk_at "st"
      have z1 : 1 ≤ (if 3 < (room : Int) - 1 then 3 else (room : Int) - 1) ∧ (if 3 < (room : Int) - 1 then 3 else (room : Int) - 1) < room := by split <;> omega
      obtain ⟨z1, z2⟩ := z1
      refine ⟨b, _, rfl, z1, by omega, hb4, fun v H5 v0 v1 hb5 e5 => ?_⟩
      obtain ⟨h5, m, hm, m2, m3, o', rp', pl'⟩ := nxt _ H5 v z1 z2 v0 v1 hb5 e5
      walk_at "st"
      refine Rd.tyL h5 ?_
      walk_at "st"
      refine Rd.app h5 ln ?_
      walk_at "st"
      refine Rd.iC (wide_div (b := 64) (by omega) (by omega) (by decide) (by decide)) ?_
      walk_at "st"
      refine ⟨some (V.int (0 + (k : Nat))), some (.int (if 3 < (room : Int) - 1 then 3 else (room : Int) - 1)), some (.int (2 + v)), ms ++ [2 + v], room / m, ?_, hb5.put nbp, butMut ((e3.trans e4).trans e5) hp, by rw [upd_same, List.map_append]; rfl, o', rp', pl', by rw [List.length_append]; show ms.length + 1 ≤ k + 1; omega⟩
      rw [Int.natCast_ediv, ← hm]; rfl
    · walk_at "st"
      refine ⟨b, _, rfl, by omega, by omega, hb4, fun v H5 v0 v1 hb5 e5 => ?_⟩
      obtain ⟨h5, m, hm, m2, m3, o', rp', pl'⟩ := nxt _ H5 v (by omega) (by omega) v0 v1 hb5 e5
      walk_at "st"
      refine Rd.tyL h5 ?_
      walk_at "st"
      refine Rd.app h5 ln ?_
      walk_at "st"
      refine Rd.iC (wide_div (b := 64) (by omega) (by omega) (by decide) (by decide)) ?_
      walk_at "st"
      refine ⟨some (V.int (0 + (k : Nat))), some (.int ((room : Int) - 1)), some (.int (2 + v)), ms ++ [2 + v], room / m, ?_, hb5.put nbp, butMut ((e3.trans e4).trans e5) hp, by rw [upd_same, List.map_append]; rfl, o', rp', pl', by rw [List.length_append]; show ms.length + 1 ≤ k + 1; omega⟩
      rw [Int.natCast_ediv, ← hm]; rfl
  · rintro σ H3 ⟨v4, v5, v6, ms, room, rfl, hb3, e3, h3, o, rp, pl, ml⟩
    walk_at "st"
    exact kQ p ms _ hp hb3 e3 h3 o pl
abbrev s__law_bad : Stmt := (top 29)
theorem sc__law_bad : FnScope ["bag", "kind"] ["bag"] (defScope s__law_bad) := ⟨rfl, rfl, rfl, by decide +kernel, rfl, by decide +kernel, by decide +kernel⟩
theorem ok_bad (F : FnP K "_law_bad" "_law_bad" s__law_bad f fd) (T : Txt K mg) (D__law_take : DOk P w K mg base CX0 "_law_take" 1 ["bag", "size"] sp_take) : FnOk P w K mg base CX0 2 f fd ["bag"] sp_bad := by
  refine F.ok sc__law_bad (fun vs H Q E h => ?_) (fun cdv A outer s H vs Q E hr h => ?_)
  · obtain ⟨_, rfl, _⟩ := h; rfl
  obtain ⟨b, rfl, hb, kQ⟩ := h
  refine ⟨_, PSs.nox (pss_cons (ps_set (i := 1) sc__law_bad.nd rfl (Or.inl rfl) (callX D__law_take (hr.mono (by decide)) (passN) (pa_cons (pv 0) (pa_cons pe_int pa_nil))))
  (pss_cons (ps_if (pt_cmpR op_lt (pv 1) pe_int (nomark _))
  (pss_one (ps_ret (pv 1)))
  pss_nil)
  (pss_cons (ps_if (pt_cmpR op_eq (pv 1) pe_int (nomark _))
  (pss_one (ps_ret (pe_op op_sub (pe_un un_neg pe_int) (callX D__law_take (hr.mono (by decide)) (passN) (pa_cons (pv 0) (pa_cons pe_int pa_nil))))))
  pss_nil)
  (pss_cons (ps_if (pt_cmpR op_eq (pv 1) pe_int (nomark _))
  (pss_one (ps_ret (pe_op op_sub (pe_un un_neg (pe_op op_pow pe_int pe_int)) (callX D__law_take (hr.mono (by decide)) (passN) (pa_cons (pv 0) (pa_cons pe_int pa_nil))))))
  pss_nil)
  (pss_one (ps_ret (pe_op op_add (pe_op op_pow pe_int pe_int) (callX D__law_take (hr.mono (by decide)) (passN) (pa_cons (pv 0) (pa_cons pe_int pa_nil)))))))))), ?_⟩
  walk_at "st"
  refine ⟨b, 5, rfl, by decide, by decide, hb, fun kd H1 k0 k1 hb1 e1 => ?_⟩
  walk_at "st"
  refine Rd.ite_d (fun c1 => ?_) (fun c1 => ?_)
  · walk_at "st"
    exact kQ kd _ (by omega) hb1 e1
  walk_at "st"
  refine Rd.ite_d (fun c2 => ?_) (fun c2 => ?_)
  · walk_at "st"
    refine ⟨b, 40, rfl, by decide, by decide, hb1, fun x H2 x0 x1 hb2 e2 => ?_⟩
    walk_at "st"
    exact kQ _ _ (by omega) hb2 (e1.trans e2)
  walk_at "st"
  refine Rd.ite_d (fun c3 => ?_) (fun c3 => ?_)
  · walk_at "st"
    refine Rd.iC ⟨by decide, by decide, by decide⟩ ?_
    walk_at "st"
    refine ⟨b, 1000, rfl, by decide, by decide, hb1, fun x H2 x0 x1 hb2 e2 => ?_⟩
    walk_at "st"
    exact kQ _ _ (by have : (10 : Int) ^ Int.toNat 39 = 1000000000000000000000000000000000000000 := by decide
                     omega) hb2 (e1.trans e2)
  · walk_at "st"
    refine Rd.iC ⟨by decide, by decide, by decide⟩ ?_
    walk_at "st"
    refine ⟨b, 1000, rfl, by decide, by decide, hb1, fun x H2 x0 x1 hb2 e2 => ?_⟩
    walk_at "st"
    exact kQ _ _ (by have : (10 : Int) ^ Int.toNat 39 = 1000000000000000000000000000000000000000 := by decide
                     omega) hb2 (e1.trans e2)
abbrev s__law_exact : Stmt := (top 28)
theorem sc__law_exact : FnScope ["bag", "rest", "moduli", "k", "parts", "part"] ["bag"] (defScope s__law_exact) := ⟨rfl, rfl, rfl, by decide +kernel, rfl, by decide +kernel, by decide +kernel⟩
theorem ok_exact (F : FnP K "_law_exact" "_law_exact" s__law_exact f fd) (T : Txt K mg) (D__law_take : DOk P w K mg base CX0 "_law_take" 1 ["bag", "size"] sp_take) : FnOk P w K mg base CX0 2 f fd ["bag"] sp_exact := by
  refine F.ok sc__law_exact (fun vs H Q E h => ?_) (fun cdv A outer s H vs Q E hr h => ?_)
  · obtain ⟨_, rfl, _⟩ := h; rfl
  obtain ⟨b, rfl, hb, kQ⟩ := h
  refine ⟨_, PSs.nox (pss_cons (ps_set (i := 1) sc__law_exact.nd rfl (Or.inr rfl) (pe_op op_add pe_int (callX D__law_take (hr.mono (by decide)) (passN) (pa_cons (pv 0) (pa_cons pe_int pa_nil)))))
  (pss_cons (ps_set (i := 2) sc__law_exact.nd rfl (Or.inl rfl) (pe_lst pa_nil))
  (pss_cons (ps_for PassesOwn.never rfl (pi_range1 rfl T.range (pa_cons pe_int pa_nil)) (pg_name (i := 3) sc__law_exact.nd rfl (Or.inl rfl))
  (pss_cons (ps_setLc (i := 4) (own := [("part", 5)]) rfl sc__law_exact.nd rfl rfl (sw_true rfl rfl rfl (by decide +kernel)) (pi_range2 rfl T.range (pa_cons pe_int (pa_cons (pe_op op_add (pv 1) pe_int) pa_nil))) (blkOk_by (own := [("part", 5)]) (N := ["bag", "rest", "moduli", "k", "parts", "part"]) (sc := defScope s__law_exact) (by decide +kernel)) (fun _ _ _ _ _ => (pg_name (i := 5) sc__law_exact.nd rfl (Or.inl rfl))) (fun _ _ _ _ _ => (pts_one (pt_cmpR op_eq (pe_op op_mod (pe_callTy call_int1 rfl T.int (by decide +kernel) (pa_cons (pv 1) pa_nil)) (pv 5)) pe_int (nomark _)))) (fun _ _ _ _ _ => (pv 5)))
  (pss_one (ps_if (pt_cmpR op_gt (pe_callB (Rk.len K) rfl T.len PySem.boot_len (pa_cons (pv 4) pa_nil)) pe_int (nomark _))
  (pss_cons (ps_set (i := 5) sc__law_exact.nd rfl (Or.inl rfl) (pe_ix (Rk.ixL K) (pv 4) (callX D__law_take (hr.mono (by decide)) (passN) (pa_cons (pv 0) (pa_cons (pe_callB (Rk.len K) rfl T.len PySem.boot_len (pa_cons (pv 4) pa_nil)) pa_nil))) (fun _ _ => rfl)))
  (pss_cons (ps_expr (Rk.bm K rfl PySem.F.plainAttrs_list PySem.F.slot_list_append PySem.F.type_list_append mt_append (pv 2) (pa_cons (pv 5) pa_nil)))
  (pss_one (ps_set (i := 1) sc__law_exact.nd rfl (Or.inr rfl) (pe_op op_fdivW (pv 1) (pv 5))))))
  pss_nil))))
  (pss_one (ps_ret (pv 2)))))), ?_⟩
  walk_at "st"
  refine ⟨b, 8, rfl, by decide, by decide, hb, fun x H1 x0 x1 hb1 e1 => ?_⟩
  walk_at "st"
  refine ⟨Nat.zero_le _, fun p hp => ?_⟩
  have hp0 : H p = none := by
    have nb : p ≠ b := fun z => hb1.ne hp z.symm
    exact butFree e1 nb hp
  have nbp := hb1.ne hp
  have hb2 : Bag (upd H1 p (.lst [])) b := hb1.put nbp
  have e2 : But b H (upd H1 p (.lst [])) := butAdd e1 hp
  have h2 : (upd H1 p (.lst [])) p = some (.lst []) := upd_same
  generalize upd H1 p (.lst []) = H2 at hb2 e2 h2
  walk_at "st"
  refine ⟨by decide, by decide, ?_⟩
  refine for_range (fun k σ H3 => ∃ (v3 v4 v5 : Option V) (ms : List Int) (rest : Nat), σ = [some (.ref b), some (.int (rest : Nat)), some (.ref p), v3, v4, v5] ∧ Bag H3 b ∧ But b H H3 ∧ H3 p = some (.lst (ms.map V.int)) ∧ (∀ m ∈ ms, 2 ≤ m ∧ m ≤ 37) ∧ rest ≤ 37 ∧ ms.length ≤ k)
    ⟨none, none, none, [], (30 + x).toNat, by rw [Int.toNat_of_nonneg (by omega)]; rfl, hb2, e2, h2, (fun m h => absurd h List.not_mem_nil), by omega, Nat.le_refl _⟩ ?_ ?_
  · rintro k σ H3 hk ⟨v3, v4, v5, ms, rest, rfl, hb3, e3, h3, o, rl, ml⟩
    have hk6 : k < 6 := hk
    walk_at "st"
    refine ⟨⟨by decide, by decide, by omega, by omega⟩, ?_⟩
    refine Rd.lcIf (fun n => .int (2 + (n : Nat))) (fun n => decide ((rest : Int) % (2 + (n : Nat)) = 0)) (Rd.src_rng 2 ((rest : Int) + 1 - 2).toNat H3) (by rw [Rd.rgL_len]; omega) (by intro _; rfl) (fun n y H4 Q1 hy e4 q1 => ?_) (fun n y H4 Q1 hy _ e4 q1 => ?_) (fun q H4 hq e4 h4 => ?_)
    · have hn : n < ((rest : Int) + 1 - 2).toNat := by
        have := (List.getElem?_eq_some_iff.mp hy).1
        rw [Rd.rgL_len] at this
        exact this
      rw [Rd.rgL_get hn] at hy
      cases hy
      walk_at "st"
      refine Rd.iC (by show (0 : Int) < 2 + (n : Nat); omega) ?_
      walk_at "st"
      exact q1
    · have hn : n < ((rest : Int) + 1 - 2).toNat := by
        have := (List.getElem?_eq_some_iff.mp hy).1
        rw [Rd.rgL_len] at this
        exact this
      rw [Rd.rgL_get hn] at hy
      cases hy
      walk_at "st"
      exact q1 _ (Same.refl _)
    · generalize hL : ((List.range (Rd.rgL 2 ((rest : Int) + 1 - 2).toNat).length).filter fun n => decide ((rest : Int) % (2 + (n : Nat)) = 0)) = L at h4
      have Lin : ∀ n ∈ L, n < ((rest : Int) + 1 - 2).toNat := fun n hn => by
        rw [← hL, List.mem_filter, List.mem_range, Rd.rgL_len] at hn
        exact hn.1
      have Ll : L.length ≤ 40 := by
        have := List.length_filter_le (fun n => decide ((rest : Int) % (2 + (n : Nat)) = 0)) (List.range (Rd.rgL 2 ((rest : Int) + 1 - 2).toNat).length)
        rw [hL, List.length_range, Rd.rgL_len] at this
        omega
      have hb4 := hb3.same e4
      have e34 := butSame e3 e4
      have h34 := e4 _ _ h3
      walk_at "st"
      refine Rd.len1 (.inl (SqL.of h4)) ?_
      walk_at "st"
      rw [List.length_map]
      refine Rd.ite_d (fun c1 => ?_) (fun c1 => ?_)
      · walk_at "st"
        refine Rd.len1 (.inl (SqL.of h4)) ?_
        walk_at "st"
        rw [List.length_map]
        refine ⟨b, _, rfl, by omega, by omega, hb4, fun v H5 v0 v1 hb5 e5 => ?_⟩
        have hv : v.toNat < L.length := by omega
        have nbq : q ≠ b := fun z => hb3.ne hq z.symm
        have h5 := e5 q _ nbq h4
        have lv := Lin _ (List.getElem_mem hv)
        walk_at "st"
        refine Rd.ixL (SqL.of h5) (at_of (j := v.toNat) (v := .int (2 + ((L[v.toNat] : Nat) : Int))) (by omega) (by rw [List.getElem?_map, List.getElem?_eq_getElem hv]; rfl)) ?_
        walk_at "st"
        have h35 := e5 p _ nbp.symm h34
        refine Rd.tyL h35 ?_
        walk_at "st"
        refine Rd.app h35 (by rw [List.length_map]; exact line_of (by omega)) ?_
        walk_at "st"
        refine Rd.iC (wide_div (b := 64) (by omega) (by omega) (by decide) (by decide)) ?_
        walk_at "st"
        refine ⟨some (V.int (0 + (k : Nat))), some (.ref q), some (.int (2 + ((L[v.toNat] : Nat) : Int))), ms ++ [2 + ((L[v.toNat] : Nat) : Int)], rest / (2 + L[v.toNat]), ?_, hb5.put nbp, butMut (e34.trans e5) hp0, by rw [upd_same, List.map_append]; rfl, fun m hm => ?_, ?_, by rw [List.length_append]; show ms.length + 1 ≤ k + 1; omega⟩
        · rw [Int.natCast_ediv, Int.natCast_add]; rfl
        · rcases List.mem_append.mp hm with h | h
          · exact o m h
          · rw [List.mem_singleton.mp h]; omega
        · exact Nat.le_trans (Nat.div_le_self _ _) rl
      · walk_at "st"
        exact ⟨_, _, v5, ms, rest, rfl, hb4, e34, h34, o, rl, by omega⟩
  · rintro σ H3 ⟨v3, v4, v5, ms, rest, rfl, hb3, e3, h3, o, rl, ml⟩
    walk_at "st"
    exact kQ p ms _ hp0 hb3 e3 h3 ml o
end
end K02

set_option Elab.async false
set_option linter.all false
set_option maxRecDepth 100000
set_option maxHeartbeats 4000000
namespace K02
open PySem L2 Rd GT
local macro_rules | `(tactic| walk_at "st1") => `(tactic| with_reducible first
  | refine' Rd.seq ?_ | refine' Rd.nxt ?_ | refine' Rd.asg ?_ | refine' Rd.nm ?_ | refine' Rd.con ?_ | refine' Rd.op ?_ | refine' Rd.i0 ?_ | refine' Rd.un ?_ | refine' Rd.u0 ?_
  | refine' Rd.eqI ?_ | refine' Rd.neI ?_ | refine' Rd.eqB ?_ | refine' Rd.tst ?_ | refine' Rd.tB_ ?_ | refine' Rd.exb ?_ | refine' Rd.ifS ?_ | refine' Rd.ret ?_ | refine' Rd.retN ?_ | refine' Rd.drop ?_
  | refine' Rd.nil ?_ | refine' Rd.cons ?_ | refine' Rd.cb ?_ | refine' Rd.call ?_ | refine' Rd.callN ?_ | refine' Rd.z2 ?_ | refine' Rd.z3 ?_ | refine' Rd.revA ?_ | refine' Rd.revL ?_ | refine' Rd.star ?_ | refine' Rd.lc2 ?_ | refine' Rd.andT ?_ | refine' Rd.orT ?_ | refine' Rd.notT ?_ | refine' Rd.andV ?_ | refine' Rd.orV ?_ | refine' Rd.notV ?_ | refine' Rd.chain ?_
  | refine' Rd.lst ?_ | refine' Rd.tup ?_ | refine' Rd.for_ ?_ | refine' Rd.rng1 ?_ | refine' Rd.rng2 ?_ | refine' Rd.itl ?_ | refine' Rd.itt ?_ | refine' Rd.sub ?_
  | refine' Rd.lrg ?_ | refine' Rd.rg1 ?_ | refine' Rd.rg2 ?_ | refine' Rd.exi ?_ | refine' Rd.exi2 ?_ | refine' Rd.int1 ?_ | refine' Rd.ex1 ?_ | refine' Rd.ex2 ?_
  | refine' Rd.fld ?_ | refine' Rd.sfld ?_ | refine' Rd.meth ?_ | refine' Rd.make ?_ | refine' Rd.lc ?_ | refine' Rd.bm ?_ | refine' Rd.bm0 ?_ | refine' Rd.bt ?_ | refine' Rd.enT ?_ | refine' Rd.enL ?_)
local macro_rules | `(tactic| walk_at "st") => `(tactic| repeat (first | walk_at "st1" | ((with_reducible refine' Rd.var ?hv ?_); (case hv => rfl))))
local macro_rules | `(tactic| walk_at "sj1") => `(tactic| with_reducible first
  | refine' Rd.seqA ?_ | refine' Rd.seqD ?_ | refine' Rd.seqF ?_ | refine' Rd.seqW ?_ | refine' Rd.nxt ?_ | refine' Rd.asg ?_ | refine' Rd.nm ?_ | refine' Rd.con ?_ | refine' Rd.op ?_ | refine' Rd.i0 ?_ | refine' Rd.un ?_ | refine' Rd.u0 ?_
  | refine' Rd.eqI ?_ | refine' Rd.neI ?_ | refine' Rd.eqB ?_ | refine' Rd.tst ?_ | refine' Rd.tB_ ?_ | refine' Rd.exb ?_ | refine' Rd.ifS ?_ | refine' Rd.ret ?_ | refine' Rd.retN ?_ | refine' Rd.drop ?_
  | refine' Rd.nil ?_ | refine' Rd.cons ?_ | refine' Rd.cb ?_ | refine' Rd.call ?_ | refine' Rd.callN ?_ | refine' Rd.z2 ?_ | refine' Rd.z3 ?_ | refine' Rd.revA ?_ | refine' Rd.revL ?_ | refine' Rd.star ?_ | refine' Rd.lc2 ?_ | refine' Rd.andT ?_ | refine' Rd.orT ?_ | refine' Rd.notT ?_ | refine' Rd.andV ?_ | refine' Rd.orV ?_ | refine' Rd.notV ?_ | refine' Rd.chain ?_
  | refine' Rd.lst ?_ | refine' Rd.tup ?_ | refine' Rd.for_ ?_ | refine' Rd.rng1 ?_ | refine' Rd.rng2 ?_ | refine' Rd.itl ?_ | refine' Rd.itt ?_ | refine' Rd.sub ?_
  | refine' Rd.lrg ?_ | refine' Rd.rg1 ?_ | refine' Rd.rg2 ?_ | refine' Rd.exi ?_ | refine' Rd.exi2 ?_ | refine' Rd.int1 ?_ | refine' Rd.ex1 ?_ | refine' Rd.ex2 ?_
  | refine' Rd.fld ?_ | refine' Rd.sfld ?_ | refine' Rd.meth ?_ | refine' Rd.make ?_ | refine' Rd.lc ?_ | refine' Rd.bm ?_ | refine' Rd.bm0 ?_ | refine' Rd.bt ?_ | refine' Rd.enT ?_ | refine' Rd.enL ?_)
local macro_rules | `(tactic| walk_at "sj") => `(tactic| repeat (first | walk_at "sj1" | ((with_reducible refine' Rd.var ?hv ?_); (case hv => rfl))))
/-! ### the law: which lists are refused -/
structure Txt5 (K : PySem.W.Frag) (mg : Str → Option Value) : Prop where
  xS : ExcC K (He.ga K "StepError")
  xT : ExcC K (He.ga K "InvalidTarget")
  xL : ExcC K (He.ga K "LimitExceeded")
  xV : ExcC K (He.ga K "InvalidValue")
  xI : ExcC K (He.ga K "InvalidIndex")
  ts : PySem.W.subIn K (.ref (He.ga K "InvalidTarget")) (.ref (He.ga K "StepError")) = some true
  ls : PySem.W.subIn K (.ref (He.ga K "LimitExceeded")) (.ref (He.ga K "StepError")) = some true
  vs : PySem.W.subIn K (.ref (He.ga K "InvalidValue")) (.ref (He.ga K "StepError")) = some true
  is_ : PySem.W.subIn K (.ref (He.ga K "InvalidIndex")) (.ref (He.ga K "StepError")) = some true
  tt : PySem.W.kitOne K (.ref (He.ga K "InvalidTarget")) (.ref (He.ga K "InvalidTarget")) = some true
  tv : PySem.W.kitOne K (.ref (He.ga K "InvalidTarget")) (.type "ValueError") = some true
  tl : PySem.W.kitOne K (.ref (He.ga K "InvalidTarget")) (.ref (He.ga K "LimitExceeded")) = some false
  lt : PySem.W.kitOne K (.ref (He.ga K "LimitExceeded")) (.ref (He.ga K "InvalidTarget")) = some false
  ll : PySem.W.kitOne K (.ref (He.ga K "LimitExceeded")) (.ref (He.ga K "LimitExceeded")) = some true
  lv : PySem.W.kitOne K (.ref (He.ga K "LimitExceeded")) (.type "ValueError") = some true
  vv : PySem.W.kitOne K (.ref (He.ga K "InvalidValue")) (.ref (He.ga K "InvalidValue")) = some true
  vx : PySem.W.kitOne K (.ref (He.ga K "InvalidValue")) (.type "ValueError") = some true
  vi : PySem.W.kitOne K (.ref (He.ga K "InvalidValue")) (.ref (He.ga K "InvalidIndex")) = some false
  ii : PySem.W.kitOne K (.ref (He.ga K "InvalidIndex")) (.ref (He.ga K "InvalidIndex")) = some true
  ix : PySem.W.kitOne K (.ref (He.ga K "InvalidIndex")) (.type "ValueError") = some true
  iv : PySem.W.kitOne K (.ref (He.ga K "InvalidIndex")) (.ref (He.ga K "InvalidValue")) = some false
def sp_due : Sp := fun vs H Q _ => ∃ (a : Addr) (ms : List Int), vs = [.ref a] ∧ H a = some (.lst (ms.map V.int)) ∧ ms.length ≤ 64 ∧ BigOk ms ∧ (¬ OkM ms → Q (.int 1) H) ∧ (OkM ms → 32 < pr ms → Q (.int 2) H) ∧ (OkM ms → pr ms ≤ 32 → Q (.int 0) H)
def sp_told : Sp := fun vs H Q _ => ∃ (a : Addr) (ms : List Int), vs = [.ref a] ∧ H a = some (.lst (ms.map V.int)) ∧ ms.length ≤ 64 ∧ BigOk ms ∧ (¬ OkM ms → ∀ H', Same H H' → Q (.int 1) H') ∧ (OkM ms → 32 < pr ms → ∀ H', Same H H' → Q (.int 2) H') ∧ (OkM ms → pr ms ≤ 32 → ∀ H', Same H H' → Q (.int 0) H')
def sp_decided : Sp := fun vs H Q _ => ∃ (a : Addr) (ms : List Int), vs = [.ref a] ∧ H a = some (.lst (ms.map V.int)) ∧ ms.length ≤ 64 ∧ BigOk ms ∧ ∀ H', Same H H' → Q (.bl true) H'
section
variable {P : Program} {w : World} {K : PySem.W.Frag} {mg : Str → Option Value} {base : Heap} {f : Addr} {fd : FuncData}
abbrev s__law_due : Stmt := (top 31)
theorem sc__law_due : FnScope ["moduli", "order", "modulus"] ["moduli"] (defScope s__law_due) := ⟨rfl, rfl, rfl, by decide +kernel, rfl, by decide +kernel, by decide +kernel⟩
theorem ok_due (F : FnP K "_law_due" "_law_due" s__law_due f fd) (T : Txt K mg) : FnOk P w K mg base CX0 1 f fd ["moduli"] sp_due := by
  refine F.ok sc__law_due (fun vs H Q E h => ?_) (fun cdv A outer s H vs Q E hr h => ?_)
  · obtain ⟨_, _, rfl, _⟩ := h; rfl
  obtain ⟨a, ms, rfl, ha, z64, big, k1, k2, k0⟩ := h
  refine ⟨_, PSs.nox (pss_cons (ps_set (i := 1) sc__law_due.nd rfl (Or.inl rfl) pe_int)
  (pss_cons (ps_for PassesOwn.never rfl (Rk.pl K rfl (pv 0)) (pg_name (i := 2) sc__law_due.nd rfl (Or.inl rfl))
  (pss_cons (ps_if (pt_cmpR op_lt (pv 2) pe_int (nomark _))
  (pss_one (ps_ret pe_int))
  pss_nil)
  (pss_one (ps_set (i := 1) sc__law_due.nd rfl (Or.inl rfl) (pe_op op_mulW (pv 1) (pv 2))))))
  (pss_cons (ps_if (pt_cmpR op_gt (pv 1) pe_int (nomark _))
  (pss_one (ps_ret pe_int))
  pss_nil)
  (pss_one (ps_ret pe_int))))), ?_⟩
  have bigN : ∀ m ∈ ms, m.toNat ≤ 2 ^ 140 := fun m hm => Nat.le_trans (by omega) (big m hm)
  walk_at "st"
  refine Rd.itl' (SqL.of ha) ?_
  refine for_list (K := K) (a := a) (xs := ms.map V.int) (fun i σ H' => ∃ (v : Option V), σ = [some (.ref a), some (.int (pr (ms.take i) : Nat)), v] ∧ H' = H ∧ ∀ m ∈ ms.take i, 2 ≤ m)
    ⟨none, rfl, rfl, fun m hm => by rw [List.take_zero] at hm; cases hm⟩ (fun i σ H' _ ⟨_, _, e, _⟩ => e ▸ SqL.of ha) ?_ ?_
  · rintro i x σ H' hx ⟨v, rfl, rfl, ok⟩
    obtain ⟨m, hm, rfl⟩ := intAt hx
    have hi := (List.getElem?_eq_some_iff.mp hm).1
    have mm := List.mem_of_getElem? hm
    walk_at "st"
    refine Rd.ite_d (fun c => ?_) (fun c => ?_)
    · walk_at "st"
      exact k1 (fun o => by have := o m mm; omega)
    have pb := pr_bound bigN i (by omega)
    have m0 : 0 ≤ m := by omega
    have p9 : pr (ms.take i) < 2 ^ 9000 := Nat.lt_of_le_of_lt pb (Nat.pow_lt_pow_right (by decide) (by omega))
    walk_at "st"
    refine Rd.iC (wide_mul (a := 9000) (b := 200) (by rw [Int.natAbs_natCast]; exact p9) (Nat.lt_of_le_of_lt (big m mm) (Nat.pow_lt_pow_right (by decide) (by decide))) (by decide) (by decide) (by decide)) ?_
    walk_at "st"
    refine ⟨some (.int m), ?_, rfl, fun y hy => ?_⟩
    · rw [pr_take hm, Int.natCast_mul, Int.toNat_of_nonneg m0]; rfl
    · rw [List.take_add_one, hm] at hy
      rcases List.mem_append.mp hy with h | h
      · exact ok y h
      · rw [List.mem_singleton.mp h]; omega
  · rintro σ H' ⟨v, rfl, rfl, ok⟩
    rw [List.length_map, List.take_length] at ok
    rw [List.length_map, List.take_length]
    have okm : OkM ms := ok
    walk_at "st"
    refine Rd.ite_d (fun c => ?_) (fun c => ?_)
    · walk_at "st"
      exact k2 okm (by omega)
    · walk_at "st"
      exact k0 okm (by omega)
abbrev s__law_told : Stmt := (top 32)
theorem sc__law_told : FnScope ["moduli", "e"] ["moduli"] (defScope s__law_told) := ⟨rfl, rfl, rfl, by decide +kernel, rfl, by decide +kernel, by decide +kernel⟩
theorem ok_told (F : FnP K "_law_told" "_law_told" s__law_told f fd) (T : Txt K mg) (T5 : Txt5 K mg) (D_Target : KOk P w K mg base (L2.CX P w) "Target" (tC K) 1 ["self", "moduli"] (sp_tinit K)) : FnOk P w K mg base CX0 3 f fd ["moduli"] sp_told := by
  refine F.ok sc__law_told (fun vs H Q E h => ?_) (fun cdv A outer s H vs Q E hr h => ?_)
  · obtain ⟨_, _, rfl, _⟩ := h; rfl
  obtain ⟨a, ms, rfl, ha, z64, big, k1, k2, k0⟩ := h
  refine ⟨_, PSs.nox (pss_cons (ps_try_as (i := 1) rfl rfl sc__law_told.nd rfl rfl ⟨rfl, by decide +kernel, .inl T.ex_StepError.gP⟩ takes_none5 (fun W pn xe tk pw => (pss_one (ps_expr (makeX D_Target (hr.mono (by decide)) (passT tk rfl) (pa_cons (pv 0) pa_nil)))))
  (fun a oe cls d pn hz hf => psIf (P := cls = .ref (Rd.rA cls) ∧ ExcC K (Rd.rA cls) ∧ d = none) fun hp => (pss_cons (ps_if (PW.pt (pw_and (pt_val (pe_callB (call_isE hp.2.1 (zc_of hz hp.1 hp.2.2) hf) rfl T.isinstance (by decide +kernel) (pa_cons (pv 1) (pa_cons (pe_glob (v := .ref (He.ga K "InvalidTarget")) rfl T.ex_InvalidTarget.gP rfl) pa_nil)))) (pw_and (pt_val (pe_callB (call_isE hp.2.1 (zc_of hz hp.1 hp.2.2) hf) rfl T.isinstance (by decide +kernel) (pa_cons (pv 1) (pa_cons (pe_bltn rfl T.ValueError (by decide +kernel) (RelV_ty "ValueError")) pa_nil)))) (pw_and1 (pt_not (pt_val (pe_callB (call_isE hp.2.1 (zc_of hz hp.1 hp.2.2) hf) rfl T.isinstance (by decide +kernel) (pa_cons (pv 1) (pa_cons (pe_glob (v := .ref (He.ga K "LimitExceeded")) rfl T.ex_LimitExceeded.gP rfl) pa_nil)))))))))
  (pss_one (ps_ret pe_int))
  pss_nil)
  (pss_cons (ps_if (PW.pt (pw_and (pt_val (pe_callB (call_isE hp.2.1 (zc_of hz hp.1 hp.2.2) hf) rfl T.isinstance (by decide +kernel) (pa_cons (pv 1) (pa_cons (pe_glob (v := .ref (He.ga K "LimitExceeded")) rfl T.ex_LimitExceeded.gP rfl) pa_nil)))) (pw_and (pt_val (pe_callB (call_isE hp.2.1 (zc_of hz hp.1 hp.2.2) hf) rfl T.isinstance (by decide +kernel) (pa_cons (pv 1) (pa_cons (pe_bltn rfl T.ValueError (by decide +kernel) (RelV_ty "ValueError")) pa_nil)))) (pw_and1 (pt_not (pt_val (pe_callB (call_isE hp.2.1 (zc_of hz hp.1 hp.2.2) hf) rfl T.isinstance (by decide +kernel) (pa_cons (pv 1) (pa_cons (pe_glob (v := .ref (He.ga K "InvalidTarget")) rfl T.ex_InvalidTarget.gP rfl) pa_nil)))))))))
  (pss_one (ps_ret pe_int))
  pss_nil)
  (pss_one (ps_ret pe_int))))))
  (pss_one (ps_ret pe_int))), ?_⟩
  walk_at "st"
  intro g dx hg hdx ndx
  have e1 : Same H (upd (upd H dx (.own g)) g (.ins (tC K) dx [])) := (Rd.same_mk hdx).trans (Rd.same_mk (by rw [upd_ne ndx.symm]; exact hg))
  have hgi : (upd (upd H dx (.own g)) g (.ins (tC K) dx [])) g = some (.ins (tC K) dx []) := upd_same
  generalize upd (upd H dx (.own g)) g (.ins (tC K) dx []) = H1 at e1 hgi
  refine ⟨g, dx, a, ms, rfl, hgi, e1 _ _ ha, z64, big, fun no H2 e2 => ?_, fun o p H2 e2 => ?_, fun o p H2 e2 GA => ⟨rfl, ?_⟩⟩
  · intro σ' hσ
    refine ⟨true, Rd.excOk T5.xS T.ex_StepError.tP T5.ts, fun _ a ha => ⟨⟨rfl, T5.xT, rfl⟩, ?_⟩, fun z => absurd z (by decide)⟩
    have hs : (σ'.set 1 (some (V.ref a)))[1]? = some (some (V.ref a)) := List.getElem?_set_self (by rw [hσ]; exact (by decide : 1 < 2))
    walk_at "st"
    refine Rd.var hs ?_
    walk_at "st"
    refine ⟨_, _, true, rfl, fun _ z => z, T5.tt, ?_⟩
    walk_at "st"
    refine (if_pos rfl).mpr ?_
    walk_at "st"
    refine Rd.var hs ?_
    walk_at "st"
    refine ⟨_, _, true, rfl, fun _ z => z, T5.tv, ?_⟩
    walk_at "st"
    refine (if_pos rfl).mpr ?_
    walk_at "st"
    refine Rd.var hs ?_
    walk_at "st"
    refine ⟨_, _, false, rfl, fun _ z => z, T5.tl, ?_⟩
    walk_at "st"
    refine (if_pos rfl).mpr ?_
    walk_at "st"
    exact k1 no _ (e1.trans e2)
  · intro σ' hσ
    refine ⟨true, Rd.excOk T5.xS T.ex_StepError.tP T5.ls, fun _ a ha => ⟨⟨rfl, T5.xL, rfl⟩, ?_⟩, fun z => absurd z (by decide)⟩
    have hs : (σ'.set 1 (some (V.ref a)))[1]? = some (some (V.ref a)) := List.getElem?_set_self (by rw [hσ]; exact (by decide : 1 < 2))
    walk_at "st"
    refine Rd.var hs ?_
    walk_at "st"
    refine ⟨_, _, false, rfl, fun _ z => z, T5.lt, ?_⟩
    walk_at "st"
    refine (if_neg Bool.false_ne_true).mpr ?_
    walk_at "st"
    refine Rd.var hs ?_
    walk_at "st"
    refine ⟨_, _, true, rfl, fun _ z => z, T5.ll, ?_⟩
    walk_at "st"
    refine (if_pos rfl).mpr ?_
    walk_at "st"
    refine Rd.var hs ?_
    walk_at "st"
    refine ⟨_, _, true, rfl, fun _ z => z, T5.lv, ?_⟩
    walk_at "st"
    refine (if_pos rfl).mpr ?_
    walk_at "st"
    refine Rd.var hs ?_
    walk_at "st"
    refine ⟨_, _, false, rfl, fun _ z => z, T5.lt, ?_⟩
    walk_at "st"
    refine (if_pos rfl).mpr ?_
    walk_at "st"
    exact k2 o p _ (e1.trans e2)
  · walk_at "st"
    exact k0 o p _ (fun c u h => e2 c u (fun z => by rw [z, hg] at h; cases h) (e1 c u h))
abbrev s__law_decided : Stmt := (top 33)
theorem sc__law_decided : FnScope ["moduli", "passed"] ["moduli"] (defScope s__law_decided) := ⟨rfl, rfl, rfl, by decide +kernel, rfl, by decide +kernel, by decide +kernel⟩
theorem ok_decided (F : FnP K "_law_decided" "_law_decided" s__law_decided f fd) (T : Txt K mg) (D__law_told : DOk P w K mg base CX0 "_law_told" 3 ["moduli"] sp_told) (D__law_due : DOk P w K mg base CX0 "_law_due" 1 ["moduli"] sp_due) (D__law_same : DOk P w K mg base CX0 "_law_same" 4 ["told", "due"] (sp_same 3)) : FnOk P w K mg base CX0 5 f fd ["moduli"] sp_decided := by
  refine F.ok sc__law_decided (fun vs H Q E h => ?_) (fun cdv A outer s H vs Q E hr h => ?_)
  · obtain ⟨_, _, rfl, _⟩ := h; rfl
  obtain ⟨a, ms, rfl, ha, z64, big, k⟩ := h
  refine ⟨_, PSs.nox (pss_cons (ps_set (i := 1) sc__law_decided.nd rfl (Or.inl rfl) (pe_callTy (Rk.lis K) rfl T.list (by decide +kernel) (pa_cons (pv 0) pa_nil)))
  (pss_one (ps_ret (pe_and (pe_cmpR op_eq (callX D__law_told (hr.mono (by decide)) (passN) (pa_cons (pv 1) pa_nil)) (callX D__law_due (hr.mono (by decide)) (passN) (pa_cons (pv 0) pa_nil)) (nomark _)) (pe_one (callX D__law_same (hr.mono (by decide)) (passN) (pa_cons (pv 1) (pa_cons (pv 0) pa_nil)))))))), ?_⟩
  walk_at "st"
  refine ⟨a, _, rfl, .inl (SqL.of ha), fun p hp => ?_⟩
  have e1 : Same H (upd H p (.lst (ms.map V.int))) := Rd.same_mk hp
  have h1 : (upd H p (.lst (ms.map V.int))) p = some (.lst (ms.map V.int)) := upd_same
  generalize upd H p (.lst (ms.map V.int)) = H1 at e1 h1
  walk_at "st"
  have fin : ∀ H2, Same H1 H2 → sp_same 3 [.ref p, .ref a] H2 Q E0 := fun H2 e2 => ⟨_, _, rfl, (DD.ints (e2 _ _ h1) ((e1.trans e2) _ _ ha) (by omega)).up, fun H3 e3 => k _ ((e1.trans e2).trans e3)⟩
  refine ⟨p, ms, rfl, h1, z64, big, fun no H2 e2 => ?_, fun o l H2 e2 => ?_, fun o l H2 e2 => ?_⟩
  · walk_at "st"
    refine ⟨a, ms, rfl, (e1.trans e2) _ _ ha, z64, big, fun _ => ?_, fun o => absurd o no, fun o => absurd o no⟩
    walk_at "st"
    refine (if_pos rfl).mpr ?_
    walk_at "st"
    exact fin _ e2
  · walk_at "st"
    refine ⟨a, ms, rfl, (e1.trans e2) _ _ ha, z64, big, fun no => absurd o no, fun _ _ => ?_, fun _ q => by omega⟩
    walk_at "st"
    refine (if_pos rfl).mpr ?_
    walk_at "st"
    exact fin _ e2
  · walk_at "st"
    refine ⟨a, ms, rfl, (e1.trans e2) _ _ ha, z64, big, fun no => absurd o no, fun _ q => by omega, fun _ _ => ?_⟩
    walk_at "st"
    refine (if_pos rfl).mpr ?_
    walk_at "st"
    exact fin _ e2
end
end K02

set_option Elab.async false
set_option linter.all false
set_option maxRecDepth 100000
set_option maxHeartbeats 4000000
namespace K02
open PySem L2 Rd GT
local macro_rules | `(tactic| walk_at "st1") => `(tactic| with_reducible first
  | refine' Rd.seq ?_ | refine' Rd.nxt ?_ | refine' Rd.asg ?_ | refine' Rd.nm ?_ | refine' Rd.con ?_ | refine' Rd.op ?_ | refine' Rd.i0 ?_ | refine' Rd.un ?_ | refine' Rd.u0 ?_
  | refine' Rd.eqI ?_ | refine' Rd.neI ?_ | refine' Rd.eqB ?_ | refine' Rd.tst ?_ | refine' Rd.tB_ ?_ | refine' Rd.exb ?_ | refine' Rd.ifS ?_ | refine' Rd.ret ?_ | refine' Rd.retN ?_ | refine' Rd.drop ?_
  | refine' Rd.nil ?_ | refine' Rd.cons ?_ | refine' Rd.cb ?_ | refine' Rd.call ?_ | refine' Rd.callN ?_ | refine' Rd.z2 ?_ | refine' Rd.z3 ?_ | refine' Rd.revA ?_ | refine' Rd.revL ?_ | refine' Rd.star ?_ | refine' Rd.lc2 ?_ | refine' Rd.andT ?_ | refine' Rd.orT ?_ | refine' Rd.notT ?_ | refine' Rd.andV ?_ | refine' Rd.orV ?_ | refine' Rd.notV ?_ | refine' Rd.chain ?_
  | refine' Rd.lst ?_ | refine' Rd.tup ?_ | refine' Rd.for_ ?_ | refine' Rd.rng1 ?_ | refine' Rd.rng2 ?_ | refine' Rd.itl ?_ | refine' Rd.itt ?_ | refine' Rd.sub ?_
  | refine' Rd.lrg ?_ | refine' Rd.rg1 ?_ | refine' Rd.rg2 ?_ | refine' Rd.exi ?_ | refine' Rd.exi2 ?_ | refine' Rd.int1 ?_ | refine' Rd.ex1 ?_ | refine' Rd.ex2 ?_
  | refine' Rd.fld ?_ | refine' Rd.sfld ?_ | refine' Rd.meth ?_ | refine' Rd.make ?_ | refine' Rd.lc ?_ | refine' Rd.bm ?_ | refine' Rd.bm0 ?_ | refine' Rd.bt ?_ | refine' Rd.enT ?_ | refine' Rd.enL ?_)
local macro_rules | `(tactic| walk_at "st") => `(tactic| repeat (first | walk_at "st1" | ((with_reducible refine' Rd.var ?hv ?_); (case hv => rfl))))
local macro_rules | `(tactic| walk_at "sj1") => `(tactic| with_reducible first
  | refine' Rd.seqA ?_ | refine' Rd.seqD ?_ | refine' Rd.seqF ?_ | refine' Rd.seqW ?_ | refine' Rd.nxt ?_ | refine' Rd.asg ?_ | refine' Rd.nm ?_ | refine' Rd.con ?_ | refine' Rd.op ?_ | refine' Rd.i0 ?_ | refine' Rd.un ?_ | refine' Rd.u0 ?_
  | refine' Rd.eqI ?_ | refine' Rd.neI ?_ | refine' Rd.eqB ?_ | refine' Rd.tst ?_ | refine' Rd.tB_ ?_ | refine' Rd.exb ?_ | refine' Rd.ifS ?_ | refine' Rd.ret ?_ | refine' Rd.retN ?_ | refine' Rd.drop ?_
  | refine' Rd.nil ?_ | refine' Rd.cons ?_ | refine' Rd.cb ?_ | refine' Rd.call ?_ | refine' Rd.callN ?_ | refine' Rd.z2 ?_ | refine' Rd.z3 ?_ | refine' Rd.revA ?_ | refine' Rd.revL ?_ | refine' Rd.star ?_ | refine' Rd.lc2 ?_ | refine' Rd.andT ?_ | refine' Rd.orT ?_ | refine' Rd.notT ?_ | refine' Rd.andV ?_ | refine' Rd.orV ?_ | refine' Rd.notV ?_ | refine' Rd.chain ?_
  | refine' Rd.lst ?_ | refine' Rd.tup ?_ | refine' Rd.for_ ?_ | refine' Rd.rng1 ?_ | refine' Rd.rng2 ?_ | refine' Rd.itl ?_ | refine' Rd.itt ?_ | refine' Rd.sub ?_
  | refine' Rd.lrg ?_ | refine' Rd.rg1 ?_ | refine' Rd.rg2 ?_ | refine' Rd.exi ?_ | refine' Rd.exi2 ?_ | refine' Rd.int1 ?_ | refine' Rd.ex1 ?_ | refine' Rd.ex2 ?_
  | refine' Rd.fld ?_ | refine' Rd.sfld ?_ | refine' Rd.meth ?_ | refine' Rd.make ?_ | refine' Rd.lc ?_ | refine' Rd.bm ?_ | refine' Rd.bm0 ?_ | refine' Rd.bt ?_ | refine' Rd.enT ?_ | refine' Rd.enL ?_)
local macro_rules | `(tactic| walk_at "sj") => `(tactic| repeat (first | walk_at "sj1" | ((with_reducible refine' Rd.var ?hv ?_); (case hv => rfl))))
theorem flat_rep (k : Int) : ∀ n : Nat, (List.replicate n [V.int k]).flatten = (List.replicate n k).map V.int
  | 0 => rfl
  | m + 1 => by rw [List.replicate_succ, List.replicate_succ, List.flatten_cons, flat_rep k m]; rfl
theorem lcBagR (R : Int → Prop) {b : Addr} {n j : Nat} {te : TE} {vs : List Nat} {σ : L2.St} {H : Hp} {Qd : Addr → Hp → Prop} (hb : Bag H b) (hz : n ≤ 1000) (hw : ∀ x : V, wipe ((wipe σ vs).set j (some x)) vs = wipe σ vs)
    (hs : ∀ (x : V) (H1 : Hp) (Q1 : VK), Bag H1 b → (∀ (v : Int) (H2 : Hp), R v → Bag H2 b → But b H1 H2 → Q1 (.int v) H2) → te ((wipe σ vs).set j (some x)) H1 Q1)
    (hq : ∀ (q : Addr) (ns : List Int) (H1 : Hp), H q = none → ns.length = n → (∀ x ∈ ns, R x) → Bag H1 b → But b H H1 → H1 q = some (.lst (ns.map V.int)) → Qd q H1)
    (D : Addr) (hD : H D = none) :
    ∃ W : Nat → Nat → Hp → Prop, (∃ m, W 0 m (upd H D (.lst []))) ∧ ∀ i m H, W i m H →
      ((Itr 0 n).stop i H ∧ Qd D H) ∨ ((Itr 0 n).go i H ∧ ∃ Nx : Hp → Prop, (∀ H', Nx H' → ∃ m', m' < m ∧ W (i + 1) m' H') ∧ ∀ x H', (Itr 0 n).yld i H x H' → gName j x (wipe σ vs) H' fun σ2 H2 => wipe σ2 vs = wipe σ vs ∧ tYes σ2 H2 fun b H3 =>
        if b = true then te σ2 H3 fun y H4 => ∃ acc, H4 D = some (.lst acc) ∧ acc.length < sizeLine ∧ Nx (upd H4 D (.lst (acc ++ [y]))) else Nx H3) := by
  have nb := hb.ne hD
  refine ⟨fun i m H1 => m = n - i ∧ i ≤ n ∧ ∃ ns : List Int, ns.length = i ∧ (∀ x ∈ ns, R x) ∧ Bag H1 b ∧ But b H H1 ∧ H1 D = some (.lst (ns.map V.int)),
    ⟨n, rfl, Nat.zero_le _, [], rfl, (fun x h => by cases h), hb.put nb, butAdd (Rd.But.refl _ _) hD, upd_same⟩, ?_⟩
  rintro i m H1 ⟨rfl, hi, ns, rfl, rg, hb1, e1, hL⟩
  by_cases c : ns.length < n
  · refine .inr ⟨c, fun H' => ∃ ms : List Int, ms.length = ns.length + 1 ∧ (∀ x ∈ ms, R x) ∧ Bag H' b ∧ But b H H' ∧ H' D = some (.lst (ms.map V.int)), fun H' z => ⟨n - (ns.length + 1), by omega, rfl, c, z⟩, fun x H' y => ?_⟩
    obtain ⟨rfl, _⟩ := y
    refine ⟨hw x, Rd.tyes (iteT (hs x _ _ hb1 fun v H2 v0 hb2 e2 => ?_))⟩
    refine ⟨ns.map V.int, e2 _ _ nb.symm hL, by rw [List.length_map]; exact line_of (by omega), ns ++ [v], by simp, fun x hx => ?_, hb2.put nb, butMut (e1.trans e2) hD, by rw [upd_same, map_add_int]⟩
    rcases List.mem_append.mp hx with h | h
    · exact rg x h
    · rw [List.mem_singleton.mp h]
      exact v0
  · have e : ns.length = n := by omega
    exact .inl ⟨by show n ≤ ns.length; omega, hq D ns H1 hD e rg hb1 e1 hL⟩
def sp_list : Sp := fun vs H Q _ => ∃ (b : Addr), vs = [.ref b] ∧ Bag H b ∧ ∀ (p : Addr) (ms : List Int) (H' : Hp), H p = none → Bag H' b → But b H H' → H' p = some (.lst (ms.map V.int)) → ms.length ≤ 64 → BigOk ms → Q (.ref p) H'
theorem okBig {ms : List Int} (o : OkM ms) (h : pr ms ≤ 32) : BigOk ms := fun m hm => by
  have h1 := o m hm
  have h2 := m32le o h m hm
  have : (32 : Nat) ≤ 2 ^ 140 := by decide
  omega
theorem exBig {ms : List Int} (o : ∀ m ∈ ms, 2 ≤ m ∧ m ≤ 37) : BigOk ms := fun m hm => by
  have h1 := o m hm
  have : (37 : Nat) ≤ 2 ^ 140 := by decide
  omega
section
variable {P : Program} {w : World} {K : PySem.W.Frag} {mg : Str → Option Value} {base : Heap} {f : Addr} {fd : FuncData}
abbrev s__law_list : Stmt := (top 30)
theorem sc__law_list : FnScope ["bag", "kind", "k", "moduli"] ["bag"] (defScope s__law_list) := ⟨rfl, rfl, rfl, by decide +kernel, rfl, by decide +kernel, by decide +kernel⟩
theorem ok_list (F : FnP K "_law_list" "_law_list" s__law_list f fd) (T : Txt K mg) (D__law_take : DOk P w K mg base CX0 "_law_take" 1 ["bag", "size"] sp_take) (D__law_good : DOk P w K mg base CX0 "_law_good" 2 ["bag"] sp_good) (D__law_exact : DOk P w K mg base CX0 "_law_exact" 2 ["bag"] sp_exact) (D__law_bad : DOk P w K mg base CX0 "_law_bad" 2 ["bag"] sp_bad) : FnOk P w K mg base CX0 3 f fd ["bag"] sp_list := by
  refine F.ok sc__law_list (fun vs H Q E h => ?_) (fun cdv A outer s H vs Q E hr h => ?_)
  · obtain ⟨_, rfl, _⟩ := h; rfl
  obtain ⟨b, rfl, hb, kQ⟩ := h
  refine ⟨_, PSs.nox (pss_cons (ps_set (i := 1) sc__law_list.nd rfl (Or.inl rfl) (callX D__law_take (hr.mono (by decide)) (passN) (pa_cons (pv 0) (pa_cons pe_int pa_nil))))
  (pss_cons (ps_if (pt_cmpR op_lt (pv 1) pe_int (nomark _))
  (pss_one (ps_ret (callX D__law_good (hr.mono (by decide)) (passN) (pa_cons (pv 0) pa_nil))))
  pss_nil)
  (pss_cons (ps_if (pt_cmpR op_lt (pv 1) pe_int (nomark _))
  (pss_one (ps_ret (callX D__law_exact (hr.mono (by decide)) (passN) (pa_cons (pv 0) pa_nil))))
  pss_nil)
  (pss_cons (ps_if (pt_cmpR op_eq (pv 1) pe_int (nomark _))
  (pss_one (ps_ret (pe_lc (own := [("k", 2)]) rfl sc__law_list.nd (pi_range1 rfl T.range (pa_cons (callX D__law_take (hr.mono (by decide)) (passN) (pa_cons (pv 0) (pa_cons pe_int pa_nil))) pa_nil)) (blkOk_by (own := [("k", 2)]) (N := ["bag", "kind", "k", "moduli"]) (sc := defScope s__law_list) (by decide +kernel)) (fun _ _ _ _ _ => (pg_name (i := 2) sc__law_list.nd rfl (Or.inl rfl))) (fun _ _ _ _ _ => pts_nil) (fun _ _ _ _ _ => (pe_op op_sub (callX D__law_take (hr.mono (by decide)) (passN) (pa_cons (pv 0) (pa_cons pe_int pa_nil))) pe_int)))))
  pss_nil)
  (pss_cons (ps_if (pt_cmpR op_eq (pv 1) pe_int (nomark _))
  (pss_cons (ps_set (i := 3) sc__law_list.nd rfl (Or.inl rfl) (callX D__law_good (hr.mono (by decide)) (passN) (pa_cons (pv 0) pa_nil)))
  (pss_cons (ps_if (pt_cmpR op_eq (callX D__law_take (hr.mono (by decide)) (passN) (pa_cons (pv 0) (pa_cons pe_int pa_nil))) pe_int (nomark _))
  (pss_one (ps_set (i := 3) sc__law_list.nd rfl (Or.inl rfl) (callX D__law_exact (hr.mono (by decide)) (passN) (pa_cons (pv 0) pa_nil))))
  pss_nil)
  (pss_cons (ps_for PassesOwn.never rfl (pi_range1 rfl T.range (pa_cons (pe_op op_add pe_int (callX D__law_take (hr.mono (by decide)) (passN) (pa_cons (pv 0) (pa_cons pe_int pa_nil)))) pa_nil)) (pg_name (i := 2) sc__law_list.nd rfl (Or.inl rfl))
  (pss_one (ps_expr (Rk.bm K rfl PySem.F.plainAttrs_list PySem.F.slot_list_insert PySem.F.type_list_insert mt_insert (pv 3) (pa_cons (callX D__law_take (hr.mono (by decide)) (passN) (pa_cons (pv 0) (pa_cons (pe_op op_add (pe_callB (Rk.len K) rfl T.len PySem.boot_len (pa_cons (pv 3) pa_nil)) pe_int) pa_nil))) (pa_cons (callX D__law_bad (hr.mono (by decide)) (passN) (pa_cons (pv 0) pa_nil)) pa_nil))))))
  (pss_one (ps_ret (pv 3))))))
  pss_nil)
  (pss_one (ps_ret (pe_op op_rep (pe_lst (pa_cons pe_int pa_nil)) (pe_op op_add pe_int (callX D__law_take (hr.mono (by decide)) (passN) (pa_cons (pv 0) (pa_cons pe_int pa_nil)))))))))))), ?_⟩
  walk_at "st"
  refine ⟨b, 9, rfl, by decide, by decide, hb, fun kd H1 k0 k1 hb1 e1 => ?_⟩
  have fresh : ∀ {H2 : Hp} {p : Addr}, Bag H2 b → But b H H2 → H2 p = none → H p = none := fun {H2 p} hb2 e2 h => butFree e2 (fun z => hb2.ne h z.symm) h
  walk_at "st"
  refine Rd.ite_d (fun c1 => ?_) (fun c1 => ?_)
  · walk_at "st"
    exact ⟨b, rfl, hb1, fun p ms H2 hp hb2 e2 h2 o pl => kQ p ms _ (fresh hb1 e1 hp) hb2 (e1.trans e2) h2 (by have := few_of o pl; omega) (okBig o pl)⟩
  walk_at "st"
  refine Rd.ite_d (fun c2 => ?_) (fun c2 => ?_)
  · walk_at "st"
    exact ⟨b, rfl, hb1, fun p ms H2 hp hb2 e2 h2 l o => kQ p ms _ (fresh hb1 e1 hp) hb2 (e1.trans e2) h2 (by omega) (exBig o)⟩
  walk_at "st"
  refine Rd.ite_d (fun c3 => ?_) (fun c3 => ?_)
  · walk_at "st"
    refine ⟨b, 5, rfl, by decide, by decide, hb1, fun x H2 x0 x1 hb2 e2 => ?_⟩
    walk_at "st"
    refine ⟨by omega, by omega, ?_⟩
    refine lcBagR (fun v => -2 ≤ v ∧ v < 13) hb2 (by omega) (by intro _; rfl) (fun y H3 Q1 hb3 q1 => ?_) (fun q ns H3 hq lz rg hb3 e3 hL => ?_)
    · walk_at "st"
      refine ⟨b, 15, rfl, by decide, by decide, hb3, fun v H4 v0 v1 hb4 e4 => ?_⟩
      walk_at "st"
      exact q1 _ _ ⟨by omega, by omega⟩ hb4 e4
    · refine kQ q ns _ (fresh hb2 (e1.trans e2) hq) hb3 ((e1.trans e2).trans e3) hL (by omega) fun m hm => ?_
      have := rg m hm
      have : (13 : Nat) ≤ 2 ^ 140 := by decide
      omega
  walk_at "st"
  refine Rd.ite_d (fun c4 => ?_) (fun c4 => ?_)
  · walk_at "sj"
    refine ⟨b, rfl, hb1, fun p ms H2 hp hb2 e2 h2 o pl => ?_⟩
    have hp0 := fresh hb1 e1 hp
    have e12 := e1.trans e2
    walk_at "sj"
    with_reducible refine Rd.seqJ (fun σ' H' => ∃ (p : Addr) (ms : List Int), σ' = [some (.ref b), some (.int kd), none, some (.ref p)] ∧ H p = none ∧ Bag H' b ∧ But b H H' ∧ H' p = some (.lst (ms.map V.int)) ∧ ms.length ≤ 6 ∧ BigOk ms) ?_ fun N hN => ?_
    · rintro σ' H3 ⟨p, ms, rfl, hp, hb3, e3, h3, l6, bo⟩
      have nbp : b ≠ p := hb.ne hp
      walk_at "st"
      refine ⟨b, 2, rfl, by decide, by decide, hb3, fun y H4 y0 y1 hb4 e4 => ?_⟩
      walk_at "st"
      refine ⟨by omega, by omega, ?_⟩
      refine for_range (fun i σ H5 => ∃ (v : Option V) (ms : List Int), σ = [some (.ref b), some (.int kd), v, some (.ref p)] ∧ Bag H5 b ∧ But b H H5 ∧ H5 p = some (.lst (ms.map V.int)) ∧ ms.length ≤ 6 + i ∧ BigOk ms)
        ⟨none, ms, rfl, hb4, e3.trans e4, e4 p _ nbp.symm h3, by omega, bo⟩ ?_ ?_
      · rintro i σ H5 hi ⟨v, ms, rfl, hb5, e5, h5, l7, bo⟩
        walk_at "st"
        refine Rd.tyL h5 ?_
        walk_at "st"
        refine Rd.len1 (.inl (SqL.of h5)) ?_
        walk_at "st"
        rw [List.length_map]
        refine ⟨b, _, rfl, by omega, by omega, hb5, fun x H6 x0 x1 hb6 e6 => ?_⟩
        have h6 := e6 p _ nbp.symm h5
        walk_at "st"
        refine ⟨b, rfl, hb6, fun z H7 zb hb7 e7 => ?_⟩
        have h7 := e7 p _ nbp.symm h6
        walk_at "st"
        refine ⟨p, _, x, .int z, rfl, rfl, h7, by rw [List.length_map]; exact line_of (by omega), x0, by omega, ?_⟩
        walk_at "st"
        have em : ((ms.take x.toNat).map V.int ++ [V.int z] ++ (ms.drop x.toNat).map V.int) = (ms.take x.toNat ++ [z] ++ ms.drop x.toNat).map V.int := by rw [List.map_append, List.map_append]; rfl
        refine ⟨some (.int (0 + (i : Nat))), ms.take x.toNat ++ [z] ++ ms.drop x.toNat, rfl, hb7.put nbp, butMut ((e5.trans e6).trans e7) hp, by rw [upd_same, ← List.map_take, ← List.map_drop, em], ?_, fun m hm => ?_⟩
        · rw [List.length_append, List.length_append, List.length_take, List.length_drop]
          show min x.toNat ms.length + 1 + (ms.length - x.toNat) ≤ 6 + (i + 1)
          omega
        · rcases List.mem_append.mp hm with h | h
          · rcases List.mem_append.mp h with h | h
            · exact bo m (List.mem_of_mem_take h)
            · rw [List.mem_singleton.mp h]; exact Nat.le_of_lt zb
          · exact bo m (List.mem_of_mem_drop h)
      · rintro σ H5 ⟨v, ms, rfl, hb5, e5, h5, l7, bo⟩
        walk_at "st"
        exact kQ p ms _ hp hb5 e5 h5 (by omega) bo
    · walk_at "st"
      refine ⟨b, 2, rfl, by decide, by decide, hb2, fun y H3 y0 y1 hb3 e3 => ?_⟩
      walk_at "st"
      refine Rd.ite_d (fun c5 => ?_) (fun c5 => ?_)
      · walk_at "st"
        refine ⟨b, rfl, hb3, fun p2 ms2 H4 hp2 hb4 e4 h4 l o2 => ?_⟩
        walk_at "st"
        exact hN _ _ ⟨p2, ms2, rfl, fresh hb3 (e12.trans e3) hp2, hb4, (e12.trans e3).trans e4, h4, l, exBig o2⟩
      · walk_at "st"
        exact hN _ _ ⟨p, ms, rfl, hp0, hb3, e12.trans e3, e3 p _ (hb.ne hp0).symm h2, by have := few_of o pl; omega, okBig o pl⟩
  walk_at "st"
  refine ⟨(by decide : 1 ≤ sizeLine), fun l0 hl0 => ?_⟩
  have e2 : Same H1 (upd H1 l0 (.lst [.int 2])) := Rd.same_mk hl0
  have h2 : (upd H1 l0 (.lst [.int 2])) l0 = some (.lst [.int 2]) := upd_same
  generalize upd H1 l0 (.lst [.int 2]) = H2 at e2 h2
  have hb2 := hb1.same e2
  walk_at "st"
  refine ⟨b, 64, rfl, by decide, by decide, hb2, fun x H3 x0 x1 hb3 e3 => ?_⟩
  have nbl : l0 ≠ b := fun z => hb1.ne hl0 z.symm
  have h3 := e3 l0 _ nbl h2
  walk_at "st"
  obtain ⟨n, hn⟩ : ∃ n : Nat, 1 + x = (n : Int) := ⟨(1 + x).toNat, by omega⟩
  refine ⟨l0, 1 + x, _, rfl, rfl, h3, by omega, by omega, by show 1 * (1 + x).toNat ≤ sizeLine; exact Nat.le_of_lt (line_of (by omega)), fun kn hkn => ?_⟩
  refine kQ kn (List.replicate n 2) _ (fresh hb3 ((butSame e1 e2).trans e3) hkn) (hb3.put (hb3.ne hkn)) (butAdd ((butSame e1 e2).trans e3) hkn) ?_ (by rw [List.length_replicate]; omega) fun m hm => ?_
  · rw [upd_same, hn, Int.toNat_natCast, flat_rep]
  · rw [List.eq_of_mem_replicate hm]; decide
end
end K02

set_option Elab.async false
set_option linter.all false
set_option maxRecDepth 100000
set_option maxHeartbeats 4000000
namespace K02
open PySem L2 Rd GT
local macro_rules | `(tactic| walk_at "st1") => `(tactic| with_reducible first
  | refine' Rd.seq ?_ | refine' Rd.nxt ?_ | refine' Rd.asg ?_ | refine' Rd.nm ?_ | refine' Rd.con ?_ | refine' Rd.op ?_ | refine' Rd.i0 ?_ | refine' Rd.un ?_ | refine' Rd.u0 ?_
  | refine' Rd.eqI ?_ | refine' Rd.neI ?_ | refine' Rd.eqB ?_ | refine' Rd.tst ?_ | refine' Rd.tB_ ?_ | refine' Rd.exb ?_ | refine' Rd.ifS ?_ | refine' Rd.ret ?_ | refine' Rd.retN ?_ | refine' Rd.drop ?_
  | refine' Rd.nil ?_ | refine' Rd.cons ?_ | refine' Rd.cb ?_ | refine' Rd.call ?_ | refine' Rd.callN ?_ | refine' Rd.z2 ?_ | refine' Rd.z3 ?_ | refine' Rd.revA ?_ | refine' Rd.revL ?_ | refine' Rd.star ?_ | refine' Rd.lc2 ?_ | refine' Rd.andT ?_ | refine' Rd.orT ?_ | refine' Rd.notT ?_ | refine' Rd.andV ?_ | refine' Rd.orV ?_ | refine' Rd.notV ?_ | refine' Rd.chain ?_
  | refine' Rd.lst ?_ | refine' Rd.tup ?_ | refine' Rd.for_ ?_ | refine' Rd.rng1 ?_ | refine' Rd.rng2 ?_ | refine' Rd.itl ?_ | refine' Rd.itt ?_ | refine' Rd.sub ?_
  | refine' Rd.lrg ?_ | refine' Rd.rg1 ?_ | refine' Rd.rg2 ?_ | refine' Rd.exi ?_ | refine' Rd.exi2 ?_ | refine' Rd.int1 ?_ | refine' Rd.ex1 ?_ | refine' Rd.ex2 ?_
  | refine' Rd.fld ?_ | refine' Rd.sfld ?_ | refine' Rd.meth ?_ | refine' Rd.make ?_ | refine' Rd.lc ?_ | refine' Rd.bm ?_ | refine' Rd.bm0 ?_ | refine' Rd.bt ?_ | refine' Rd.enT ?_ | refine' Rd.enL ?_)
local macro_rules | `(tactic| walk_at "st") => `(tactic| repeat (first | walk_at "st1" | ((with_reducible refine' Rd.var ?hv ?_); (case hv => rfl))))
local macro_rules | `(tactic| walk_at "sj1") => `(tactic| with_reducible first
  | refine' Rd.seqA ?_ | refine' Rd.seqD ?_ | refine' Rd.seqF ?_ | refine' Rd.seqW ?_ | refine' Rd.nxt ?_ | refine' Rd.asg ?_ | refine' Rd.nm ?_ | refine' Rd.con ?_ | refine' Rd.op ?_ | refine' Rd.i0 ?_ | refine' Rd.un ?_ | refine' Rd.u0 ?_
  | refine' Rd.eqI ?_ | refine' Rd.neI ?_ | refine' Rd.eqB ?_ | refine' Rd.tst ?_ | refine' Rd.tB_ ?_ | refine' Rd.exb ?_ | refine' Rd.ifS ?_ | refine' Rd.ret ?_ | refine' Rd.retN ?_ | refine' Rd.drop ?_
  | refine' Rd.nil ?_ | refine' Rd.cons ?_ | refine' Rd.cb ?_ | refine' Rd.call ?_ | refine' Rd.callN ?_ | refine' Rd.z2 ?_ | refine' Rd.z3 ?_ | refine' Rd.revA ?_ | refine' Rd.revL ?_ | refine' Rd.star ?_ | refine' Rd.lc2 ?_ | refine' Rd.andT ?_ | refine' Rd.orT ?_ | refine' Rd.notT ?_ | refine' Rd.andV ?_ | refine' Rd.orV ?_ | refine' Rd.notV ?_ | refine' Rd.chain ?_
  | refine' Rd.lst ?_ | refine' Rd.tup ?_ | refine' Rd.for_ ?_ | refine' Rd.rng1 ?_ | refine' Rd.rng2 ?_ | refine' Rd.itl ?_ | refine' Rd.itt ?_ | refine' Rd.sub ?_
  | refine' Rd.lrg ?_ | refine' Rd.rg1 ?_ | refine' Rd.rg2 ?_ | refine' Rd.exi ?_ | refine' Rd.exi2 ?_ | refine' Rd.int1 ?_ | refine' Rd.ex1 ?_ | refine' Rd.ex2 ?_
  | refine' Rd.fld ?_ | refine' Rd.sfld ?_ | refine' Rd.meth ?_ | refine' Rd.make ?_ | refine' Rd.lc ?_ | refine' Rd.bm ?_ | refine' Rd.bm0 ?_ | refine' Rd.bt ?_ | refine' Rd.enT ?_ | refine' Rd.enL ?_)
local macro_rules | `(tactic| walk_at "sj") => `(tactic| repeat (first | walk_at "sj1" | ((with_reducible refine' Rd.var ?hv ?_); (case hv => rfl))))
/-! ### the law: tuples that are no values -/
theorem tupBag {H H' : Hp} {b v : Addr} {xs : List V} (h : TupX H v xs) (hb : Bag H b) (e : But b H H') : TupX H' v xs := by
  obtain ⟨x, y, h1, _⟩ := hb
  rcases h with h | ⟨o, h⟩
  · exact .inl (e v _ (fun z => by rw [z, h1] at h; cases h) h)
  · exact .inr ⟨o, e v _ (fun z => by rw [z, h1] at h; cases h) h⟩
theorem TgtAt.bag {C : Addr} {H H' : Hp} {b g : Addr} {ms : List Int} (h : TgtAt C H g ms) (hb : Bag H b) (e : But b H H') : TgtAt C H' g ms := by
  obtain ⟨x, y, h1, _⟩ := hb
  exact h.but h1 e
theorem LT.bag {H H' : Hp} {b p : Addr} {vs : List (List Int)} (h : LT H p vs) (hb : Bag H b) (e : But b H H') : LT H' p vs := by
  obtain ⟨x, y, h1, _⟩ := hb
  obtain ⟨as, a1, a2⟩ := h.ob
  refine ⟨as, e p _ (fun z => ?_) a1, a2.len, fun i a r i1 i2 => ?_⟩
  · rw [z, h1] at a1
    cases as with
    | nil => cases a1
    | cons c r => cases a1
  · have := a2.row i a r i1 i2
    unfold TupP at this ⊢
    exact e a _ (fun z => by rw [z, h1] at this; cases this) this
theorem catX {K : PySem.W.Frag} {H : Hp} {Q : VK} {a b : Addr} {xs ys : List V} (h1 : TupX H a xs) (h2 : TupX H b ys) (z : xs.length + ys.length ≤ 1000) (k : ∀ r H', Same H H' → TupX H' r (xs ++ ys) → Q (.ref r) H') : rCatA K (.ref a) (.ref b) H Q :=
  ⟨a, b, xs, ys, rfl, rfl, h1.sq, h2.sq, Nat.le_of_lt (line_of z), fun e => k b H (Same.refl _) (by rw [e]; exact h2), fun _ e => k a H (Same.refl _) (by rw [e, List.append_nil]; exact h1), fun _ _ p hp => k p _ (Rd.same_mk hp) (.inl upd_same)⟩
theorem slX {K : PySem.W.Frag} {H : Hp} {Q : VK} {a : Addr} {xs : List V} {lo hi : Option Int} (h1 : TupX H a xs) (k : ∀ r H', Same H H' → TupX H' r (cutV xs lo hi) → Q (.ref r) H') : rSlA K (.ref a) lo hi H Q :=
  ⟨a, xs, rfl, h1.sq, fun c => k a H (Same.refl _) (by unfold cutV; rw [c.1, c.2, List.drop_zero, Nat.sub_zero, List.take_length]; exact h1), fun _ p hp => k p _ (Rd.same_mk hp) (.inl upd_same)⟩
theorem cut_to {xs : List V} {j : Nat} {i : Int} (e : i = (j : Int)) (h : j ≤ xs.length) : cutV xs none (some i) = xs.take j := by
  have h1 : HT.sIx xs.length 0 none = 0 := rfl
  have h2 : HT.sIx xs.length xs.length (some i) = j := by
    show (if i < 0 then (i + (xs.length : Nat)).toNat else min i.toNat xs.length) = j
    rw [if_neg (by omega)]; omega
  unfold cutV
  rw [h1, h2, List.drop_zero, Nat.sub_zero]
theorem cut_from {xs : List V} {j : Nat} {i : Int} (e : i = (j : Int)) (h : j ≤ xs.length) : cutV xs (some i) none = xs.drop j := by
  have h1 : HT.sIx xs.length 0 (some i) = j := by
    show (if i < 0 then (i + (xs.length : Nat)).toNat else min i.toNat xs.length) = j
    rw [if_neg (by omega)]; omega
  have h2 : HT.sIx xs.length xs.length none = xs.length := rfl
  unfold cutV
  rw [h1, h2, List.take_of_length_le (by rw [List.length_drop]; exact Nat.le_refl _)]
theorem sl1 {r : V → Option Int → Option Int → Hp → VK → Prop} {te : TE} {tl th : TO} {σ : L2.St} {H : Hp} {Q : VK} (h : te σ H fun x H1 => tl σ H1 fun l H2 => th σ H2 fun u H3 => r x l u H3 Q) : tSl r te tl th σ H Q := h
theorem noP {σ : L2.St} {H : Hp} {Q : Option Int → Hp → Prop} (h : Q none H) : tNoPart σ H Q := h
theorem part {t : TE} {σ : L2.St} {H : Hp} {Q : Option Int → Hp → Prop} (h : t σ H fun x H1 => ∃ i, x = V.int i ∧ Q (some i) H1) : tPart t σ H Q := h
theorem notVal {ms w : List Int} {i : Nat} {x m : Int} (h1 : ms[i]? = some m) (h2 : w.length = ms.length) (n : ¬ (0 ≤ x ∧ x < m)) : ¬ Val ms (w.take i ++ [x] ++ w.drop (i + 1)) := fun z => by
  have hi := (List.getElem?_eq_some_iff.mp h1).1
  refine n ((val_iff.mp z).2 i x m ?_ h1)
  rw [List.append_assoc, List.getElem?_append_right (by rw [List.length_take]; omega), List.length_take, show i - min i w.length = 0 by omega]; rfl
def sp_spoilt : Sp := fun vs H Q _ => ∃ (b v a : Addr) (ms w : List Int), vs = [.ref b, .ref v, .ref a] ∧ Bag H b ∧ TupX H v (w.map V.int) ∧ Val ms w ∧ H a = some (.lst (ms.map V.int)) ∧ a ≠ b ∧ ms.length ≤ 5 ∧ (∀ m ∈ ms, m ≤ 32) ∧ ∀ r w' H', Bag H' b → But b H H' → TupX H' r (w'.map V.int) → ¬ Val ms w' → w'.length ≤ 6 → Q (.ref r) H'
def sp_refused (K : PySem.W.Frag) : Sp := fun vs H Q _ => ∃ (g : Addr) (ms : List Int), TgtAt (tC K) H g ms ∧ ((∃ v w, vs = [.ref g, .int 0, .ref v] ∧ TupX H v (w.map V.int) ∧ w.length ≤ 1000 ∧ ¬ Val ms w) ∨ (∃ p : Int, vs = [.ref g, .int 1, .int p] ∧ ¬ (0 ≤ p ∧ p < (pr ms : Nat)))) ∧ ∀ H', Same H H' → Q (.bl true) H'
section
variable {P : Program} {w : World} {K : PySem.W.Frag} {mg : Str → Option Value} {base : Heap} {f : Addr} {fd : FuncData}
abbrev s__law_spoilt : Stmt := (top 34)
theorem sc__law_spoilt : FnScope ["bag", "value", "moduli", "kind", "at", "entry"] ["bag", "value", "moduli"] (defScope s__law_spoilt) := ⟨rfl, rfl, rfl, by decide +kernel, rfl, by decide +kernel, by decide +kernel⟩
theorem ok_spoilt (F : FnP K "_law_spoilt" "_law_spoilt" s__law_spoilt f fd) (T : Txt K mg) (D__law_take : DOk P w K mg base CX0 "_law_take" 1 ["bag", "size"] sp_take) : FnOk P w K mg base CX0 2 f fd ["bag", "value", "moduli"] sp_spoilt := by
  refine F.ok sc__law_spoilt (fun vs H Q E h => ?_) (fun cdv A outer s H vs Q E hr h => ?_)
  · obtain ⟨_, _, _, _, _, rfl, _⟩ := h; rfl
  obtain ⟨b, v, a, ms, w, rfl, hb, hv, vl, ha, nab, few, m32, kQ⟩ := h
  have wl := vl.len
  refine ⟨_, PSs.nox (pss_cons (ps_set (i := 3) sc__law_spoilt.nd rfl (Or.inl rfl) (callX D__law_take (hr.mono (by decide)) (passN) (pa_cons (pv 0) (pa_cons pe_int pa_nil))))
  (pss_cons (ps_if (PW.pt (pw_or (pt_cmpR op_eq (pe_callB (Rk.len K) rfl T.len PySem.boot_len (pa_cons (pv 1) pa_nil)) pe_int (nomark _)) (pw_or1 (pt_cmpR op_eq (pv 3) pe_int (nomark _)))))
  (pss_one (ps_ret (pe_op (Rk.catA K) (pv 1) (pe_tup (pa_cons (callX D__law_take (hr.mono (by decide)) (passN) (pa_cons (pv 0) (pa_cons pe_int pa_nil))) pa_nil)))))
  pss_nil)
  (pss_cons (ps_if (pt_cmpR op_eq (pv 3) pe_int (nomark _))
  (pss_one (ps_ret (pe_slice (Rk.slA K) (pv 1) po_none (po_some (pe_op op_sub (pe_callB (Rk.len K) rfl T.len PySem.boot_len (pa_cons (pv 1) pa_nil)) pe_int)))))
  pss_nil)
  (pss_cons (ps_set (i := 4) sc__law_spoilt.nd rfl (Or.inl rfl) (callX D__law_take (hr.mono (by decide)) (passN) (pa_cons (pv 0) (pa_cons (pe_callB (Rk.len K) rfl T.len PySem.boot_len (pa_cons (pv 1) pa_nil)) pa_nil))))
  (pss_cons (ps_set (i := 5) sc__law_spoilt.nd rfl (Or.inl rfl) (pe_op op_add (pe_ix (Rk.ixL K) (pv 2) (pv 4) (fun _ _ => rfl)) (pe_op op_mul (callX D__law_take (hr.mono (by decide)) (passN) (pa_cons (pv 0) (pa_cons pe_int pa_nil))) (pe_op op_pow pe_int pe_int))))
  (pss_cons (ps_if (pt_cmpR op_eq (pv 3) pe_int (nomark _))
  (pss_one (ps_set (i := 5) sc__law_spoilt.nd rfl (Or.inl rfl) (pe_op op_sub (pe_un un_neg pe_int) (pe_op op_mul (callX D__law_take (hr.mono (by decide)) (passN) (pa_cons (pv 0) (pa_cons pe_int pa_nil))) (pe_op op_pow pe_int pe_int)))))
  pss_nil)
  (pss_one (ps_ret (pe_op (Rk.catA K) (pe_op (Rk.catA K) (pe_slice (Rk.slA K) (pv 1) po_none (po_some (pv 4))) (pe_tup (pa_cons (pv 5) pa_nil))) (pe_slice (Rk.slA K) (pv 1) (po_some (pe_op op_add (pv 4) pe_int)) po_none)))))))))), ?_⟩
  walk_at "st"
  refine ⟨b, 4, rfl, by decide, by decide, hb, fun kd H1 k0 k1 hb1 e1 => ?_⟩
  have hv1 := tupBag hv hb e1
  have ha1 := e1 a _ nab ha
  walk_at "st"
  refine Rd.len1 (.inr hv1.sq) ?_
  walk_at "st"
  rw [List.length_map, wl]
  refine Rd.ite_d (fun c0 => ?_) (fun c0 => ?_)
  · refine (if_pos rfl).mpr ?_
    walk_at "st"
    refine ⟨b, 2, rfl, by decide, by decide, hb1, fun x H2 x0 x1 hb2 e2 => ?_⟩
    walk_at "st"
    refine ⟨(by decide : 1 ≤ sizeLine), fun q hq => ?_⟩
    have e3 : Same H2 (upd H2 q (.tup [.int x])) := Rd.same_mk hq
    walk_at "st"
    refine catX ((tupBag hv1 hb1 e2).same e3) (.inl upd_same) (by rw [List.length_map]; show w.length + 1 ≤ 1000; omega) fun r H3 e4 h4 => ?_
    exact kQ r (w ++ [x]) _ ((hb2.same e3).same e4) (butSame (butSame (e1.trans e2) e3) e4) (by rw [List.map_append]; exact h4) (fun z => by have := z.len; rw [List.length_append] at this; change w.length + 1 = _ at this; omega) (by rw [List.length_append]; show w.length + 1 ≤ 6; omega)
  walk_at "st"
  refine Rd.ite_d (fun c1 => ?_) (fun c1 => ?_)
  · walk_at "st"
    refine ⟨b, 2, rfl, by decide, by decide, hb1, fun x H2 x0 x1 hb2 e2 => ?_⟩
    walk_at "st"
    refine ⟨(by decide : 1 ≤ sizeLine), fun q hq => ?_⟩
    have e3 : Same H2 (upd H2 q (.tup [.int x])) := Rd.same_mk hq
    walk_at "st"
    refine catX ((tupBag hv1 hb1 e2).same e3) (.inl upd_same) (by rw [List.length_map]; show w.length + 1 ≤ 1000; omega) fun r H3 e4 h4 => ?_
    exact kQ r (w ++ [x]) _ ((hb2.same e3).same e4) (butSame (butSame (e1.trans e2) e3) e4) (by rw [List.map_append]; exact h4) (fun z => by have := z.len; rw [List.length_append] at this; change w.length + 1 = _ at this; omega) (by rw [List.length_append]; show w.length + 1 ≤ 6; omega)
  walk_at "st"
  refine Rd.ite_d (fun c2 => ?_) (fun c2 => ?_)
  · walk_at "st"
    refine sl1 ?_
    walk_at "st"
    refine noP (part ?_)
    walk_at "st"
    refine Rd.len1 (.inr hv1.sq) ?_
    walk_at "st"
    rw [List.length_map, wl]
    refine slX hv1 fun r H3 e4 h4 => ?_
    rw [cut_to (j := ms.length - 1) (by omega) (by rw [List.length_map]; omega), ← List.map_take] at h4
    exact kQ r (w.take (ms.length - 1)) _ (hb1.same e4) (butSame e1 e4) h4 (fun z => by have := z.len; rw [List.length_take] at this; omega) (by rw [List.length_take]; omega)
  walk_at "st"
  refine Rd.len1 (.inr hv1.sq) ?_
  walk_at "st"
  rw [List.length_map, wl]
  refine ⟨b, _, rfl, by omega, by omega, hb1, fun at_ H2 a0 a1 hb2 e2 => ?_⟩
  obtain ⟨i, hi⟩ : ∃ i : Nat, at_ = (i : Int) := ⟨at_.toNat, by omega⟩
  have il : i < ms.length := by omega
  obtain ⟨m, hm⟩ : ∃ m, ms[i]? = some m := ⟨_, List.getElem?_eq_getElem il⟩
  have mx := m32 m (List.mem_of_getElem? hm)
  have ha2 := e2 a _ nab ha1
  have hv2 := tupBag hv1 hb1 e2
  walk_at "st"
  refine Rd.ixL (SqL.of ha2) (at_of (j := i) hi (map_get_int hm)) ?_
  walk_at "st"
  refine ⟨b, 2, rfl, by decide, by decide, hb2, fun x H3 x0 x1 hb3 e3 => ?_⟩
  have hv3 := tupBag hv2 hb2 e3
  have e13 := (e1.trans e2).trans e3
  walk_at "sj"
  refine Rd.iC ⟨by decide, by decide, by decide⟩ ?_
  walk_at "sj"
  refine Rd.iC (.inl ⟨by omega, by omega⟩) ?_
  walk_at "sj"
  have p30 : (10 : Int) ^ Int.toNat 30 = 1000000000000000000000000000000 := by decide
  with_reducible refine Rd.seqJ (fun σ' H' => ∃ y : Int, σ' = [some (.ref b), some (.ref v), some (.ref a), some (.int kd), some (.int at_), some (.int y)] ∧ Bag H' b ∧ But b H H' ∧ TupX H' v (w.map V.int) ∧ ¬ (0 ≤ y ∧ y < m)) ?_ fun N hN => ?_
  · rintro σ' H4 ⟨y, rfl, hb4, e4, hv4, ny⟩
    walk_at "st"
    refine sl1 ?_
    walk_at "st"
    refine noP (part ?_)
    walk_at "st"
    refine slX hv4 fun r1 H5 e5 h5 => ?_
    rw [cut_to (j := i) hi (by rw [List.length_map]; omega), ← List.map_take] at h5
    walk_at "st"
    refine ⟨(by decide : 1 ≤ sizeLine), fun q hq => ?_⟩
    have e6 : Same H5 (upd H5 q (.tup [.int y])) := Rd.same_mk hq
    have h6 : TupX (upd H5 q (.tup [.int y])) q [.int y] := .inl upd_same
    generalize upd H5 q (.tup [.int y]) = H6 at e6 h6
    walk_at "st"
    refine catX (h5.same e6) h6 (by rw [List.length_map, List.length_take]; show min i w.length + 1 ≤ 1000; omega) fun r2 H7 e7 h7 => ?_
    have e47 := (e5.trans e6).trans e7
    refine sl1 ?_
    walk_at "st"
    refine part ?_
    walk_at "st"
    refine noP (slX (hv4.same e47) fun r3 H8 e8 h8 => ?_)
    rw [cut_from (j := i + 1) (by omega) (by rw [List.length_map]; omega), ← List.map_drop] at h8
    refine catX (h7.same e8) h8 (by rw [List.length_append, List.length_map, List.length_map, List.length_take, List.length_drop]; show min i w.length + 1 + (w.length - (i + 1)) ≤ 1000; omega) fun r4 H9 e9 h9 => ?_
    have e49 := (e47.trans e8).trans e9
    exact kQ r4 (w.take i ++ [y] ++ w.drop (i + 1)) _ (hb4.same e49) (butSame e4 e49) (by rw [List.map_append, List.map_append]; exact h9) (notVal hm wl ny) (by rw [List.length_append, List.length_append, List.length_take, List.length_drop]; show min i w.length + 1 + (w.length - (i + 1)) ≤ 6; omega)
  · walk_at "st"
    refine Rd.ite_d (fun c3 => ?_) (fun c3 => ?_)
    · walk_at "st"
      refine ⟨b, 2, rfl, by decide, by decide, hb3, fun z H4 z0 z1 hb4 e4 => ?_⟩
      walk_at "st"
      refine Rd.iC ⟨by decide, by decide, by decide⟩ ?_
      walk_at "st"
      refine Rd.iC (.inl ⟨by omega, by omega⟩) ?_
      walk_at "st"
      exact hN _ _ ⟨_, rfl, hb4, e13.trans e4, tupBag hv3 hb3 e4, by rw [p30]; omega⟩
    · walk_at "st"
      exact hN _ _ ⟨_, rfl, hb3, e13, hv3, by rw [p30]; omega⟩
abbrev s__law_refused : Stmt := (top 35)
theorem sc__law_refused : FnScope ["target", "which", "thing", "e"] ["target", "which", "thing"] (defScope s__law_refused) := ⟨rfl, rfl, rfl, by decide +kernel, rfl, by decide +kernel, by decide +kernel⟩
theorem ok_refused (F : FnP K "_law_refused" "_law_refused" s__law_refused f fd) (T : Txt K mg) (T5 : Txt5 K mg) (M_position : MOk P w K mg base (L2.CX P w) (tC K) "position" 2 ["self", "value"] (sp_pos K)) (M_value_at : MOk P w K mg base (L2.CX P w) (tC K) "value_at" 1 ["self", "position"] (sp_vat K)) :
    FnOk P w K mg base CX0 4 f fd ["target", "which", "thing"] (sp_refused K) := by
  refine F.ok sc__law_refused (fun vs H Q E h => ?_) (fun cdv A outer s H vs Q E hr h => ?_)
  · obtain ⟨_, _, _, ⟨_, _, rfl, _⟩ | ⟨_, rfl, _⟩, _⟩ := h <;> rfl
  obtain ⟨g, ms, G, h, kQ⟩ := h
  obtain ⟨dx, M, Z, hg, hM, hZ⟩ := G.ob
  refine ⟨_, PSs.nox (pss_cons (ps_try_as (i := 3) rfl rfl sc__law_refused.nd rfl rfl ⟨rfl, by decide +kernel, .inl T.ex_StepError.gP⟩ takes_none5 (fun W pn xe tk pw => (pss_cons (ps_if (pt_cmpR op_eq (pv 1) pe_int (nomark _))
  (pss_one (ps_expr (methS M_position (hr.mono (by decide)) (passS tk) (pv 0) (pa_cons (pv 2) pa_nil))))
  pss_nil)
  (pss_one (ps_if (pt_cmpR op_eq (pv 1) pe_int (nomark _))
  (pss_one (ps_expr (methS M_value_at (hr.mono (by decide)) (passS tk) (pv 0) (pa_cons (pv 2) pa_nil))))
  pss_nil))))
  (fun a oe cls d pn hz hf => psIf (P := cls = .ref (Rd.rA cls) ∧ ExcC K (Rd.rA cls) ∧ d = none) fun hp => (pss_cons (ps_if (pt_cmpR op_eq (pv 1) pe_int (nomark _))
  (pss_one (ps_ret (pe_and (pe_callB (call_isE hp.2.1 (zc_of hz hp.1 hp.2.2) hf) rfl T.isinstance (by decide +kernel) (pa_cons (pv 3) (pa_cons (pe_glob (v := .ref (He.ga K "InvalidValue")) rfl T.ex_InvalidValue.gP rfl) pa_nil))) (pe_and (pe_callB (call_isE hp.2.1 (zc_of hz hp.1 hp.2.2) hf) rfl T.isinstance (by decide +kernel) (pa_cons (pv 3) (pa_cons (pe_bltn rfl T.ValueError (by decide +kernel) (RelV_ty "ValueError")) pa_nil))) (pe_one (pe_not (pe_callB (call_isE hp.2.1 (zc_of hz hp.1 hp.2.2) hf) rfl T.isinstance (by decide +kernel) (pa_cons (pv 3) (pa_cons (pe_glob (v := .ref (He.ga K "InvalidIndex")) rfl T.ex_InvalidIndex.gP rfl) pa_nil)))))))))
  pss_nil)
  (pss_one (ps_ret (pe_and (pe_callB (call_isE hp.2.1 (zc_of hz hp.1 hp.2.2) hf) rfl T.isinstance (by decide +kernel) (pa_cons (pv 3) (pa_cons (pe_glob (v := .ref (He.ga K "InvalidIndex")) rfl T.ex_InvalidIndex.gP rfl) pa_nil))) (pe_and (pe_callB (call_isE hp.2.1 (zc_of hz hp.1 hp.2.2) hf) rfl T.isinstance (by decide +kernel) (pa_cons (pv 3) (pa_cons (pe_bltn rfl T.ValueError (by decide +kernel) (RelV_ty "ValueError")) pa_nil))) (pe_one (pe_not (pe_callB (call_isE hp.2.1 (zc_of hz hp.1 hp.2.2) hf) rfl T.isinstance (by decide +kernel) (pa_cons (pv 3) (pa_cons (pe_glob (v := .ref (He.ga K "InvalidValue")) rfl T.ex_InvalidValue.gP rfl) pa_nil))))))))))))
  (pss_one (ps_ret pe_bl))), ?_⟩
  rcases h with ⟨v, w, rfl, hv, z, no⟩ | ⟨p, rfl, no⟩
  · walk_at "st"
    refine Rd.ite_d (fun c => ?_) (fun c => absurd rfl c)
    walk_at "st"
    refine ⟨g, dx, _, rfl, hg, tk_no (by decide +kernel) (by decide +kernel) (by decide +kernel) (by decide +kernel) _ _ _ _, ?_⟩
    walk_at "st"
    refine ⟨g, v, ms, w, rfl, G, hv, z, fun y => absurd y no, fun _ H2 e2 => ?_⟩
    refine ⟨true, Rd.excOk T5.xS T.ex_StepError.tP T5.vs, fun _ a ha => ⟨⟨rfl, T5.xV, rfl⟩, ?_⟩, fun z => absurd z (by decide)⟩
    walk_at "st"
    refine Rd.ite_d (fun c => ?_) (fun c => absurd rfl c)
    walk_at "st"
    refine ⟨_, _, true, rfl, fun _ z => z, T5.vv, ?_⟩
    walk_at "st"
    refine (if_pos rfl).mpr ?_
    walk_at "st"
    refine ⟨_, _, true, rfl, fun _ z => z, T5.vx, ?_⟩
    walk_at "st"
    refine (if_pos rfl).mpr ?_
    walk_at "st"
    refine ⟨_, _, false, rfl, fun _ z => z, T5.vi, ?_⟩
    walk_at "st"
    exact kQ _ e2
  · walk_at "st"
    refine Rd.ite_d (fun c => absurd c (by decide)) (fun c => ?_)
    walk_at "st"
    refine Rd.ite_d (fun c => ?_) (fun c => absurd rfl c)
    walk_at "st"
    refine ⟨g, dx, _, rfl, hg, tk_no (by decide +kernel) (by decide +kernel) (by decide +kernel) (by decide +kernel) _ _ _ _, ?_⟩
    walk_at "st"
    refine ⟨g, ms, p, rfl, G, fun p0 p1 => absurd ⟨p0, p1⟩ no, fun _ H2 e2 => ?_⟩
    refine ⟨true, Rd.excOk T5.xS T.ex_StepError.tP T5.is_, fun _ a ha => ⟨⟨rfl, T5.xI, rfl⟩, ?_⟩, fun z => absurd z (by decide)⟩
    walk_at "st"
    refine Rd.ite_d (fun c => absurd c (by decide)) (fun c => ?_)
    walk_at "st"
    refine ⟨_, _, true, rfl, fun _ z => z, T5.ii, ?_⟩
    walk_at "st"
    refine (if_pos rfl).mpr ?_
    walk_at "st"
    refine ⟨_, _, true, rfl, fun _ z => z, T5.ix, ?_⟩
    walk_at "st"
    refine (if_pos rfl).mpr ?_
    walk_at "st"
    refine ⟨_, _, false, rfl, fun _ z => z, T5.iv, ?_⟩
    walk_at "st"
    exact kQ _ e2
end
end K02

set_option Elab.async false
set_option linter.all false
set_option maxRecDepth 100000
set_option maxHeartbeats 4000000
namespace K02
open PySem L2 Rd GT
local macro_rules | `(tactic| walk_at "st1") => `(tactic| with_reducible first
  | refine' Rd.seq ?_ | refine' Rd.nxt ?_ | refine' Rd.asg ?_ | refine' Rd.nm ?_ | refine' Rd.con ?_ | refine' Rd.op ?_ | refine' Rd.i0 ?_ | refine' Rd.un ?_ | refine' Rd.u0 ?_
  | refine' Rd.eqI ?_ | refine' Rd.neI ?_ | refine' Rd.eqB ?_ | refine' Rd.tst ?_ | refine' Rd.tB_ ?_ | refine' Rd.exb ?_ | refine' Rd.ifS ?_ | refine' Rd.ret ?_ | refine' Rd.retN ?_ | refine' Rd.drop ?_
  | refine' Rd.nil ?_ | refine' Rd.cons ?_ | refine' Rd.cb ?_ | refine' Rd.call ?_ | refine' Rd.callN ?_ | refine' Rd.z2 ?_ | refine' Rd.z3 ?_ | refine' Rd.revA ?_ | refine' Rd.revL ?_ | refine' Rd.star ?_ | refine' Rd.lc2 ?_ | refine' Rd.andT ?_ | refine' Rd.orT ?_ | refine' Rd.notT ?_ | refine' Rd.andV ?_ | refine' Rd.orV ?_ | refine' Rd.notV ?_ | refine' Rd.chain ?_
  | refine' Rd.lst ?_ | refine' Rd.tup ?_ | refine' Rd.for_ ?_ | refine' Rd.rng1 ?_ | refine' Rd.rng2 ?_ | refine' Rd.itl ?_ | refine' Rd.itt ?_ | refine' Rd.sub ?_
  | refine' Rd.lrg ?_ | refine' Rd.rg1 ?_ | refine' Rd.rg2 ?_ | refine' Rd.exi ?_ | refine' Rd.exi2 ?_ | refine' Rd.int1 ?_ | refine' Rd.ex1 ?_ | refine' Rd.ex2 ?_
  | refine' Rd.fld ?_ | refine' Rd.sfld ?_ | refine' Rd.meth ?_ | refine' Rd.make ?_ | refine' Rd.lc ?_ | refine' Rd.bm ?_ | refine' Rd.bm0 ?_ | refine' Rd.bt ?_ | refine' Rd.enT ?_ | refine' Rd.enL ?_)
local macro_rules | `(tactic| walk_at "st") => `(tactic| repeat (first | walk_at "st1" | ((with_reducible refine' Rd.var ?hv ?_); (case hv => rfl))))
local macro_rules | `(tactic| walk_at "sj1") => `(tactic| with_reducible first
  | refine' Rd.seqA ?_ | refine' Rd.seqD ?_ | refine' Rd.seqF ?_ | refine' Rd.seqW ?_ | refine' Rd.nxt ?_ | refine' Rd.asg ?_ | refine' Rd.nm ?_ | refine' Rd.con ?_ | refine' Rd.op ?_ | refine' Rd.i0 ?_ | refine' Rd.un ?_ | refine' Rd.u0 ?_
  | refine' Rd.eqI ?_ | refine' Rd.neI ?_ | refine' Rd.eqB ?_ | refine' Rd.tst ?_ | refine' Rd.tB_ ?_ | refine' Rd.exb ?_ | refine' Rd.ifS ?_ | refine' Rd.ret ?_ | refine' Rd.retN ?_ | refine' Rd.drop ?_
  | refine' Rd.nil ?_ | refine' Rd.cons ?_ | refine' Rd.cb ?_ | refine' Rd.call ?_ | refine' Rd.callN ?_ | refine' Rd.z2 ?_ | refine' Rd.z3 ?_ | refine' Rd.revA ?_ | refine' Rd.revL ?_ | refine' Rd.star ?_ | refine' Rd.lc2 ?_ | refine' Rd.andT ?_ | refine' Rd.orT ?_ | refine' Rd.notT ?_ | refine' Rd.andV ?_ | refine' Rd.orV ?_ | refine' Rd.notV ?_ | refine' Rd.chain ?_
  | refine' Rd.lst ?_ | refine' Rd.tup ?_ | refine' Rd.for_ ?_ | refine' Rd.rng1 ?_ | refine' Rd.rng2 ?_ | refine' Rd.itl ?_ | refine' Rd.itt ?_ | refine' Rd.sub ?_
  | refine' Rd.lrg ?_ | refine' Rd.rg1 ?_ | refine' Rd.rg2 ?_ | refine' Rd.exi ?_ | refine' Rd.exi2 ?_ | refine' Rd.int1 ?_ | refine' Rd.ex1 ?_ | refine' Rd.ex2 ?_
  | refine' Rd.fld ?_ | refine' Rd.sfld ?_ | refine' Rd.meth ?_ | refine' Rd.make ?_ | refine' Rd.lc ?_ | refine' Rd.bm ?_ | refine' Rd.bm0 ?_ | refine' Rd.bt ?_ | refine' Rd.enT ?_ | refine' Rd.enL ?_)
local macro_rules | `(tactic| walk_at "sj") => `(tactic| repeat (first | walk_at "sj1" | ((with_reducible refine' Rd.var ?hv ?_); (case hv => rfl))))
/-! ### the law: numbers of values, what lies outside -/
def sp_numbered (K : PySem.W.Frag) : Sp := fun vs H Q _ => ∃ (g l : Addr) (ms : List Int), vs = [.ref g, .ref l] ∧ TgtAt (tC K) H g ms ∧ LT H l (VL ms) ∧ ∀ H', Same H H' → Q (.bl true) H'
def sp_outside (K : PySem.W.Frag) : Sp := fun vs H Q _ => ∃ (b g l a : Addr) (ms : List Int), vs = [.ref b, .ref g, .ref l, .ref a] ∧ Bag H b ∧ TgtAt (tC K) H g ms ∧ LT H l (VL ms) ∧ H a = some (.lst (ms.map V.int)) ∧ a ≠ b ∧ ∀ H', Bag H' b → But b H H' → Q (.bl true) H'
section
variable {P : Program} {w : World} {K : PySem.W.Frag} {mg : Str → Option Value} {base : Heap} {f : Addr} {fd : FuncData}
abbrev s__law_numbered : Stmt := (top 36)
theorem sc__law_numbered : FnScope ["target", "values", "at"] ["target", "values"] (defScope s__law_numbered) := ⟨rfl, rfl, rfl, by decide +kernel, rfl, by decide +kernel, by decide +kernel⟩
theorem ok_numbered (F : FnP K "_law_numbered" "_law_numbered" s__law_numbered f fd) (T : Txt K mg) (D__law_same : DOk P w K mg base CX0 "_law_same" 4 ["told", "due"] (sp_same 3)) (M_position : MOk P w K mg base (L2.CX P w) (tC K) "position" 2 ["self", "value"] (sp_pos K)) (M_value_at : MOk P w K mg base (L2.CX P w) (tC K) "value_at" 1 ["self", "position"] (sp_vat K)) (M_is_value : MOk P w K mg base CX0 (tC K) "is_value" 1 ["self", "value"] (sp_isv K)) :
    FnOk P w K mg base CX0 5 f fd ["target", "values"] (sp_numbered K) := by
  refine F.ok sc__law_numbered (fun vs H Q E h => ?_) (fun cdv A outer s H vs Q E hr h => ?_)
  · obtain ⟨_, _, _, rfl, _⟩ := h; rfl
  obtain ⟨g, l, ms, rfl, G, X, kQ⟩ := h
  refine ⟨_, PSs.nox (pss_cons (ps_for PassesOwn.never rfl (pi_range1 rfl T.range (pa_cons (pe_callB (Rk.len K) rfl T.len PySem.boot_len (pa_cons (pv 1) pa_nil)) pa_nil)) (pg_name (i := 2) sc__law_numbered.nd rfl (Or.inl rfl))
  (pss_cons (ps_if (PW.pt (pw_or (pt_not (pt_val (callX D__law_same (hr.mono (by decide)) (passN) (pa_cons (methX M_position (hr.mono (by decide)) (passN) (pv 0) (pa_cons (pe_ix (Rk.ixL K) (pv 1) (pv 2) (fun _ _ => rfl)) pa_nil)) (pa_cons (pv 2) pa_nil))))) (pw_or1 (pt_not (pt_val (callX D__law_same (hr.mono (by decide)) (passN) (pa_cons (methX M_value_at (hr.mono (by decide)) (passN) (pv 0) (pa_cons (pv 2) pa_nil)) (pa_cons (pe_ix (Rk.ixL K) (pv 1) (pv 2) (fun _ _ => rfl)) pa_nil))))))))
  (pss_one (ps_ret pe_bl))
  pss_nil)
  (pss_one (ps_if (pt_not (pt_val (callX D__law_same (hr.mono (by decide)) (passN) (pa_cons (methX M_is_value (hr.mono (by decide)) (passN) (pv 0) (pa_cons (pe_ix (Rk.ixL K) (pv 1) (pv 2) (fun _ _ => rfl)) pa_nil)) (pa_cons pe_bl pa_nil)))))
  (pss_one (ps_ret pe_bl))
  pss_nil))))
  (pss_one (ps_ret pe_bl))), ?_⟩
  obtain ⟨dx, M, Z, hg, hM, hZ⟩ := G.ob
  obtain ⟨as, a1, a2⟩ := X.ob
  have few := G.few
  have al : as.length = pr ms := by rw [a2.len, VL_len]
  have noA : ∀ {m : Str}, (m == ("moduli" : Str)) = false → (m == ("order" : Str)) = false → (m == ("exponent" : Str)) = false → (m == ("zero" : Str)) = false → (tfs M Z (pr ms : Nat) (lcF ms : Nat)).lookup m = none := fun h1 h2 h3 h4 => tk_no h1 h2 h3 h4 _ _ _ _
  have ple := G.le
  walk_at "st"
  refine Rd.len1 (.inl (SqL.of a1)) ?_
  walk_at "st"
  rw [List.length_map, al]
  refine ⟨by omega, by omega, ?_⟩
  refine for_range (fun i σ H' => ∃ v : Option V, σ = [some (.ref g), some (.ref l), v] ∧ Same H H') ⟨none, rfl, Same.refl _⟩ ?_ ?_
  · rintro i σ H1 hi ⟨v, rfl, e1⟩
    have ip : i < pr ms := by omega
    have hv := VL_get ip
    have vv := dg_val G.ok i
    have wl := vv.len
    obtain ⟨c, hc⟩ : ∃ c, as[i]? = some c := ⟨_, List.getElem?_eq_getElem (by omega)⟩
    have hc2 := a2.row i c _ hc hv
    have at_c : ∀ {H' : Hp}, Same H H' → SqL K H' l (as.map V.ref) ∧ TupX H' c ((dg ms i).map V.int) := fun {H'} e => ⟨SqL.of (e _ _ a1), .inl (e _ _ hc2)⟩
    have ixc : atI (as.map V.ref) (0 + (i : Int)) = some (.ref c) := at_of (j := i) (by omega) (by rw [List.getElem?_map, hc]; rfl)
    walk_at "st"
    refine ⟨g, dx, _, rfl, e1 _ _ hg, noA (by decide +kernel) (by decide +kernel) (by decide +kernel) (by decide +kernel), ?_⟩
    walk_at "st"
    refine Rd.ixL (at_c e1).1 ixc ?_
    walk_at "st"
    refine ⟨g, c, ms, _, rfl, G.same e1, (at_c e1).2, by omega, fun _ H2 e2 => ?_, fun no => absurd vv no⟩
    walk_at "st"
    rw [psn_dg G.ok ip]
    refine ⟨_, _, rfl, by rw [Int.zero_add]; exact .int _ _, fun H3 e3 => ?_⟩
    have e13 := (e1.trans e2).trans e3
    walk_at "st"
    refine (if_neg (by decide)).mpr ?_
    walk_at "st"
    refine ⟨g, dx, _, rfl, e13 _ _ hg, noA (by decide +kernel) (by decide +kernel) (by decide +kernel) (by decide +kernel), ?_⟩
    walk_at "st"
    refine ⟨g, ms, 0 + (i : Int), rfl, G.same e13, fun p0 p1 r H4 hr4 e4 h4 => ?_, fun no => absurd ⟨by omega, by omega⟩ no⟩
    rw [show (0 + (i : Int)).toNat = i by omega] at h4
    have e14 := e13.trans e4
    walk_at "st"
    refine Rd.ixL (at_c e14).1 ixc ?_
    walk_at "st"
    refine ⟨_, _, rfl, (DD.tints h4.x (at_c e14).2 (by omega)).up, fun H5 e5 => ?_⟩
    have e15 := e14.trans e5
    walk_at "st"
    refine (if_neg (by decide)).mpr ?_
    walk_at "st"
    refine ⟨g, dx, _, rfl, e15 _ _ hg, noA (by decide +kernel) (by decide +kernel) (by decide +kernel) (by decide +kernel), ?_⟩
    walk_at "st"
    refine Rd.ixL (at_c e15).1 ixc ?_
    walk_at "st"
    refine ⟨g, c, ms, _, rfl, G.same e15, (at_c e15).2, by omega, fun b H6 hb e6 => ?_⟩
    rw [hb.mpr vv]
    walk_at "st"
    refine ⟨_, _, rfl, .bl _ _, fun H7 e7 => ?_⟩
    walk_at "st"
    refine (if_neg (by decide)).mpr ?_
    walk_at "st"
    exact ⟨_, rfl, (e15.trans e6).trans e7⟩
  · rintro σ H1 ⟨v, rfl, e1⟩
    walk_at "st"
    exact kQ _ e1
abbrev s__law_outside : Stmt := (top 37)
theorem sc__law_outside : FnScope ["bag", "target", "values", "moduli", "k", "bad", "position"] ["bag", "target", "values", "moduli"] (defScope s__law_outside) := ⟨rfl, rfl, rfl, by decide +kernel, rfl, by decide +kernel, by decide +kernel⟩
theorem ok_outside (F : FnP K "_law_outside" "_law_outside" s__law_outside f fd) (T : Txt K mg) (D__law_take : DOk P w K mg base CX0 "_law_take" 1 ["bag", "size"] sp_take) (D__law_same : DOk P w K mg base CX0 "_law_same" 4 ["told", "due"] (sp_same 3)) (D__law_spoilt : DOk P w K mg base CX0 "_law_spoilt" 2 ["bag", "value", "moduli"] sp_spoilt) (D__law_refused : DOk P w K mg base CX0 "_law_refused" 4 ["target", "which", "thing"] (sp_refused K)) (M_is_value : MOk P w K mg base CX0 (tC K) "is_value" 1 ["self", "value"] (sp_isv K)) :
    FnOk P w K mg base CX0 5 f fd ["bag", "target", "values", "moduli"] (sp_outside K) := by
  refine F.ok sc__law_outside (fun vs H Q E h => ?_) (fun cdv A outer s H vs Q E hr h => ?_)
  · obtain ⟨_, _, _, _, _, rfl, _⟩ := h; rfl
  obtain ⟨b, g, l, a, ms, rfl, hb, G, X, ha, nab, kQ⟩ := h
  refine ⟨_, PSs.nox (pss_cons (ps_for PassesOwn.never rfl (pi_range1 rfl T.range (pa_cons pe_int pa_nil)) (pg_name (i := 4) sc__law_outside.nd rfl (Or.inl rfl))
  (pss_cons (ps_set (i := 5) sc__law_outside.nd rfl (Or.inl rfl) (callX D__law_spoilt (hr.mono (by decide)) (passN) (pa_cons (pv 0) (pa_cons (pe_ix (Rk.ixL K) (pv 2) (callX D__law_take (hr.mono (by decide)) (passN) (pa_cons (pv 0) (pa_cons (pe_callB (Rk.len K) rfl T.len PySem.boot_len (pa_cons (pv 2) pa_nil)) pa_nil))) (fun _ _ => rfl)) (pa_cons (pv 3) pa_nil)))))
  (pss_one (ps_if (PW.pt (pw_or (pt_not (pt_val (callX D__law_same (hr.mono (by decide)) (passN) (pa_cons (methX M_is_value (hr.mono (by decide)) (passN) (pv 1) (pa_cons (pv 5) pa_nil)) (pa_cons pe_bl pa_nil))))) (pw_or1 (pt_not (pt_val (callX D__law_refused (hr.mono (by decide)) (passN) (pa_cons (pv 1) (pa_cons pe_int (pa_cons (pv 5) pa_nil)))))))))
  (pss_one (ps_ret pe_bl))
  pss_nil))))
  (pss_cons (ps_for PassesOwn.never rfl (Rk.pl K rfl (pe_lst (pa_cons (pe_un un_neg pe_int) (pa_cons (pe_callB (Rk.len K) rfl T.len PySem.boot_len (pa_cons (pv 2) pa_nil)) (pa_cons (pe_un un_neg (pe_callB (Rk.len K) rfl T.len PySem.boot_len (pa_cons (pv 2) pa_nil))) (pa_cons (pe_op op_add (pe_callB (Rk.len K) rfl T.len PySem.boot_len (pa_cons (pv 2) pa_nil)) (callX D__law_take (hr.mono (by decide)) (passN) (pa_cons (pv 0) (pa_cons pe_int pa_nil)))) (pa_cons (pe_op op_pow pe_int pe_int) (pa_cons (pe_un un_neg (pe_op op_pow pe_int pe_int)) pa_nil)))))))) (pg_name (i := 6) sc__law_outside.nd rfl (Or.inl rfl))
  (pss_one (ps_if (pt_not (pt_val (callX D__law_refused (hr.mono (by decide)) (passN) (pa_cons (pv 1) (pa_cons pe_int (pa_cons (pv 6) pa_nil))))))
  (pss_one (ps_ret pe_bl))
  pss_nil)))
  (pss_one (ps_ret pe_bl)))), ?_⟩
  have few := G.few
  have ple := G.le
  have m32 := m32of G
  have pp := pr_pos G.ok
  walk_at "st"
  refine ⟨by decide, by decide, ?_⟩
  refine for_range (fun i σ H' => ∃ v4 v5 : Option V, σ = [some (.ref b), some (.ref g), some (.ref l), some (.ref a), v4, v5, none] ∧ Bag H' b ∧ But b H H') ⟨none, none, rfl, hb, Rd.But.refl _ _⟩ ?_ ?_
  · rintro i σ H1 hi ⟨v4, v5, rfl, hb1, e1⟩
    have G1 := G.bag hb e1
    have X1 := X.bag hb e1
    obtain ⟨as, a1, a2⟩ := X1.ob
    have al : as.length = pr ms := by rw [a2.len, VL_len]
    have ha1 := e1 a _ nab ha
    walk_at "st"
    refine Rd.len1 (.inl (SqL.of a1)) ?_
    walk_at "st"
    rw [List.length_map, al]
    refine ⟨b, _, rfl, by omega, by omega, hb1, fun x H2 x0 x1 hb2 e2 => ?_⟩
    have hx : x.toNat < pr ms := by omega
    have X2 := X1.bag hb1 e2
    obtain ⟨as, a1, a2⟩ := X2.ob
    have al : as.length = pr ms := by rw [a2.len, VL_len]
    have hv := VL_get hx
    have vv := dg_val G.ok x.toNat
    obtain ⟨c, hc⟩ : ∃ c, as[x.toNat]? = some c := ⟨_, List.getElem?_eq_getElem (by omega)⟩
    have hc2 := a2.row _ c _ hc hv
    have G2 := G1.bag hb1 e2
    have ha2 := e2 a _ nab ha1
    walk_at "st"
    refine Rd.ixL (SqL.of a1) (at_of (j := x.toNat) (v := .ref c) (by omega) (by rw [List.getElem?_map, hc]; rfl)) ?_
    walk_at "st"
    refine ⟨b, c, a, ms, _, rfl, hb2, .inl hc2, vv, ha2, nab, few, m32, fun r w' H3 hb3 e3 h3 no w6 => ?_⟩
    have G3 := G2.bag hb2 e3
    obtain ⟨dx, M, Z, hg, hM, hZ⟩ := G3.ob
    have noA : ∀ {m : Str}, (m == ("moduli" : Str)) = false → (m == ("order" : Str)) = false → (m == ("exponent" : Str)) = false → (m == ("zero" : Str)) = false → (tfs M Z (pr ms : Nat) (lcF ms : Nat)).lookup m = none := fun h1 h2 h3 h4 => tk_no h1 h2 h3 h4 _ _ _ _
    walk_at "st"
    refine ⟨g, dx, _, rfl, hg, noA (by decide +kernel) (by decide +kernel) (by decide +kernel) (by decide +kernel), ?_⟩
    walk_at "st"
    refine ⟨g, r, ms, w', rfl, G3, h3, by omega, fun bb H4 hbb e4 => ?_⟩
    have bf : bb = false := by
      cases bb with
      | false => rfl
      | true => exact absurd (hbb.mp rfl) no
    rw [bf]
    walk_at "st"
    refine ⟨_, _, rfl, .bl _ _, fun H5 e5 => ?_⟩
    have e35 := e4.trans e5
    walk_at "st"
    refine (if_neg (by decide)).mpr ?_
    walk_at "st"
    refine ⟨g, ms, G3.same e35, .inl ⟨r, w', rfl, h3.same e35, by omega, no⟩, fun H6 e6 => ?_⟩
    walk_at "st"
    refine (if_neg (by decide)).mpr ?_
    walk_at "st"
    exact ⟨_, _, rfl, (hb3.same e35).same e6, butSame (((e1.trans e2).trans e3)) (e35.trans e6)⟩
  · rintro σ H1 ⟨v4, v5, rfl, hb1, e1⟩
    have G1 := G.bag hb e1
    have X1 := X.bag hb e1
    obtain ⟨as, a1, a2⟩ := X1.ob
    have al : as.length = pr ms := by rw [a2.len, VL_len]
    walk_at "st"
    refine Rd.len1 (.inl (SqL.of a1)) ?_
    walk_at "st"
    refine Rd.len1 (.inl (SqL.of a1)) ?_
    walk_at "st"
    refine Rd.len1 (.inl (SqL.of a1)) ?_
    walk_at "st"
    refine ⟨b, 1000, rfl, by decide, by decide, hb1, fun x H2 x0 x1 hb2 e2 => ?_⟩
    walk_at "st"
    refine Rd.iC ⟨by decide, by decide, by decide⟩ ?_
    walk_at "st"
    refine Rd.iC ⟨by decide, by decide, by decide⟩ ?_
    walk_at "st"
    have p30 : (10 : Int) ^ Int.toNat 30 = 1000000000000000000000000000000 := by decide
    rw [p30, List.length_map, al]
    refine ⟨(by decide : 6 ≤ sizeLine), fun L hL => ?_⟩
    have G2 := G1.bag hb1 e2
    obtain ⟨ps, hps, nin⟩ : ∃ ps : List Int, ([V.int (-1), V.int ((pr ms : Nat) : Int), V.int (-((pr ms : Nat) : Int)), V.int (((pr ms : Nat) : Int) + x), V.int 1000000000000000000000000000000, V.int (-1000000000000000000000000000000)] : List V) = ps.map V.int ∧ ∀ p ∈ ps, ¬ (0 ≤ p ∧ p < (pr ms : Nat)) := by
      refine ⟨[-1, ((pr ms : Nat) : Int), -((pr ms : Nat) : Int), ((pr ms : Nat) : Int) + x, 1000000000000000000000000000000, -1000000000000000000000000000000], rfl, fun p hp => ?_⟩
      rcases List.mem_cons.mp hp with h | hp
      · omega
      rcases List.mem_cons.mp hp with h | hp
      · omega
      rcases List.mem_cons.mp hp with h | hp
      · omega
      rcases List.mem_cons.mp hp with h | hp
      · omega
      rcases List.mem_cons.mp hp with h | hp
      · omega
      rcases List.mem_cons.mp hp with h | hp
      · omega
      · cases hp
    rw [hps]
    have e3 : Same H2 (upd H2 L (.lst (ps.map V.int))) := Rd.same_mk hL
    have h3 : (upd H2 L (.lst (ps.map V.int))) L = some (.lst (ps.map V.int)) := upd_same
    generalize upd H2 L (.lst (ps.map V.int)) = H3 at e3 h3
    refine Rd.itl' (SqL.of h3) ?_
    refine for_list (K := K) (a := L) (xs := ps.map V.int) (fun i σ H' => ∃ v : Option V, σ = [some (.ref b), some (.ref g), some (.ref l), some (.ref a), v4, v5, v] ∧ Same H3 H') ⟨none, rfl, Same.refl _⟩ (fun i σ H' _ ⟨_, _, e⟩ => SqL.of (e _ _ h3)) ?_ ?_
    · rintro i y σ H4 hy ⟨v, rfl, e4⟩
      obtain ⟨p, hp, rfl⟩ := intAt hy
      have np := nin p (List.mem_of_getElem? hp)
      walk_at "st"
      refine ⟨g, ms, G2.same (e3.trans e4), .inr ⟨p, rfl, np⟩, fun H5 e5 => ?_⟩
      walk_at "st"
      refine (if_neg (by decide)).mpr ?_
      walk_at "st"
      exact ⟨_, rfl, e4.trans e5⟩
    · rintro σ H4 ⟨v, rfl, e4⟩
      walk_at "st"
      exact kQ _ (hb2.same (e3.trans e4)) (butSame (e1.trans e2) (e3.trans e4))
end
end K02

set_option Elab.async false
set_option linter.all false
set_option maxRecDepth 100000
set_option maxHeartbeats 4000000
namespace K02
open PySem L2 Rd GT
local macro_rules | `(tactic| walk_at "st1") => `(tactic| with_reducible first
  | refine' Rd.seq ?_ | refine' Rd.nxt ?_ | refine' Rd.asg ?_ | refine' Rd.nm ?_ | refine' Rd.con ?_ | refine' Rd.op ?_ | refine' Rd.i0 ?_ | refine' Rd.un ?_ | refine' Rd.u0 ?_
  | refine' Rd.eqI ?_ | refine' Rd.neI ?_ | refine' Rd.eqB ?_ | refine' Rd.tst ?_ | refine' Rd.tB_ ?_ | refine' Rd.exb ?_ | refine' Rd.ifS ?_ | refine' Rd.ret ?_ | refine' Rd.retN ?_ | refine' Rd.drop ?_
  | refine' Rd.nil ?_ | refine' Rd.cons ?_ | refine' Rd.cb ?_ | refine' Rd.call ?_ | refine' Rd.callN ?_ | refine' Rd.z2 ?_ | refine' Rd.z3 ?_ | refine' Rd.revA ?_ | refine' Rd.revL ?_ | refine' Rd.star ?_ | refine' Rd.lc2 ?_ | refine' Rd.andT ?_ | refine' Rd.orT ?_ | refine' Rd.notT ?_ | refine' Rd.andV ?_ | refine' Rd.orV ?_ | refine' Rd.notV ?_ | refine' Rd.chain ?_
  | refine' Rd.lst ?_ | refine' Rd.tup ?_ | refine' Rd.for_ ?_ | refine' Rd.rng1 ?_ | refine' Rd.rng2 ?_ | refine' Rd.itl ?_ | refine' Rd.itt ?_ | refine' Rd.sub ?_
  | refine' Rd.lrg ?_ | refine' Rd.rg1 ?_ | refine' Rd.rg2 ?_ | refine' Rd.exi ?_ | refine' Rd.exi2 ?_ | refine' Rd.int1 ?_ | refine' Rd.ex1 ?_ | refine' Rd.ex2 ?_
  | refine' Rd.fld ?_ | refine' Rd.sfld ?_ | refine' Rd.meth ?_ | refine' Rd.make ?_ | refine' Rd.lc ?_ | refine' Rd.bm ?_ | refine' Rd.bm0 ?_ | refine' Rd.bt ?_ | refine' Rd.enT ?_ | refine' Rd.enL ?_)
local macro_rules | `(tactic| walk_at "st") => `(tactic| repeat (first | walk_at "st1" | ((with_reducible refine' Rd.var ?hv ?_); (case hv => rfl))))
local macro_rules | `(tactic| walk_at "sj1") => `(tactic| with_reducible first
  | refine' Rd.seqA ?_ | refine' Rd.seqD ?_ | refine' Rd.seqF ?_ | refine' Rd.seqW ?_ | refine' Rd.nxt ?_ | refine' Rd.asg ?_ | refine' Rd.nm ?_ | refine' Rd.con ?_ | refine' Rd.op ?_ | refine' Rd.i0 ?_ | refine' Rd.un ?_ | refine' Rd.u0 ?_
  | refine' Rd.eqI ?_ | refine' Rd.neI ?_ | refine' Rd.eqB ?_ | refine' Rd.tst ?_ | refine' Rd.tB_ ?_ | refine' Rd.exb ?_ | refine' Rd.ifS ?_ | refine' Rd.ret ?_ | refine' Rd.retN ?_ | refine' Rd.drop ?_
  | refine' Rd.nil ?_ | refine' Rd.cons ?_ | refine' Rd.cb ?_ | refine' Rd.call ?_ | refine' Rd.callN ?_ | refine' Rd.z2 ?_ | refine' Rd.z3 ?_ | refine' Rd.revA ?_ | refine' Rd.revL ?_ | refine' Rd.star ?_ | refine' Rd.lc2 ?_ | refine' Rd.andT ?_ | refine' Rd.orT ?_ | refine' Rd.notT ?_ | refine' Rd.andV ?_ | refine' Rd.orV ?_ | refine' Rd.notV ?_ | refine' Rd.chain ?_
  | refine' Rd.lst ?_ | refine' Rd.tup ?_ | refine' Rd.for_ ?_ | refine' Rd.rng1 ?_ | refine' Rd.rng2 ?_ | refine' Rd.itl ?_ | refine' Rd.itt ?_ | refine' Rd.sub ?_
  | refine' Rd.lrg ?_ | refine' Rd.rg1 ?_ | refine' Rd.rg2 ?_ | refine' Rd.exi ?_ | refine' Rd.exi2 ?_ | refine' Rd.int1 ?_ | refine' Rd.ex1 ?_ | refine' Rd.ex2 ?_
  | refine' Rd.fld ?_ | refine' Rd.sfld ?_ | refine' Rd.meth ?_ | refine' Rd.make ?_ | refine' Rd.lc ?_ | refine' Rd.bm ?_ | refine' Rd.bm0 ?_ | refine' Rd.bt ?_ | refine' Rd.enT ?_ | refine' Rd.enL ?_)
local macro_rules | `(tactic| walk_at "sj") => `(tactic| repeat (first | walk_at "sj1" | ((with_reducible refine' Rd.var ?hv ?_); (case hv => rfl))))
/-! ### the law: sums, differences, multiples -/
def sp_computed (K : PySem.W.Frag) : Sp := sp_outside K
section
variable {P : Program} {w : World} {K : PySem.W.Frag} {mg : Str → Option Value} {base : Heap} {f : Addr} {fd : FuncData}
abbrev s__law_computed : Stmt := (top 38)
theorem sc__law_computed : FnScope ["bag", "target", "values", "moduli", "k", "a", "b", "factor", "plus", "j", "minus", "times"] ["bag", "target", "values", "moduli"] (defScope s__law_computed) := ⟨rfl, rfl, rfl, by decide +kernel, rfl, by decide +kernel, by decide +kernel⟩
theorem ok_computed (F : FnP K "_law_computed" "_law_computed" s__law_computed f fd) (T : Txt K mg) (D__law_take : DOk P w K mg base CX0 "_law_take" 1 ["bag", "size"] sp_take) (D__law_same : DOk P w K mg base CX0 "_law_same" 4 ["told", "due"] (sp_same 3)) (M_plus : MOk P w K mg base CX0 (tC K) "plus" 1 ["self", "left", "right"] (sp_bin K (fun x y => x + y))) (M_minus : MOk P w K mg base CX0 (tC K) "minus" 1 ["self", "left", "right"] (sp_bin K (fun x y => x - y))) (M_times : MOk P w K mg base CX0 (tC K) "times" 1 ["self", "factor", "value"] (sp_times K)) :
    FnOk P w K mg base CX0 5 f fd ["bag", "target", "values", "moduli"] (sp_computed K) := by
  refine F.ok sc__law_computed (fun vs H Q E h => ?_) (fun cdv A outer s H vs Q E hr h => ?_)
  · obtain ⟨_, _, _, _, _, rfl, _⟩ := h; rfl
  obtain ⟨b, g, l, a, ms, rfl, hb, G, X, ha, nab, kQ⟩ := h
  refine ⟨_, PSs.nox (pss_cons (ps_for PassesOwn.never rfl (pi_range1 rfl T.range (pa_cons pe_int pa_nil)) (pg_name (i := 4) sc__law_computed.nd rfl (Or.inl rfl))
  (pss_cons (ps_set (i := 5) sc__law_computed.nd rfl (Or.inr rfl) (pe_ix (Rk.ixL K) (pv 2) (callX D__law_take (hr.mono (by decide)) (passN) (pa_cons (pv 0) (pa_cons (pe_callB (Rk.len K) rfl T.len PySem.boot_len (pa_cons (pv 2) pa_nil)) pa_nil))) (fun _ _ => rfl)))
  (pss_cons (ps_set (i := 6) sc__law_computed.nd rfl (Or.inr rfl) (pe_ix (Rk.ixL K) (pv 2) (callX D__law_take (hr.mono (by decide)) (passN) (pa_cons (pv 0) (pa_cons (pe_callB (Rk.len K) rfl T.len PySem.boot_len (pa_cons (pv 2) pa_nil)) pa_nil))) (fun _ _ => rfl)))
  (pss_cons (ps_set (i := 7) sc__law_computed.nd rfl (Or.inr rfl) (pe_op op_sub (callX D__law_take (hr.mono (by decide)) (passN) (pa_cons (pv 0) (pa_cons pe_int pa_nil))) pe_int))
  (pss_cons (ps_if (pt_cmpR op_eq (callX D__law_take (hr.mono (by decide)) (passN) (pa_cons (pv 0) (pa_cons pe_int pa_nil))) pe_int (nomark _))
  (pss_one (ps_set (i := 7) sc__law_computed.nd rfl (Or.inr rfl) (pe_op op_mul (pe_op op_sub pe_int (pe_op op_mul pe_int (callX D__law_take (hr.mono (by decide)) (passN) (pa_cons (pv 0) (pa_cons pe_int pa_nil))))) (pe_op op_add (pe_op op_pow pe_int pe_int) (callX D__law_take (hr.mono (by decide)) (passN) (pa_cons (pv 0) (pa_cons pe_int pa_nil)))))))
  pss_nil)
  (pss_cons (ps_set (i := 8) sc__law_computed.nd rfl (Or.inl rfl) (pe_callTy (Rk.tup K) rfl T.tuple (by decide +kernel) (pa_cons (pe_lc (own := [("j", 9)]) rfl sc__law_computed.nd (pi_range1 rfl T.range (pa_cons (pe_callB (Rk.len K) rfl T.len PySem.boot_len (pa_cons (pv 3) pa_nil)) pa_nil)) (blkOk_by (own := [("j", 9)]) (N := ["bag", "target", "values", "moduli", "k", "a", "b", "factor", "plus", "j", "minus", "times"]) (sc := defScope s__law_computed) (by decide +kernel)) (fun _ _ _ _ _ => (pg_name (i := 9) sc__law_computed.nd rfl (Or.inl rfl))) (fun _ _ _ _ _ => pts_nil) (fun _ _ _ _ _ => (pe_op op_mod (pe_callTy call_int1 rfl T.int (by decide +kernel) (pa_cons (pe_op op_add (pe_ix (Rk.ixT K) (pv 5) (pv 9) (fun _ _ => rfl)) (pe_ix (Rk.ixT K) (pv 6) (pv 9) (fun _ _ => rfl))) pa_nil)) (pe_ix (Rk.ixL K) (pv 3) (pv 9) (fun _ _ => rfl))))) pa_nil)))
  (pss_cons (ps_set (i := 10) sc__law_computed.nd rfl (Or.inl rfl) (pe_callTy (Rk.tup K) rfl T.tuple (by decide +kernel) (pa_cons (pe_lc (own := [("j", 9)]) rfl sc__law_computed.nd (pi_range1 rfl T.range (pa_cons (pe_callB (Rk.len K) rfl T.len PySem.boot_len (pa_cons (pv 3) pa_nil)) pa_nil)) (blkOk_by (own := [("j", 9)]) (N := ["bag", "target", "values", "moduli", "k", "a", "b", "factor", "plus", "j", "minus", "times"]) (sc := defScope s__law_computed) (by decide +kernel)) (fun _ _ _ _ _ => (pg_name (i := 9) sc__law_computed.nd rfl (Or.inl rfl))) (fun _ _ _ _ _ => pts_nil) (fun _ _ _ _ _ => (pe_op op_mod (pe_callTy call_int1 rfl T.int (by decide +kernel) (pa_cons (pe_op op_sub (pe_ix (Rk.ixT K) (pv 5) (pv 9) (fun _ _ => rfl)) (pe_ix (Rk.ixT K) (pv 6) (pv 9) (fun _ _ => rfl))) pa_nil)) (pe_ix (Rk.ixL K) (pv 3) (pv 9) (fun _ _ => rfl))))) pa_nil)))
  (pss_cons (ps_set (i := 11) sc__law_computed.nd rfl (Or.inl rfl) (pe_callTy (Rk.tup K) rfl T.tuple (by decide +kernel) (pa_cons (pe_lc (own := [("j", 9)]) rfl sc__law_computed.nd (pi_range1 rfl T.range (pa_cons (pe_callB (Rk.len K) rfl T.len PySem.boot_len (pa_cons (pv 3) pa_nil)) pa_nil)) (blkOk_by (own := [("j", 9)]) (N := ["bag", "target", "values", "moduli", "k", "a", "b", "factor", "plus", "j", "minus", "times"]) (sc := defScope s__law_computed) (by decide +kernel)) (fun _ _ _ _ _ => (pg_name (i := 9) sc__law_computed.nd rfl (Or.inl rfl))) (fun _ _ _ _ _ => pts_nil) (fun _ _ _ _ _ => (pe_op op_mod (pe_callTy call_int1 rfl T.int (by decide +kernel) (pa_cons (pe_op op_mul (pv 7) (pe_ix (Rk.ixT K) (pv 5) (pv 9) (fun _ _ => rfl))) pa_nil)) (pe_ix (Rk.ixL K) (pv 3) (pv 9) (fun _ _ => rfl))))) pa_nil)))
  (pss_cons (ps_if (PW.pt (pw_or (pt_not (pt_val (callX D__law_same (hr.mono (by decide)) (passN) (pa_cons (methX M_plus (hr.mono (by decide)) (passN) (pv 1) (pa_cons (pv 5) (pa_cons (pv 6) pa_nil))) (pa_cons (pv 8) pa_nil))))) (pw_or1 (pt_not (pt_val (callX D__law_same (hr.mono (by decide)) (passN) (pa_cons (methX M_minus (hr.mono (by decide)) (passN) (pv 1) (pa_cons (pv 5) (pa_cons (pv 6) pa_nil))) (pa_cons (pv 10) pa_nil))))))))
  (pss_one (ps_ret pe_bl))
  pss_nil)
  (pss_one (ps_if (pt_not (pt_val (callX D__law_same (hr.mono (by decide)) (passN) (pa_cons (methX M_times (hr.mono (by decide)) (passN) (pv 1) (pa_cons (pv 7) (pa_cons (pv 5) pa_nil))) (pa_cons (pv 11) pa_nil)))))
  (pss_one (ps_ret pe_bl))
  pss_nil)))))))))))
  (pss_one (ps_ret pe_bl))), ?_⟩
  have few := G.few
  have ple := G.le
  have m32 := m32of G
  have pp := pr_pos G.ok
  walk_at "st"
  refine ⟨by decide, by decide, ?_⟩
  refine for_range (fun i σ H' => ∃ v4 v5 v6 v7 v8 v9 v10 v11 : Option V, σ = [some (.ref b), some (.ref g), some (.ref l), some (.ref a), v4, v5, v6, v7, v8, v9, v10, v11] ∧ Bag H' b ∧ But b H H') ⟨none, none, none, none, none, none, none, none, rfl, hb, Rd.But.refl _ _⟩ ?_ ?_
  rotate_left
  · rintro σ H1 ⟨_, _, _, _, _, _, _, _, rfl, hb1, e1⟩
    walk_at "st"
    exact kQ _ hb1 e1
  rintro kk σ H1 hi ⟨v4, v5, v6, v7, v8, v9, v10, v11, rfl, hb1, e1⟩
  have pick : ∀ {H' : Hp} {x : Int}, Bag H' b → But b H H' → 0 ≤ x → x < (pr ms : Nat) → ∃ (as : List Addr) (c : Addr), H' l = some (.lst (as.map V.ref)) ∧ atI (as.map V.ref) x = some (.ref c) ∧ H' c = some (.tup ((dg ms x.toNat).map V.int)) := by
    intro H' x hb' e' x0 x1
    obtain ⟨as, a1, a2⟩ := (X.bag hb e').ob
    have al : as.length = pr ms := by rw [a2.len, VL_len]
    obtain ⟨c, hc⟩ : ∃ c, as[x.toNat]? = some c := ⟨_, List.getElem?_eq_getElem (by omega)⟩
    exact ⟨as, c, a1, at_of (j := x.toNat) (by omega) (by rw [List.getElem?_map, hc]; rfl), a2.row _ c _ hc (VL_get (by omega))⟩
  have lenl : ∀ {H' : Hp}, But b H H' → ∃ as : List Addr, H' l = some (.lst (as.map V.ref)) ∧ as.length = pr ms := by
    intro H' e'
    obtain ⟨as, a1, a2⟩ := (X.bag hb e').ob
    exact ⟨as, a1, by rw [a2.len, VL_len]⟩
  walk_at "sj"
  obtain ⟨as1, l1, al1⟩ := lenl e1
  refine Rd.len1 (.inl (SqL.of l1)) ?_
  walk_at "sj"
  rw [List.length_map, al1]
  refine ⟨b, _, rfl, by omega, by omega, hb1, fun x H2 x0 x1 hb2 e2 => ?_⟩
  have e12 := e1.trans e2
  obtain ⟨as2, c, l2, at2, z2⟩ := pick hb2 e12 x0 x1
  walk_at "sj"
  refine Rd.ixL (SqL.of l2) at2 ?_
  walk_at "sj"
  obtain ⟨as2, l2, al2⟩ := lenl e12
  refine Rd.len1 (.inl (SqL.of l2)) ?_
  walk_at "sj"
  rw [List.length_map, al2]
  refine ⟨b, _, rfl, by omega, by omega, hb2, fun y H3 y0 y1 hb3 e3 => ?_⟩
  have e13 := e12.trans e3
  obtain ⟨as3, d, l3, at3, q2⟩ := pick hb3 e13 y0 y1
  have z3 := tupBag (.inl z2) hb2 e3
  walk_at "sj"
  refine Rd.ixL (SqL.of l3) at3 ?_
  walk_at "sj"
  refine ⟨b, 60, rfl, by decide, by decide, hb3, fun u H4 u0 u1 hb4 e4 => ?_⟩
  have e14 := e13.trans e4
  walk_at "sj"
  with_reducible refine Rd.seqJ (fun σ' H' => ∃ n : Int, σ' = [some (.ref b), some (.ref g), some (.ref l), some (.ref a), some (.int (0 + (kk : Int))), some (.ref c), some (.ref d), some (.int n), v8, v9, v10, v11] ∧ Bag H' b ∧ But b H H' ∧ But b H2 H' ∧ But b H3 H') ?_ fun N hN => ?_
  rotate_left
  · walk_at "st"
    refine ⟨b, 3, rfl, by decide, by decide, hb4, fun v H5 v0 v1 hb5 e5 => ?_⟩
    walk_at "st"
    refine Rd.ite_d (fun c3 => ?_) (fun c3 => ?_)
    · walk_at "st"
      refine ⟨b, 2, rfl, by decide, by decide, hb5, fun t H6 t0 t1 hb6 e6 => ?_⟩
      walk_at "st"
      refine Rd.iC (.inl ⟨by decide, by decide⟩) ?_
      walk_at "st"
      refine Rd.iC ⟨by decide, by decide, by decide⟩ ?_
      walk_at "st"
      refine ⟨b, 1000000, rfl, by decide, by decide, hb6, fun r H7 r0 r1 hb7 e7 => ?_⟩
      walk_at "st"
      refine Rd.iC (.inl ⟨by omega, by omega⟩) ?_
      walk_at "st"
      exact hN _ _ ⟨_, rfl, hb7, ((e14.trans e5).trans e6).trans e7, (((e3.trans e4).trans e5).trans e6).trans e7, ((e4.trans e5).trans e6).trans e7⟩
    · walk_at "st"
      exact hN _ _ ⟨_, rfl, hb5, e14.trans e5, (e3.trans e4).trans e5, e4.trans e5⟩
  · rintro σ' H5 ⟨n, rfl, hb5, e15, e25, e35⟩
    have zv := dg_val G.ok x.toNat
    have qv := dg_val G.ok y.toNat
    have nc : c ≠ b := fun h => by
      obtain ⟨x, y, h1, _⟩ := hb2
      rw [h, h1] at z2
      cases z2
    have nd : d ≠ b := fun h => by
      obtain ⟨x, y, h1, _⟩ := hb3
      rw [h, h1] at q2
      cases q2
    replace z2 := e25 c _ nc z2
    replace q2 := e35 d _ nd q2
    have ha2 := e15 a _ nab ha
    have G5 := G.bag hb e15
    generalize dg ms x.toNat = z at zv z2
    generalize dg ms y.toNat = q at qv q2
    have zl := zv.len
    have ql := qv.len
    have s0 : Same H5 H5 := Same.refl _
    walk_at "st"
    refine Rd.len1 (.inl (SqL.of (s0 _ _ ha2))) ?_
    walk_at "st"
    rw [List.length_map]
    refine ⟨by omega, by omega, ?_⟩
    refine Rd.lcMap (fun i => .int ((z.getD i 0 + q.getD i 0) % ms.getD i 0)) (Rd.src_rng _ _ _) (by rw [Rd.rgL_len]; omega) (by intro _; rfl) (fun i y H4 Q3 hy3 e4 q3 => ?_) (fun cp1 K1 hcp1 f1 k1 => ?_)
    · have hi : i < ms.length := by
        have := (List.getElem?_eq_some_iff.mp hy3).1
        rw [Rd.rgL_len] at this
        omega
      rw [Rd.rgL_get (by omega)] at hy3
      cases hy3
      have e7 := s0.trans e4
      have hz : z[i]? = some (z.getD i 0) := by rw [List.getD_eq_getElem?_getD, List.getElem?_eq_getElem (by omega)]; rfl
      have hq : q[i]? = some (q.getD i 0) := by rw [List.getD_eq_getElem?_getD, List.getElem?_eq_getElem (by omega)]; rfl
      have hm : ms[i]? = some (ms.getD i 0) := by rw [List.getD_eq_getElem?_getD, List.getElem?_eq_getElem hi]; rfl
      have m2 := G.ok _ (List.mem_of_getElem? hm)
      have m3 := m32 _ (List.mem_of_getElem? hm)
      have zr := (val_iff.mp zv).2 i _ _ hz hm
      walk_at "st"
      refine Rd.ixT (SqT.of (e7 _ _ z2)) (at_of (j := i) (by omega) (map_get_int hz)) ?_
      walk_at "st"
      refine Rd.ixT (SqT.of (e7 _ _ q2)) (at_of (j := i) (by omega) (map_get_int hq)) ?_
      walk_at "st"
      refine Rd.ixL (SqL.of (e7 _ _ ha2)) (at_of (j := i) (by omega) (map_get_int hm)) ?_
      walk_at "st"
      refine Rd.iC (by show 0 < ms.getD i 0; omega) ?_
      exact q3 _ (Same.refl _)
    have r1 : (List.range (Rd.rgL 0 ((ms.length : Nat) : Int).toNat).length).map (fun i => V.int ((z.getD i 0 + q.getD i 0) % ms.getD i 0)) = (opV (fun x y => x + y) ms z q).map V.int := by
      rw [Rd.rgL_len, rgN]
      have := opV_row (f := fun x y => x + y) (ms := ms) zl ql
      rw [← this, List.map_map]; rfl
    rw [r1] at k1
    walk_at "st"
    refine ⟨cp1, _, rfl, .inl ⟨SqL.of k1, fun t1 ob1 ht1 _ => ?_⟩⟩
    have g1 : Same K1 (upd K1 t1 (.frz ob1 (.tup ((opV (fun x y => x + y) ms z q).map V.int)))) := Rd.same_mk ht1
    have w1 : TupX (upd K1 t1 (.frz ob1 (.tup ((opV (fun x y => x + y) ms z q).map V.int)))) t1 ((opV (fun x y => x + y) ms z q).map V.int) := .inr ⟨_, upd_same⟩
    generalize upd K1 t1 (.frz ob1 (.tup ((opV (fun x y => x + y) ms z q).map V.int))) = L1 at g1 w1
    have s1 := (s0.trans f1).trans g1
    walk_at "st"
    refine Rd.len1 (.inl (SqL.of (s1 _ _ ha2))) ?_
    walk_at "st"
    rw [List.length_map]
    refine ⟨by omega, by omega, ?_⟩
    refine Rd.lcMap (fun i => .int ((z.getD i 0 - q.getD i 0) % ms.getD i 0)) (Rd.src_rng _ _ _) (by rw [Rd.rgL_len]; omega) (by intro _; rfl) (fun i y H4 Q3 hy3 e4 q3 => ?_) (fun cp2 K2 hcp2 f2 k2 => ?_)
    · have hi : i < ms.length := by
        have := (List.getElem?_eq_some_iff.mp hy3).1
        rw [Rd.rgL_len] at this
        omega
      rw [Rd.rgL_get (by omega)] at hy3
      cases hy3
      have e7 := s1.trans e4
      have hz : z[i]? = some (z.getD i 0) := by rw [List.getD_eq_getElem?_getD, List.getElem?_eq_getElem (by omega)]; rfl
      have hq : q[i]? = some (q.getD i 0) := by rw [List.getD_eq_getElem?_getD, List.getElem?_eq_getElem (by omega)]; rfl
      have hm : ms[i]? = some (ms.getD i 0) := by rw [List.getD_eq_getElem?_getD, List.getElem?_eq_getElem hi]; rfl
      have m2 := G.ok _ (List.mem_of_getElem? hm)
      have m3 := m32 _ (List.mem_of_getElem? hm)
      have zr := (val_iff.mp zv).2 i _ _ hz hm
      walk_at "st"
      refine Rd.ixT (SqT.of (e7 _ _ z2)) (at_of (j := i) (by omega) (map_get_int hz)) ?_
      walk_at "st"
      refine Rd.ixT (SqT.of (e7 _ _ q2)) (at_of (j := i) (by omega) (map_get_int hq)) ?_
      walk_at "st"
      refine Rd.ixL (SqL.of (e7 _ _ ha2)) (at_of (j := i) (by omega) (map_get_int hm)) ?_
      walk_at "st"
      refine Rd.iC (by show 0 < ms.getD i 0; omega) ?_
      exact q3 _ (Same.refl _)
    have r2 : (List.range (Rd.rgL 0 ((ms.length : Nat) : Int).toNat).length).map (fun i => V.int ((z.getD i 0 - q.getD i 0) % ms.getD i 0)) = (opV (fun x y => x - y) ms z q).map V.int := by
      rw [Rd.rgL_len, rgN]
      have := opV_row (f := fun x y => x - y) (ms := ms) zl ql
      rw [← this, List.map_map]; rfl
    rw [r2] at k2
    walk_at "st"
    refine ⟨cp2, _, rfl, .inl ⟨SqL.of k2, fun t2 ob2 ht2 _ => ?_⟩⟩
    have g2 : Same K2 (upd K2 t2 (.frz ob2 (.tup ((opV (fun x y => x - y) ms z q).map V.int)))) := Rd.same_mk ht2
    have w2 : TupX (upd K2 t2 (.frz ob2 (.tup ((opV (fun x y => x - y) ms z q).map V.int)))) t2 ((opV (fun x y => x - y) ms z q).map V.int) := .inr ⟨_, upd_same⟩
    generalize upd K2 t2 (.frz ob2 (.tup ((opV (fun x y => x - y) ms z q).map V.int))) = L2 at g2 w2
    have s2 := (s1.trans f2).trans g2
    walk_at "st"
    refine Rd.len1 (.inl (SqL.of (s2 _ _ ha2))) ?_
    walk_at "st"
    rw [List.length_map]
    refine ⟨by omega, by omega, ?_⟩
    refine Rd.lcMap (fun i => .int ((n * z.getD i 0) % ms.getD i 0)) (Rd.src_rng _ _ _) (by rw [Rd.rgL_len]; omega) (by intro _; rfl) (fun i y H4 Q3 hy3 e4 q3 => ?_) (fun cp3 K3 hcp3 f3 k3 => ?_)
    · have hi : i < ms.length := by
        have := (List.getElem?_eq_some_iff.mp hy3).1
        rw [Rd.rgL_len] at this
        omega
      rw [Rd.rgL_get (by omega)] at hy3
      cases hy3
      have e7 := s2.trans e4
      have hz : z[i]? = some (z.getD i 0) := by rw [List.getD_eq_getElem?_getD, List.getElem?_eq_getElem (by omega)]; rfl
      have hq : q[i]? = some (q.getD i 0) := by rw [List.getD_eq_getElem?_getD, List.getElem?_eq_getElem (by omega)]; rfl
      have hm : ms[i]? = some (ms.getD i 0) := by rw [List.getD_eq_getElem?_getD, List.getElem?_eq_getElem hi]; rfl
      have m2 := G.ok _ (List.mem_of_getElem? hm)
      have m3 := m32 _ (List.mem_of_getElem? hm)
      have zr := (val_iff.mp zv).2 i _ _ hz hm
      walk_at "st"
      refine Rd.ixT (SqT.of (e7 _ _ z2)) (at_of (j := i) (by omega) (map_get_int hz)) ?_
      walk_at "st"
      refine Rd.iC (.inr ⟨by omega, by omega⟩) ?_
      walk_at "st"
      refine Rd.ixL (SqL.of (e7 _ _ ha2)) (at_of (j := i) (by omega) (map_get_int hm)) ?_
      walk_at "st"
      refine Rd.iC (by show 0 < ms.getD i 0; omega) ?_
      exact q3 _ (Same.refl _)
    have r3 : (List.range (Rd.rgL 0 ((ms.length : Nat) : Int).toNat).length).map (fun i => V.int ((n * z.getD i 0) % ms.getD i 0)) = (opV (fun x _ => n * x) ms z z).map V.int := by
      rw [Rd.rgL_len, rgN]
      have := opV_row (f := fun x _ => n * x) (ms := ms) zl zl
      rw [← this, List.map_map]; rfl
    rw [r3] at k3
    walk_at "st"
    refine ⟨cp3, _, rfl, .inl ⟨SqL.of k3, fun t3 ob3 ht3 _ => ?_⟩⟩
    have g3 : Same K3 (upd K3 t3 (.frz ob3 (.tup ((opV (fun x _ => n * x) ms z z).map V.int)))) := Rd.same_mk ht3
    have w3 : TupX (upd K3 t3 (.frz ob3 (.tup ((opV (fun x _ => n * x) ms z z).map V.int)))) t3 ((opV (fun x _ => n * x) ms z z).map V.int) := .inr ⟨_, upd_same⟩
    generalize upd K3 t3 (.frz ob3 (.tup ((opV (fun x _ => n * x) ms z z).map V.int))) = L3 at g3 w3
    have s3 := (s2.trans f3).trans g3
    walk_at "st"
    have s23 : Same L1 L3 := ((f2.trans g2).trans f3).trans g3
    have s33 : Same L2 L3 := f3.trans g3
    have p1 := w1.same s23
    have p2 := w2.same s33
    have la : (opV (fun x y => x + y) ms z q).length ≤ 1000 := by rw [opV_len _ zl ql]; omega
    have ls : (opV (fun x y => x - y) ms z q).length ≤ 1000 := by rw [opV_len _ zl ql]; omega
    have lm : (opV (fun x _ => n * x) ms z z).length ≤ 1000 := by rw [opV_len _ zl zl]; omega
    obtain ⟨dx, M, Z, hg, hM, hZ⟩ := G5.ob
    have noA : ∀ {m : Str}, (m == ("moduli" : Str)) = false → (m == ("order" : Str)) = false → (m == ("exponent" : Str)) = false → (m == ("zero" : Str)) = false → (tfs M Z (pr ms : Nat) (lcF ms : Nat)).lookup m = none := fun h1 h2 h3 h4 => tk_no h1 h2 h3 h4 _ _ _ _
    refine ⟨g, dx, _, rfl, s3 _ _ hg, noA (by decide +kernel) (by decide +kernel) (by decide +kernel) (by decide +kernel), ?_⟩
    walk_at "st"
    refine ⟨g, c, d, ms, z, q, rfl, G5.same s3, .inl (s3 _ _ z2), .inl (s3 _ _ q2), zl, ql, fun o1 M1 _ j1 i1 => ?_⟩
    walk_at "st"
    refine ⟨_, _, rfl, (DD.tints i1.x (p1.same j1) la).up, fun M2 j2 => ?_⟩
    have s5 := (s3.trans j1).trans j2
    walk_at "st"
    refine (if_neg (by decide)).mpr ?_
    walk_at "st"
    refine ⟨g, dx, _, rfl, s5 _ _ hg, noA (by decide +kernel) (by decide +kernel) (by decide +kernel) (by decide +kernel), ?_⟩
    walk_at "st"
    refine ⟨g, c, d, ms, z, q, rfl, G5.same s5, .inl (s5 _ _ z2), .inl (s5 _ _ q2), zl, ql, fun o2 M3 _ j3 i3 => ?_⟩
    walk_at "st"
    refine ⟨_, _, rfl, (DD.tints i3.x (p2.same ((j1.trans j2).trans j3)) ls).up, fun M4 j4 => ?_⟩
    have s7 := (s5.trans j3).trans j4
    walk_at "st"
    refine (if_neg (by decide)).mpr ?_
    walk_at "st"
    refine ⟨g, dx, _, rfl, s7 _ _ hg, noA (by decide +kernel) (by decide +kernel) (by decide +kernel) (by decide +kernel), ?_⟩
    walk_at "st"
    refine ⟨g, c, n, ms, z, rfl, G5.same s7, .inl (s7 _ _ z2), zv, fun o3 M5 _ j5 i5 => ?_⟩
    walk_at "st"
    refine ⟨_, _, rfl, (DD.tints i5.x (w3.same ((((j1.trans j2).trans j3).trans j4).trans j5)) lm).up, fun M6 j6 => ?_⟩
    walk_at "st"
    refine (if_neg (by decide)).mpr ?_
    walk_at "st"
    exact ⟨_, _, _, _, _, _, _, _, rfl, hb5.same ((s7.trans j5).trans j6), butSame e15 ((s7.trans j5).trans j6)⟩
end
end K02

set_option Elab.async false
set_option linter.all false
set_option maxRecDepth 100000
set_option maxHeartbeats 4000000
namespace K02
open PySem L2 Rd GT
local macro_rules | `(tactic| walk_at "st1") => `(tactic| with_reducible first
  | refine' Rd.seq ?_ | refine' Rd.nxt ?_ | refine' Rd.asg ?_ | refine' Rd.nm ?_ | refine' Rd.con ?_ | refine' Rd.op ?_ | refine' Rd.i0 ?_ | refine' Rd.un ?_ | refine' Rd.u0 ?_
  | refine' Rd.eqI ?_ | refine' Rd.neI ?_ | refine' Rd.eqB ?_ | refine' Rd.tst ?_ | refine' Rd.tB_ ?_ | refine' Rd.exb ?_ | refine' Rd.ifS ?_ | refine' Rd.ret ?_ | refine' Rd.retN ?_ | refine' Rd.drop ?_
  | refine' Rd.nil ?_ | refine' Rd.cons ?_ | refine' Rd.cb ?_ | refine' Rd.call ?_ | refine' Rd.callN ?_ | refine' Rd.z2 ?_ | refine' Rd.z3 ?_ | refine' Rd.revA ?_ | refine' Rd.revL ?_ | refine' Rd.star ?_ | refine' Rd.lc2 ?_ | refine' Rd.andT ?_ | refine' Rd.orT ?_ | refine' Rd.notT ?_ | refine' Rd.andV ?_ | refine' Rd.orV ?_ | refine' Rd.notV ?_ | refine' Rd.chain ?_
  | refine' Rd.lst ?_ | refine' Rd.tup ?_ | refine' Rd.for_ ?_ | refine' Rd.rng1 ?_ | refine' Rd.rng2 ?_ | refine' Rd.itl ?_ | refine' Rd.itt ?_ | refine' Rd.sub ?_
  | refine' Rd.lrg ?_ | refine' Rd.rg1 ?_ | refine' Rd.rg2 ?_ | refine' Rd.exi ?_ | refine' Rd.exi2 ?_ | refine' Rd.int1 ?_ | refine' Rd.ex1 ?_ | refine' Rd.ex2 ?_
  | refine' Rd.fld ?_ | refine' Rd.sfld ?_ | refine' Rd.meth ?_ | refine' Rd.make ?_ | refine' Rd.lc ?_ | refine' Rd.bm ?_ | refine' Rd.bm0 ?_ | refine' Rd.bt ?_ | refine' Rd.enT ?_ | refine' Rd.enL ?_)
local macro_rules | `(tactic| walk_at "st") => `(tactic| repeat (first | walk_at "st1" | ((with_reducible refine' Rd.var ?hv ?_); (case hv => rfl))))
local macro_rules | `(tactic| walk_at "sj1") => `(tactic| with_reducible first
  | refine' Rd.seqA ?_ | refine' Rd.seqD ?_ | refine' Rd.seqF ?_ | refine' Rd.seqW ?_ | refine' Rd.nxt ?_ | refine' Rd.asg ?_ | refine' Rd.nm ?_ | refine' Rd.con ?_ | refine' Rd.op ?_ | refine' Rd.i0 ?_ | refine' Rd.un ?_ | refine' Rd.u0 ?_
  | refine' Rd.eqI ?_ | refine' Rd.neI ?_ | refine' Rd.eqB ?_ | refine' Rd.tst ?_ | refine' Rd.tB_ ?_ | refine' Rd.exb ?_ | refine' Rd.ifS ?_ | refine' Rd.ret ?_ | refine' Rd.retN ?_ | refine' Rd.drop ?_
  | refine' Rd.nil ?_ | refine' Rd.cons ?_ | refine' Rd.cb ?_ | refine' Rd.call ?_ | refine' Rd.callN ?_ | refine' Rd.z2 ?_ | refine' Rd.z3 ?_ | refine' Rd.revA ?_ | refine' Rd.revL ?_ | refine' Rd.star ?_ | refine' Rd.lc2 ?_ | refine' Rd.andT ?_ | refine' Rd.orT ?_ | refine' Rd.notT ?_ | refine' Rd.andV ?_ | refine' Rd.orV ?_ | refine' Rd.notV ?_ | refine' Rd.chain ?_
  | refine' Rd.lst ?_ | refine' Rd.tup ?_ | refine' Rd.for_ ?_ | refine' Rd.rng1 ?_ | refine' Rd.rng2 ?_ | refine' Rd.itl ?_ | refine' Rd.itt ?_ | refine' Rd.sub ?_
  | refine' Rd.lrg ?_ | refine' Rd.rg1 ?_ | refine' Rd.rg2 ?_ | refine' Rd.exi ?_ | refine' Rd.exi2 ?_ | refine' Rd.int1 ?_ | refine' Rd.ex1 ?_ | refine' Rd.ex2 ?_
  | refine' Rd.fld ?_ | refine' Rd.sfld ?_ | refine' Rd.meth ?_ | refine' Rd.make ?_ | refine' Rd.lc ?_ | refine' Rd.bm ?_ | refine' Rd.bm0 ?_ | refine' Rd.bt ?_ | refine' Rd.enT ?_ | refine' Rd.enL ?_)
local macro_rules | `(tactic| walk_at "sj") => `(tactic| repeat (first | walk_at "sj1" | ((with_reducible refine' Rd.var ?hv ?_); (case hv => rfl))))
/-! ### the law: the group of a target; what is accepted -/
theorem DD.lt {H : Hp} {a b : Addr} {t : List (List Int)} (X : LT H a t) (Y : LT H b t) (z : t.length ≤ 1000) (z2 : ∀ r ∈ t, r.length ≤ 1000) : DD H 2 (.ref a) (.ref b) := by
  obtain ⟨as, h1, r1⟩ := X.ob
  obtain ⟨bs, h2, r2⟩ := Y.ob
  refine .lst h1 h2 (by rw [List.length_map, List.length_map, r1.len, r2.len]) (by rw [List.length_map, r2.len]; exact z) fun i x y hx hy => ?_
  obtain ⟨a, r, rfl, _, q1, g1⟩ := r1.at hx
  obtain ⟨b, r', rfl, _, q2, g2⟩ := r2.at hy
  rw [q1] at q2
  cases q2
  exact DD.tints (.inl g1) (.inl g2) (z2 _ (List.mem_of_getElem? q1))
theorem repX {K : PySem.W.Frag} {H : Hp} {Q : VK} {l : Addr} {k : Int} {z : V} (h1 : TupX H l [z]) (k0 : 0 ≤ k) (k1 : k ≤ 1000) (h : ∀ r H', Same H H' → TupX H' r (List.replicate k.toNat z) → Q (.ref r) H') : Rz.rRepS K (.ref l) (.int k) H Q :=
  ⟨l, k, z, rfl, rfl, h1.sq, k0, k1, fun e => h l H (Same.refl _) (by rw [e]; exact h1), fun _ p hp => h p _ (Rd.same_mk hp) (.inl upd_same)⟩
theorem VL_short {ms : List Int} (o : OkM ms) (p : pr ms ≤ 32) : (VL ms).length ≤ 1000 ∧ ∀ r ∈ VL ms, r.length ≤ 1000 := by
  refine ⟨by rw [VL_len]; omega, fun r hr => ?_⟩
  rw [((VL_mem o).mp hr).len]
  have := few_of o p
  omega
def sp_grouped (K : PySem.W.Frag) : Sp := fun vs H Q _ => ∃ (g a : Addr) (ms : List Int), vs = [.ref g, .ref a] ∧ TgtAt (tC K) H g ms ∧ H a = some (.lst (ms.map V.int)) ∧ ∀ H', Same H H' → Q (.bl true) H'
section
variable {P : Program} {w : World} {K : PySem.W.Frag} {mg : Str → Option Value} {base : Heap} {f : Addr} {fd : FuncData}
abbrev s__law_grouped : Stmt := (top 39)
theorem sc__law_grouped : FnScope ["target", "moduli", "table", "group", "row"] ["target", "moduli"] (defScope s__law_grouped) := ⟨rfl, rfl, rfl, by decide +kernel, rfl, by decide +kernel, by decide +kernel⟩
theorem ok_grouped (F : FnP K "_law_grouped" "_law_grouped" s__law_grouped f fd) (T : Txt K mg) (T4 : Txt4 K mg) (D__law_target_table : DOk P w K mg base CX0 "_law_target_table" 2 ["moduli"] sp_ltab) (D__law_same : DOk P w K mg base CX0 "_law_same" 4 ["told", "due"] (sp_same 3)) (M_as_group : MOk P w K mg base CX0 (tC K) "as_group" 4 ["self"] (sp_asg K)) (M_Teq : EqOk P w K mg base CX0 (tC K) 1 ["self", "other"] (sp_teq K)) (M_Geq : EqOk P w K mg base CX0 (gC K) 1 ["self", "other"] (sp_geq K)) :
    FnOk P w K mg base CX0 5 f fd ["target", "moduli"] (sp_grouped K) := by
  refine F.ok sc__law_grouped (fun vs H Q E h => ?_) (fun cdv A outer s H vs Q E hr h => ?_)
  · obtain ⟨_, _, _, rfl, _⟩ := h; rfl
  obtain ⟨g, a, ms, rfl, G, ha, kQ⟩ := h
  refine ⟨_, PSs.nox (pss_cons (ps_set (i := 2) sc__law_grouped.nd rfl (Or.inl rfl) (callX D__law_target_table (hr.mono (by decide)) (passN) (pa_cons (pv 1) pa_nil)))
  (pss_cons (ps_set (i := 3) sc__law_grouped.nd rfl (Or.inl rfl) (methX0 M_as_group (hr.mono (by decide)) (passN) (pv 0)))
  (pss_cons (ps_if (PW.pt (pw_or (pt_not (pt_val (pe_callB (Rk.isi K) rfl T.isinstance (by decide +kernel) (pa_cons (pv 3) (pa_cons (pe_glob (v := .ref (He.ga K "Group")) rfl T4.g_Group rfl) pa_nil))))) (pw_or1 (pt_not (pt_val (callX D__law_same (hr.mono (by decide)) (passN) (pa_cons (Rk.fld K rfl (pv 3) rfl) (pa_cons (pe_callB (Rk.len K) rfl T.len PySem.boot_len (pa_cons (pv 2) pa_nil)) pa_nil))))))))
  (pss_one (ps_ret pe_bl))
  pss_nil)
  (pss_cons (ps_if (pt_not (pt_val (callX D__law_same (hr.mono (by decide)) (passN) (pa_cons (Rk.fld K rfl (pv 3) rfl) (pa_cons (pe_callTy (Rk.tup K) rfl T.tuple (by decide +kernel) (pa_cons (pe_lc (own := [("row", 4)]) rfl sc__law_grouped.nd (Rk.pl K rfl (pv 2)) (blkOk_by (own := [("row", 4)]) (N := ["target", "moduli", "table", "group", "row"]) (sc := defScope s__law_grouped) (by decide +kernel)) (fun _ _ _ _ _ => (pg_name (i := 4) sc__law_grouped.nd rfl (Or.inl rfl))) (fun _ _ _ _ _ => pts_nil) (fun _ _ _ _ _ => (pe_callTy (Rk.tup K) rfl T.tuple (by decide +kernel) (pa_cons (pv 4) pa_nil)))) pa_nil)) pa_nil)))))
  (pss_one (ps_ret pe_bl))
  pss_nil)
  (pss_one (ps_ret (pe_and (callX D__law_same (hr.mono (by decide)) (passN) (pa_cons (pe_cmpR (Rz.op_insEqX M_Teq (hr.mono (by decide)) passN T4.tg) (pv 0) (pv 3) (nomark _)) (pa_cons pe_bl pa_nil))) (pe_one (callX D__law_same (hr.mono (by decide)) (passN) (pa_cons (pe_cmpR (Rz.op_insEqX M_Geq (hr.mono (by decide)) passN T4.gt) (pv 3) (pv 0) (nomark _)) (pa_cons pe_bl pa_nil))))))))))), ?_⟩
  have ple := G.le
  obtain ⟨dx, M, Z, hg, hM, hZ⟩ := G.ob
  have noA : ∀ {m : Str}, (m == ("moduli" : Str)) = false → (m == ("order" : Str)) = false → (m == ("exponent" : Str)) = false → (m == ("zero" : Str)) = false → (tfs M Z (pr ms : Nat) (lcF ms : Nat)).lookup m = none := fun h1 h2 h3 h4 => tk_no h1 h2 h3 h4 _ _ _ _
  walk_at "st"
  refine ⟨a, ms, rfl, ha, G.ok, ple, fun tb H1 e1 XT => ?_⟩
  walk_at "st"
  refine ⟨g, dx, _, rfl, e1 _ _ hg, noA (by decide +kernel) (by decide +kernel) (by decide +kernel) (by decide +kernel), ?_⟩
  walk_at "st"
  refine ⟨g, ms, rfl, G.same e1, fun q H2 e2 GA => ?_⟩
  have e12 := e1.trans e2
  obtain ⟨ta, t1, trows⟩ := (XT.same e2).ob
  have tl : (tabOf (addV ms) (VL ms)).length = pr ms := by rw [tabOf_len, VL_len]
  have rl : ∀ r ∈ tabOf (addV ms) (VL ms), r.length ≤ 1000 := fun r hr => by
    have := (GA.grp.sq.row r hr).1
    omega
  generalize tabOf (addV ms) (VL ms) = t at GA trows tl rl
  have tal : ta.length = pr ms := by rw [trows.len, tl]
  obtain ⟨dq, R, I, rs, hq, hR, hr_, hI⟩ := GA.ob
  walk_at "st"
  refine ⟨.ref q, .ref (gC K), .ref (gC K), .ref (gC K), true, rfl, ?_, .base (.ins hq T.cl T4.ha T4.hn T4.htk T4.hm), T4.kgg, ?_⟩
  · exact .own _
  walk_at "st"
  refine (if_neg (by decide)).mpr ?_
  walk_at "st"
  refine Rd.fld' hq T.cl T.nO (lk_order _ _ _) ?_
  walk_at "st"
  refine Rd.len1 (.inl (SqL.of t1)) ?_
  walk_at "st"
  rw [List.length_map, tal, tl]
  refine ⟨_, _, rfl, .int _ _, fun H3 e3 => ?_⟩
  have e13 := e12.trans e3
  walk_at "st"
  refine (if_neg (by decide)).mpr ?_
  walk_at "st"
  refine Rd.fld' (e3 _ _ hq) T.cl T.nR (lk_rows _ _ _) ?_
  walk_at "st"
  refine Rd.itl' (SqL.of (e3 _ _ t1)) ?_
  refine Rd.lcNew (fun n o => ∃ ob : Obj, ob.dict = none ∧ o = .frz ob (.tup ((t.getD n []).map V.int))) (Rd.src_list (SqL.of (e3 _ _ t1))) (by rw [List.length_map]; omega) (by intro _; rfl) (fun n y H4 Q1 hy e4 q1 => ?_) (fun p ra H4 hp e4 h4 lra hra nd => ?_)
  · obtain ⟨c, r, rfl, h1, h2, h3⟩ := trows.at hy
    walk_at "st"
    refine ⟨c, _, rfl, .inl ⟨SqL.of ((e3.trans e4) _ _ h3), fun l ob hl3 hob => ?_⟩⟩
    exact q1 l _ _ hl3 (Rd.same_mk hl3) (by rw [upd_same]) ⟨ob, hob, by rw [getD_of h2]⟩
  walk_at "st"
  refine ⟨p, _, rfl, .inl ⟨SqL.of h4, fun U oU hU hoU => ?_⟩⟩
  have e5 : Same H4 (upd H4 U (.frz oU (.tup (ra.map V.ref)))) := Rd.same_mk hU
  have hUt : TupN (upd H4 U (.frz oU (.tup (ra.map V.ref)))) U (ra.map V.ref) := TupN.mk hoU
  have rt : Rows TupN (upd H4 U (.frz oU (.tup (ra.map V.ref)))) ra t := ⟨by rw [lra, List.length_map, tal, tl], fun i c r h1 h2 => by
    obtain ⟨_, h6, ob, hob, rfl⟩ := (hra i c h1).1
    rw [getD_of h2] at h6
    exact ⟨ob, hob, by rw [upd_ne (ne_of_none h6 hU)]; exact h6⟩⟩
  generalize upd H4 U (.frz oU (.tup (ra.map V.ref))) = H5 at e5 hUt rt
  have e35 := e4.trans e5
  have e25 := e3.trans e35
  walk_at "st"
  refine ⟨_, _, rfl, DD.ttab (hR.same e25).x hUt.x (hr_.map fun a xs _ h => TupN.same h e25) rt (by omega) rl, fun H6 e6 => ?_⟩
  have e26 := e25.trans e6
  have e16 := e12.trans e26
  have GA6 := GA.same e26
  have G6 := G.same e16
  walk_at "st"
  refine (if_neg (by decide)).mpr ?_
  walk_at "st"
  refine ⟨g, dx, _, q, dq, _, rfl, rfl, e16 _ _ hg, e26 _ _ hq, g, q, ms, rfl, G6, .inr ⟨_, GA6, ?_⟩⟩
  walk_at "st"
  refine ⟨_, _, rfl, .bl _ _, fun H7 e7 => ?_⟩
  walk_at "st"
  refine (if_pos rfl).mpr ?_
  walk_at "st"
  refine ⟨q, dq, _, g, dx, _, rfl, rfl, e7 _ _ (e26 _ _ hq), e7 _ _ (e16 _ _ hg), q, g, _, ms, rfl, GA6.same e7, G6.same e7, ?_⟩
  walk_at "st"
  exact ⟨_, _, rfl, .bl _ _, fun H8 e8 => kQ _ ((e16.trans e7).trans e8)⟩
end
end K02

set_option Elab.async false
set_option linter.all false
set_option maxRecDepth 100000
set_option maxHeartbeats 4000000
namespace K02
open PySem L2 Rd GT
local macro_rules | `(tactic| walk_at "st1") => `(tactic| with_reducible first
  | refine' Rd.seq ?_ | refine' Rd.nxt ?_ | refine' Rd.asg ?_ | refine' Rd.nm ?_ | refine' Rd.con ?_ | refine' Rd.op ?_ | refine' Rd.i0 ?_ | refine' Rd.un ?_ | refine' Rd.u0 ?_
  | refine' Rd.eqI ?_ | refine' Rd.neI ?_ | refine' Rd.eqB ?_ | refine' Rd.tst ?_ | refine' Rd.tB_ ?_ | refine' Rd.exb ?_ | refine' Rd.ifS ?_ | refine' Rd.ret ?_ | refine' Rd.retN ?_ | refine' Rd.drop ?_
  | refine' Rd.nil ?_ | refine' Rd.cons ?_ | refine' Rd.cb ?_ | refine' Rd.call ?_ | refine' Rd.callN ?_ | refine' Rd.z2 ?_ | refine' Rd.z3 ?_ | refine' Rd.revA ?_ | refine' Rd.revL ?_ | refine' Rd.star ?_ | refine' Rd.lc2 ?_ | refine' Rd.andT ?_ | refine' Rd.orT ?_ | refine' Rd.notT ?_ | refine' Rd.andV ?_ | refine' Rd.orV ?_ | refine' Rd.notV ?_ | refine' Rd.chain ?_
  | refine' Rd.lst ?_ | refine' Rd.tup ?_ | refine' Rd.for_ ?_ | refine' Rd.rng1 ?_ | refine' Rd.rng2 ?_ | refine' Rd.itl ?_ | refine' Rd.itt ?_ | refine' Rd.sub ?_
  | refine' Rd.lrg ?_ | refine' Rd.rg1 ?_ | refine' Rd.rg2 ?_ | refine' Rd.exi ?_ | refine' Rd.exi2 ?_ | refine' Rd.int1 ?_ | refine' Rd.ex1 ?_ | refine' Rd.ex2 ?_
  | refine' Rd.fld ?_ | refine' Rd.sfld ?_ | refine' Rd.meth ?_ | refine' Rd.make ?_ | refine' Rd.lc ?_ | refine' Rd.bm ?_ | refine' Rd.bm0 ?_ | refine' Rd.bt ?_ | refine' Rd.enT ?_ | refine' Rd.enL ?_)
local macro_rules | `(tactic| walk_at "st") => `(tactic| repeat (first | walk_at "st1" | ((with_reducible refine' Rd.var ?hv ?_); (case hv => rfl))))
local macro_rules | `(tactic| walk_at "sj1") => `(tactic| with_reducible first
  | refine' Rd.seqA ?_ | refine' Rd.seqD ?_ | refine' Rd.seqF ?_ | refine' Rd.seqW ?_ | refine' Rd.nxt ?_ | refine' Rd.asg ?_ | refine' Rd.nm ?_ | refine' Rd.con ?_ | refine' Rd.op ?_ | refine' Rd.i0 ?_ | refine' Rd.un ?_ | refine' Rd.u0 ?_
  | refine' Rd.eqI ?_ | refine' Rd.neI ?_ | refine' Rd.eqB ?_ | refine' Rd.tst ?_ | refine' Rd.tB_ ?_ | refine' Rd.exb ?_ | refine' Rd.ifS ?_ | refine' Rd.ret ?_ | refine' Rd.retN ?_ | refine' Rd.drop ?_
  | refine' Rd.nil ?_ | refine' Rd.cons ?_ | refine' Rd.cb ?_ | refine' Rd.call ?_ | refine' Rd.callN ?_ | refine' Rd.z2 ?_ | refine' Rd.z3 ?_ | refine' Rd.revA ?_ | refine' Rd.revL ?_ | refine' Rd.star ?_ | refine' Rd.lc2 ?_ | refine' Rd.andT ?_ | refine' Rd.orT ?_ | refine' Rd.notT ?_ | refine' Rd.andV ?_ | refine' Rd.orV ?_ | refine' Rd.notV ?_ | refine' Rd.chain ?_
  | refine' Rd.lst ?_ | refine' Rd.tup ?_ | refine' Rd.for_ ?_ | refine' Rd.rng1 ?_ | refine' Rd.rng2 ?_ | refine' Rd.itl ?_ | refine' Rd.itt ?_ | refine' Rd.sub ?_
  | refine' Rd.lrg ?_ | refine' Rd.rg1 ?_ | refine' Rd.rg2 ?_ | refine' Rd.exi ?_ | refine' Rd.exi2 ?_ | refine' Rd.int1 ?_ | refine' Rd.ex1 ?_ | refine' Rd.ex2 ?_
  | refine' Rd.fld ?_ | refine' Rd.sfld ?_ | refine' Rd.meth ?_ | refine' Rd.make ?_ | refine' Rd.lc ?_ | refine' Rd.bm ?_ | refine' Rd.bm0 ?_ | refine' Rd.bt ?_ | refine' Rd.enT ?_ | refine' Rd.enL ?_)
local macro_rules | `(tactic| walk_at "sj") => `(tactic| repeat (first | walk_at "sj1" | ((with_reducible refine' Rd.var ?hv ?_); (case hv => rfl))))
def sp_accepted (K : PySem.W.Frag) : Sp := fun vs H Q _ => ∃ (b a : Addr) (ms : List Int), vs = [.ref b, .ref a] ∧ Bag H b ∧ H a = some (.lst (ms.map V.int)) ∧ a ≠ b ∧ OkM ms ∧ pr ms ≤ 32 ∧ ∀ H', Bag H' b → But b H H' → Q (.bl true) H'
theorem butUpd {H : Hp} {p : Addr} {o : HO} : But p H (upd H p o) := fun c u n h => by rw [upd_ne n]; exact h
section
variable {P : Program} {w : World} {K : PySem.W.Frag} {mg : Str → Option Value} {base : Heap} {f : Addr} {fd : FuncData}
abbrev s__law_accepted : Stmt := (top 40)
theorem sc__law_accepted : FnScope ["bag", "moduli", "passed", "target", "values", "due", "told"] ["bag", "moduli"] (defScope s__law_accepted) := ⟨rfl, rfl, rfl, by decide +kernel, rfl, by decide +kernel, by decide +kernel⟩
theorem ok_accepted (F : FnP K "_law_accepted" "_law_accepted" s__law_accepted f fd) (T : Txt K mg) (D_Target : KOk P w K mg base (L2.CX P w) "Target" (tC K) 1 ["self", "moduli"] (sp_tinit K)) (D__law_values : DOk P w K mg base CX0 "_law_values" 1 ["moduli"] sp_lvals) (D__law_common : DOk P w K mg base CX0 "_law_common" 1 ["moduli"] sp_common) (D__law_same : DOk P w K mg base CX0 "_law_same" 4 ["told", "due"] (sp_same 3)) (M_all_values : MOk P w K mg base CX0 (tC K) "all_values" 1 ["self"] (sp_allv K))
    (D__law_numbered : DOk P w K mg base CX0 "_law_numbered" 5 ["target", "values"] (sp_numbered K)) (D__law_outside : DOk P w K mg base CX0 "_law_outside" 5 ["bag", "target", "values", "moduli"] (sp_outside K)) (D__law_computed : DOk P w K mg base CX0 "_law_computed" 5 ["bag", "target", "values", "moduli"] (sp_computed K)) (D__law_take : DOk P w K mg base CX0 "_law_take" 1 ["bag", "size"] sp_take) (D__law_grouped : DOk P w K mg base CX0 "_law_grouped" 5 ["target", "moduli"] (sp_grouped K)) :
    FnOk P w K mg base CX0 6 f fd ["bag", "moduli"] (sp_accepted K) := by
  refine F.ok sc__law_accepted (fun vs H Q E h => ?_) (fun cdv A outer s H vs Q E hr h => ?_)
  · obtain ⟨_, _, _, rfl, _⟩ := h; rfl
  obtain ⟨b, a, ms, rfl, hb, ha, nab, o, ple, kQ⟩ := h
  refine ⟨_, PSs.nox (pss_cons (ps_set (i := 2) sc__law_accepted.nd rfl (Or.inl rfl) (pe_callTy (Rk.lis K) rfl T.list (by decide +kernel) (pa_cons (pv 1) pa_nil)))
  (pss_cons (ps_set (i := 3) sc__law_accepted.nd rfl (Or.inl rfl) (makeX D_Target (hr.mono (by decide)) (passN) (pa_cons (pv 2) pa_nil)))
  (pss_cons (ps_expr (Rk.bm K rfl PySem.F.plainAttrs_list PySem.F.slot_list_append PySem.F.type_list_append mt_append (pv 2) (pa_cons pe_int pa_nil)))
  (pss_cons (ps_asg pe_int (pg_sub (pv 2) pe_int set_list))
  (pss_cons (ps_set (i := 4) sc__law_accepted.nd rfl (Or.inl rfl) (callX D__law_values (hr.mono (by decide)) (passN) (pa_cons (pv 1) pa_nil)))
  (pss_cons (ps_set (i := 5) sc__law_accepted.nd rfl (Or.inl rfl) (pe_tup (pa_cons (pe_callTy (Rk.tup K) rfl T.tuple (by decide +kernel) (pa_cons (pv 1) pa_nil)) (pa_cons (pe_callB (Rk.len K) rfl T.len PySem.boot_len (pa_cons (pv 4) pa_nil)) (pa_cons (callX D__law_common (hr.mono (by decide)) (passN) (pa_cons (pv 1) pa_nil)) (pa_cons (pe_op (Rk.repS K) (pe_tup (pa_cons pe_int pa_nil)) (pe_callB (Rk.len K) rfl T.len PySem.boot_len (pa_cons (pv 1) pa_nil))) pa_nil))))))
  (pss_cons (ps_if (pt_not (pt_val (callX D__law_same (hr.mono (by decide)) (passN) (pa_cons (pe_tup (pa_cons (Rk.fld K rfl (pv 3) rfl) (pa_cons (Rk.fld K rfl (pv 3) rfl) (pa_cons (Rk.fld K rfl (pv 3) rfl) (pa_cons (Rk.fld K rfl (pv 3) rfl) pa_nil))))) (pa_cons (pv 5) pa_nil)))))
  (pss_one (ps_ret pe_bl))
  pss_nil)
  (pss_cons (ps_set (i := 6) sc__law_accepted.nd rfl (Or.inl rfl) (methX0 M_all_values (hr.mono (by decide)) (passN) (pv 3)))
  (pss_cons (ps_if (pt_not (pt_val (callX D__law_same (hr.mono (by decide)) (passN) (pa_cons (pv 6) (pa_cons (pv 4) pa_nil)))))
  (pss_one (ps_ret pe_bl))
  pss_nil)
  (pss_cons (ps_expr (Rk.bm K rfl PySem.F.plainAttrs_list PySem.F.slot_list_append PySem.F.type_list_append mt_append (pv 6) (pa_cons (pe_tup (pa_cons pe_int pa_nil)) pa_nil)))
  (pss_cons (ps_asg (pe_tup (pa_cons pe_int (pa_cons pe_int pa_nil))) (pg_sub (pv 6) pe_int set_list))
  (pss_cons (ps_if (PW.pt (pw_or (pt_not (pt_val (callX D__law_same (hr.mono (by decide)) (passN) (pa_cons (methX0 M_all_values (hr.mono (by decide)) (passN) (pv 3)) (pa_cons (pv 4) pa_nil))))) (pw_or1 (pt_not (pt_val (callX D__law_numbered (hr.mono (by decide)) (passN) (pa_cons (pv 3) (pa_cons (pv 4) pa_nil))))))))
  (pss_one (ps_ret pe_bl))
  pss_nil)
  (pss_cons (ps_if (PW.pt (pw_or (pt_not (pt_val (callX D__law_outside (hr.mono (by decide)) (passN) (pa_cons (pv 0) (pa_cons (pv 3) (pa_cons (pv 4) (pa_cons (pv 1) pa_nil))))))) (pw_or1 (pt_not (pt_val (callX D__law_computed (hr.mono (by decide)) (passN) (pa_cons (pv 0) (pa_cons (pv 3) (pa_cons (pv 4) (pa_cons (pv 1) pa_nil))))))))))
  (pss_one (ps_ret pe_bl))
  pss_nil)
  (pss_cons (ps_if (PW.pt (pw_or (pt_cmpR op_le (pe_callB (Rk.len K) rfl T.len PySem.boot_len (pa_cons (pv 4) pa_nil)) pe_int (nomark _)) (pw_or1 (pt_cmpR op_eq (callX D__law_take (hr.mono (by decide)) (passN) (pa_cons (pv 0) (pa_cons pe_int pa_nil))) pe_int (nomark _)))))
  (pss_one (ps_ret (callX D__law_grouped (hr.mono (by decide)) (passN) (pa_cons (pv 3) (pa_cons (pv 1) pa_nil)))))
  pss_nil)
  (pss_one (ps_ret pe_bl)))))))))))))))), ?_⟩
  have few := few_of o ple
  have big := okBig o ple
  obtain ⟨vz, vz2⟩ := VL_short o ple
  walk_at "st"
  refine ⟨a, _, rfl, .inl (SqL.of ha), fun p hp => ?_⟩
  have e1 : Same H (upd H p (.lst (ms.map V.int))) := Rd.same_mk hp
  have h1 : (upd H p (.lst (ms.map V.int))) p = some (.lst (ms.map V.int)) := upd_same
  generalize upd H p (.lst (ms.map V.int)) = H1 at e1 h1
  walk_at "st"
  intro g dx hg hdx ndx
  have hgH : H g = none := by
    cases z : H g with
    | none => rfl
    | some u => rw [e1 _ _ z] at hg; cases hg
  have e2 : Same H1 (upd (upd H1 dx (.own g)) g (.ins (tC K) dx [])) := (Rd.same_mk hdx).trans (Rd.same_mk (by rw [upd_ne ndx.symm]; exact hg))
  have hgi : (upd (upd H1 dx (.own g)) g (.ins (tC K) dx [])) g = some (.ins (tC K) dx []) := upd_same
  have npg : p ≠ g := fun z => by rw [z, hg] at h1; cases h1
  generalize upd (upd H1 dx (.own g)) g (.ins (tC K) dx []) = H2 at e2 hgi
  refine ⟨g, dx, p, ms, rfl, hgi, e2 _ _ h1, by omega, big, fun no => absurd o no, fun _ q => by omega, fun _ _ H3 e3 GA => ⟨rfl, ?_⟩⟩
  have e13 : Same H H3 := fun c u h => e3 c u (fun z => by rw [z, hgH] at h; cases h) (e2 _ _ (e1 _ _ h))
  have h3 : H3 p = some (.lst (ms.map V.int)) := e3 p _ npg (e2 _ _ h1)
  walk_at "st"
  refine Rd.tyL h3 ?_
  walk_at "st"
  refine Rd.app h3 (by rw [List.length_map]; exact line_of (by omega)) ?_
  have e4 : Same H (upd H3 p (.lst (ms.map V.int ++ [V.int 2]))) := Rd.same_mut e13 hp
  have G4 := GA.but h3 (butUpd (o := .lst (ms.map V.int ++ [V.int 2])))
  have h4 : (upd H3 p (.lst (ms.map V.int ++ [V.int 2]))) p = some (.lst (ms.map V.int ++ [V.int 2])) := upd_same
  generalize upd H3 p (.lst (ms.map V.int ++ [V.int 2])) = H4 at e4 G4 h4
  walk_at "st"
  refine Rd.setL (j := 0) h4 (ixN_of rfl (by rw [List.length_append]; show 0 < _ + 1; omega)) ?_
  have e5 : Same H (upd H4 p (.lst ((ms.map V.int ++ [V.int 2]).set 0 (.int 7)))) := Rd.same_mut e4 hp
  have G5 := G4.but h4 (butUpd (o := .lst ((ms.map V.int ++ [V.int 2]).set 0 (.int 7))))
  generalize upd H4 p (.lst ((ms.map V.int ++ [V.int 2]).set 0 (.int 7))) = H5 at e5 G5
  walk_at "st"
  refine ⟨a, ms, rfl, e5 _ _ ha, o, ple, fun l H6 hl e6 X => ?_⟩
  have e56 := e5.trans e6
  walk_at "st"
  refine ⟨a, _, rfl, .inl ⟨SqL.of (e56 _ _ ha), fun t1 ob1 ht1 _ => ?_⟩⟩
  have e7 : Same H6 (upd H6 t1 (.frz ob1 (.tup (ms.map V.int)))) := Rd.same_mk ht1
  have w1 : TupX (upd H6 t1 (.frz ob1 (.tup (ms.map V.int)))) t1 (ms.map V.int) := .inr ⟨_, upd_same⟩
  generalize upd H6 t1 (.frz ob1 (.tup (ms.map V.int))) = H7 at e7 w1
  have e57 := e56.trans e7
  obtain ⟨as, l1, r1⟩ := (X.same e7).ob
  have al : as.length = pr ms := by rw [r1.len, VL_len]
  walk_at "st"
  refine Rd.len1 (.inl (SqL.of l1)) ?_
  walk_at "st"
  refine ⟨a, ms, rfl, e57 _ _ ha, o, ple, ?_⟩
  walk_at "st"
  refine ⟨(by decide : 1 ≤ sizeLine), fun u hu => ?_⟩
  have e8 : Same H7 (upd H7 u (.tup [.int 0])) := Rd.same_mk hu
  have w2 : TupX (upd H7 u (.tup [.int 0])) u [.int 0] := .inl upd_same
  generalize upd H7 u (.tup [.int 0]) = H8 at e8 w2
  have e58 := e57.trans e8
  walk_at "st"
  refine Rd.len1 (.inl (SqL.of (e58 _ _ ha))) ?_
  walk_at "st"
  rw [List.length_map, List.length_map, al]
  refine repX w2 (by omega) (by omega) fun zt H9 e9 w3 => ?_
  rw [rgN] at w3
  have e59 := e58.trans e9
  walk_at "st"
  refine ⟨(by decide : 4 ≤ sizeLine), fun du hdu => ?_⟩
  have e10 : Same H9 (upd H9 du (.tup [.ref t1, .int (pr ms : Nat), .int (lcF ms : Nat), .ref zt])) := Rd.same_mk hdu
  have w4 : TupX (upd H9 du (.tup [.ref t1, .int (pr ms : Nat), .int (lcF ms : Nat), .ref zt])) du [.ref t1, .int (pr ms : Nat), .int (lcF ms : Nat), .ref zt] := .inl upd_same
  generalize upd H9 du (.tup [.ref t1, .int (pr ms : Nat), .int (lcF ms : Nat), .ref zt]) = H10 at e10 w4
  have s78 := (e8.trans e9).trans e10
  have s5 : Same H5 H10 := ((e6.trans e7).trans s78)
  have w1' := w1.same s78
  have w3' := w3.same e10
  have G10 := G5.same s5
  have X10 := X.same (e7.trans s78)
  have e510 := e59.trans e10
  clear w1 w2 w3 l1 r1 al as
  obtain ⟨dg_, M, Z, hg10, hM, hZ⟩ := G10.ob
  have noA : ∀ {m : Str}, (m == ("moduli" : Str)) = false → (m == ("order" : Str)) = false → (m == ("exponent" : Str)) = false → (m == ("zero" : Str)) = false → (tfs M Z (pr ms : Nat) (lcF ms : Nat)).lookup m = none := fun h1 h2 h3 h4 => tk_no h1 h2 h3 h4 _ _ _ _
  walk_at "st"
  refine Rd.fld' hg10 T.tcl T.tM (tk_moduli _ _ _ _) ?_
  walk_at "st"
  refine Rd.fld' hg10 T.tcl T.tO (tk_order _ _ _ _) ?_
  walk_at "st"
  refine Rd.fld' hg10 T.tcl T.tE (tk_exponent _ _ _ _) ?_
  walk_at "st"
  refine Rd.fld' hg10 T.tcl T.tZ (tk_zero _ _ _ _) ?_
  walk_at "st"
  refine ⟨(by decide : 4 ≤ sizeLine), fun tt htt => ?_⟩
  have e11 : Same H10 (upd H10 tt (.tup [.ref M, .int (pr ms : Nat), .int (lcF ms : Nat), .ref Z])) := Rd.same_mk htt
  have w5 : TupX (upd H10 tt (.tup [.ref M, .int (pr ms : Nat), .int (lcF ms : Nat), .ref Z])) tt [.ref M, .int (pr ms : Nat), .int (lcF ms : Nat), .ref Z] := .inl upd_same
  generalize upd H10 tt (.tup [.ref M, .int (pr ms : Nat), .int (lcF ms : Nat), .ref Z]) = H11 at e11 w5
  walk_at "st"
  have repm : List.replicate ms.length (V.int 0) = (List.replicate ms.length (0 : Int)).map V.int := by rw [List.map_replicate]
  refine ⟨_, _, rfl, .tup w5 (w4.same e11) rfl (by show 4 ≤ 1000; decide) (fun i x y hx hy => ?_), fun H12 e12 => ?_⟩
  · match i, hx, hy with
    | 0, hx, hy => cases hx; cases hy; exact DD.tints ((hM.same e11).x) (w1'.same e11) (by omega)
    | 1, hx, hy => cases hx; cases hy; exact .int _ _
    | 2, hx, hy => cases hx; cases hy; exact .int _ _
    | 3, hx, hy => cases hx; cases hy; exact DD.tints (ns := List.replicate ms.length 0) (by rw [← repm]; exact .inl (e11 _ _ hZ)) (by rw [← repm]; exact w3'.same e11) (by rw [List.length_replicate]; omega)
    | i + 4, hx, hy => cases hx
  have s12 := e11.trans e12
  have G12 := G10.same s12
  have X12 := X10.same s12
  have e512 := e510.trans s12
  have hg12 := s12 _ _ hg10
  clear w4 w5 w1' w3'
  walk_at "st"
  refine (if_neg (by decide)).mpr ?_
  walk_at "st"
  refine ⟨g, dg_, _, rfl, hg12, noA (by decide +kernel) (by decide +kernel) (by decide +kernel) (by decide +kernel), ?_⟩
  refine ⟨g, ms, rfl, G12, fun q H13 hq e13_ Y => ?_⟩
  have hq0 : H12 q = none := hq
  walk_at "st"
  refine ⟨_, _, rfl, DD.lt Y (X12.same e13_) vz vz2, fun H14 e14 => ?_⟩
  have Y14 := Y.same e14
  have s14 := e13_.trans e14
  obtain ⟨bs, y1, y2⟩ := Y14.ob
  have bl_ : bs.length = pr ms := by rw [y2.len, VL_len]
  have pp := pr_pos o
  walk_at "st"
  refine (if_neg (by decide)).mpr ?_
  walk_at "st"
  refine Rd.tyL y1 ?_
  walk_at "st"
  refine ⟨(by decide : 1 ≤ sizeLine), fun c1 hc1 => ?_⟩
  have e15 : Same H14 (upd H14 c1 (.tup [.int 0])) := Rd.same_mk hc1
  generalize upd H14 c1 (.tup [.int 0]) = H15 at e15
  walk_at "st"
  refine Rd.app (e15 _ _ y1) (by rw [List.length_map]; exact line_of (by omega)) ?_
  have s16 : Same H12 (upd H15 q (.lst (bs.map V.ref ++ [V.ref c1]))) := Rd.same_mut (s14.trans e15) hq0
  have h16 : (upd H15 q (.lst (bs.map V.ref ++ [V.ref c1]))) q = some (.lst (bs.map V.ref ++ [V.ref c1])) := upd_same
  generalize upd H15 q (.lst (bs.map V.ref ++ [V.ref c1])) = H16 at s16 h16
  walk_at "st"
  refine ⟨(by decide : 2 ≤ sizeLine), fun c2 hc2 => ?_⟩
  have e17 : Same H16 (upd H16 c2 (.tup [.int 1, .int 1])) := Rd.same_mk hc2
  generalize upd H16 c2 (.tup [.int 1, .int 1]) = H17 at e17
  walk_at "st"
  refine Rd.setL (j := 0) (e17 _ _ h16) (ixN_of rfl (by rw [List.length_append]; show 0 < _ + 1; omega)) ?_
  have s18 : Same H12 (upd H17 q (.lst ((bs.map V.ref ++ [V.ref c1]).set 0 (.ref c2)))) := Rd.same_mut (s16.trans e17) hq0
  generalize upd H17 q (.lst ((bs.map V.ref ++ [V.ref c1]).set 0 (.ref c2))) = H18 at s18
  have G18 := G12.same s18
  have X18 := X12.same s18
  have e518 := e512.trans s18
  walk_at "st"
  refine ⟨g, dg_, _, rfl, s18 _ _ hg12, noA (by decide +kernel) (by decide +kernel) (by decide +kernel) (by decide +kernel), ?_⟩
  refine ⟨g, ms, rfl, G18, fun q2 H19 hq2 e19 Y2 => ?_⟩
  walk_at "st"
  refine ⟨_, _, rfl, DD.lt Y2 (X18.same e19) vz vz2, fun H20 e20 => ?_⟩
  have s20 := e19.trans e20
  walk_at "st"
  refine (if_neg (by decide)).mpr ?_
  walk_at "st"
  refine ⟨g, l, ms, rfl, G18.same s20, X18.same s20, fun H21 e21 => ?_⟩
  have s21 := s20.trans e21
  have e521 := e518.trans s21
  have G21 := G18.same s21
  have X21 := X18.same s21
  have hb21 := hb.same e521
  have ha21 := e521 _ _ ha
  walk_at "st"
  refine (if_neg (by decide)).mpr ?_
  walk_at "st"
  refine ⟨b, g, l, a, ms, rfl, hb21, G21, X21, ha21, nab, fun H22 hb22 e22 => ?_⟩
  have G22 := G21.bag hb21 e22
  have X22 := X21.bag hb21 e22
  have ha22 := e22 a _ nab ha21
  have b22 : But b H H22 := fun c u n h => e22 c u n (e521 _ _ h)
  walk_at "st"
  refine (if_neg (by decide)).mpr ?_
  walk_at "st"
  refine ⟨b, g, l, a, ms, rfl, hb22, G22, X22, ha22, nab, fun H23 hb23 e23 => ?_⟩
  have G23 := G22.bag hb22 e23
  obtain ⟨ls, l1, r1⟩ := (X22.bag hb22 e23).ob
  have ha23 := e23 a _ nab ha22
  have b23 := b22.trans e23
  walk_at "st"
  refine (if_neg (by decide)).mpr ?_
  walk_at "st"
  refine Rd.len1 (.inl (SqL.of l1)) ?_
  walk_at "st"
  refine Rd.ite_d (fun c => ?_) (fun c => ?_)
  · refine (if_pos rfl).mpr ?_
    walk_at "st"
    exact ⟨g, a, ms, rfl, G23, ha23, fun H24 e24 => kQ _ (hb23.same e24) (butSame b23 e24)⟩
  walk_at "st"
  refine ⟨b, 4, rfl, by decide, by decide, hb23, fun x H24 x0 x1 hb24 e24 => ?_⟩
  walk_at "st"
  refine Rd.ite_d (fun c => ?_) (fun c => ?_)
  · walk_at "st"
    exact ⟨g, a, ms, rfl, G23.bag hb23 e24, e24 a _ nab ha23, fun H25 e25 => kQ _ (hb24.same e25) (butSame (b23.trans e24) e25)⟩
  · walk_at "st"
    exact kQ _ hb24 (b23.trans e24)
end
end K02

set_option Elab.async false
set_option linter.all false
set_option maxRecDepth 100000
set_option maxHeartbeats 4000000
namespace K02
open PySem L2 Rd GT
local macro_rules | `(tactic| walk_at "st1") => `(tactic| with_reducible first
  | refine' Rd.seq ?_ | refine' Rd.nxt ?_ | refine' Rd.asg ?_ | refine' Rd.nm ?_ | refine' Rd.con ?_ | refine' Rd.op ?_ | refine' Rd.i0 ?_ | refine' Rd.un ?_ | refine' Rd.u0 ?_
  | refine' Rd.eqI ?_ | refine' Rd.neI ?_ | refine' Rd.eqB ?_ | refine' Rd.tst ?_ | refine' Rd.tB_ ?_ | refine' Rd.exb ?_ | refine' Rd.ifS ?_ | refine' Rd.ret ?_ | refine' Rd.retN ?_ | refine' Rd.drop ?_
  | refine' Rd.nil ?_ | refine' Rd.cons ?_ | refine' Rd.cb ?_ | refine' Rd.call ?_ | refine' Rd.callN ?_ | refine' Rd.z2 ?_ | refine' Rd.z3 ?_ | refine' Rd.revA ?_ | refine' Rd.revL ?_ | refine' Rd.star ?_ | refine' Rd.lc2 ?_ | refine' Rd.andT ?_ | refine' Rd.orT ?_ | refine' Rd.notT ?_ | refine' Rd.andV ?_ | refine' Rd.orV ?_ | refine' Rd.notV ?_ | refine' Rd.chain ?_
  | refine' Rd.lst ?_ | refine' Rd.tup ?_ | refine' Rd.for_ ?_ | refine' Rd.rng1 ?_ | refine' Rd.rng2 ?_ | refine' Rd.itl ?_ | refine' Rd.itt ?_ | refine' Rd.sub ?_
  | refine' Rd.lrg ?_ | refine' Rd.rg1 ?_ | refine' Rd.rg2 ?_ | refine' Rd.exi ?_ | refine' Rd.exi2 ?_ | refine' Rd.int1 ?_ | refine' Rd.ex1 ?_ | refine' Rd.ex2 ?_
  | refine' Rd.fld ?_ | refine' Rd.sfld ?_ | refine' Rd.meth ?_ | refine' Rd.make ?_ | refine' Rd.lc ?_ | refine' Rd.bm ?_ | refine' Rd.bm0 ?_ | refine' Rd.bt ?_ | refine' Rd.enT ?_ | refine' Rd.enL ?_)
local macro_rules | `(tactic| walk_at "st") => `(tactic| repeat (first | walk_at "st1" | ((with_reducible refine' Rd.var ?hv ?_); (case hv => rfl))))
local macro_rules | `(tactic| walk_at "sj1") => `(tactic| with_reducible first
  | refine' Rd.seqA ?_ | refine' Rd.seqD ?_ | refine' Rd.seqF ?_ | refine' Rd.seqW ?_ | refine' Rd.nxt ?_ | refine' Rd.asg ?_ | refine' Rd.nm ?_ | refine' Rd.con ?_ | refine' Rd.op ?_ | refine' Rd.i0 ?_ | refine' Rd.un ?_ | refine' Rd.u0 ?_
  | refine' Rd.eqI ?_ | refine' Rd.neI ?_ | refine' Rd.eqB ?_ | refine' Rd.tst ?_ | refine' Rd.tB_ ?_ | refine' Rd.exb ?_ | refine' Rd.ifS ?_ | refine' Rd.ret ?_ | refine' Rd.retN ?_ | refine' Rd.drop ?_
  | refine' Rd.nil ?_ | refine' Rd.cons ?_ | refine' Rd.cb ?_ | refine' Rd.call ?_ | refine' Rd.callN ?_ | refine' Rd.z2 ?_ | refine' Rd.z3 ?_ | refine' Rd.revA ?_ | refine' Rd.revL ?_ | refine' Rd.star ?_ | refine' Rd.lc2 ?_ | refine' Rd.andT ?_ | refine' Rd.orT ?_ | refine' Rd.notT ?_ | refine' Rd.andV ?_ | refine' Rd.orV ?_ | refine' Rd.notV ?_ | refine' Rd.chain ?_
  | refine' Rd.lst ?_ | refine' Rd.tup ?_ | refine' Rd.for_ ?_ | refine' Rd.rng1 ?_ | refine' Rd.rng2 ?_ | refine' Rd.itl ?_ | refine' Rd.itt ?_ | refine' Rd.sub ?_
  | refine' Rd.lrg ?_ | refine' Rd.rg1 ?_ | refine' Rd.rg2 ?_ | refine' Rd.exi ?_ | refine' Rd.exi2 ?_ | refine' Rd.int1 ?_ | refine' Rd.ex1 ?_ | refine' Rd.ex2 ?_
  | refine' Rd.fld ?_ | refine' Rd.sfld ?_ | refine' Rd.meth ?_ | refine' Rd.make ?_ | refine' Rd.lc ?_ | refine' Rd.bm ?_ | refine' Rd.bm0 ?_ | refine' Rd.bt ?_ | refine' Rd.enT ?_ | refine' Rd.enL ?_)
local macro_rules | `(tactic| walk_at "sj") => `(tactic| repeat (first | walk_at "sj1" | ((with_reducible refine' Rd.var ?hv ?_); (case hv => rfl))))
def sp_compared : Sp := fun vs H Q _ => ∃ (a c : Addr) (ms ns : List Int), vs = [.ref a, .ref c] ∧ H a = some (.lst (ms.map V.int)) ∧ H c = some (.lst (ns.map V.int)) ∧ OkM ms ∧ pr ms ≤ 32 ∧ OkM ns ∧ pr ns ≤ 32 ∧ ∀ H', Same H H' → Q (.bl true) H'
theorem pr_rev : ∀ ms : List Int, pr ms.reverse = pr ms
  | [] => rfl
  | m :: r => by
    rw [List.reverse_cons, pr_append, pr_one, pr_rev r, Nat.mul_comm]; rfl
theorem mkT {K : PySem.W.Frag} {H : Hp} {Q : Addr → Hp → Prop} {p : Addr} {ms : List Int} (h1 : H p = some (.lst (ms.map V.int))) (o : OkM ms) (ple : pr ms ≤ 32) (k : ∀ g H', Same H H' → TgtAt (tC K) H' g ms → Q g H') :
    ∀ x dx, H x = none → H dx = none → dx ≠ x → sp_tinit K (V.ref x :: ([V.ref p] ++ [])) (upd (upd H dx (.own x)) x (.ins (tC K) dx [])) (fun v H2 => v = .non ∧ Q x H2) E0 := by
  intro g dx hg hdx ndx
  have few := few_of o ple
  have e2 : Same H (upd (upd H dx (.own g)) g (.ins (tC K) dx [])) := (Rd.same_mk hdx).trans (Rd.same_mk (by rw [upd_ne ndx.symm]; exact hg))
  have hgi : (upd (upd H dx (.own g)) g (.ins (tC K) dx [])) g = some (.ins (tC K) dx []) := upd_same
  generalize upd (upd H dx (.own g)) g (.ins (tC K) dx []) = H2 at e2 hgi
  exact ⟨g, dx, p, ms, rfl, hgi, e2 _ _ h1, by omega, okBig o ple, fun no => absurd o no, fun _ q => by omega, fun _ _ H3 e3 GA => ⟨rfl, k g H3 (fun c u h => e3 c u (fun z => by rw [z, hg] at h; cases h) (e2 _ _ h)) GA⟩⟩
theorem dcomm (a b : List Int) : decide (a = b) = decide (b = a) := decide_eq_decide.mpr eq_comm
section
variable {P : Program} {w : World} {K : PySem.W.Frag} {mg : Str → Option Value} {base : Heap} {f : Addr} {fd : FuncData}
abbrev s__law_compared : Stmt := (top 41)
theorem sc__law_compared : FnScope ["first", "second", "one", "two", "turned", "k", "order"] ["first", "second"] (defScope s__law_compared) := ⟨rfl, rfl, rfl, by decide +kernel, rfl, by decide +kernel, by decide +kernel⟩
theorem ok_compared (F : FnP K "_law_compared" "_law_compared" s__law_compared f fd) (T : Txt K mg) (D_Target : KOk P w K mg base (L2.CX P w) "Target" (tC K) 1 ["self", "moduli"] (sp_tinit K)) (D__law_values : DOk P w K mg base CX0 "_law_values" 1 ["moduli"] sp_lvals) (D__law_same : DOk P w K mg base CX0 "_law_same" 4 ["told", "due"] (sp_same 3)) (M_Teq : EqOk P w K mg base CX0 (tC K) 1 ["self", "other"] (sp_teq K)) :
    FnOk P w K mg base CX0 5 f fd ["first", "second"] sp_compared := by
  refine F.ok sc__law_compared (fun vs H Q E h => ?_) (fun cdv A outer s H vs Q E hr h => ?_)
  · obtain ⟨_, _, _, _, rfl, _⟩ := h; rfl
  obtain ⟨a, c, ms, ns, rfl, ha, hc, o, ple, o2, ple2, kQ⟩ := h
  refine ⟨_, PSs.nox (pss_cons (ps_set (i := 2) sc__law_compared.nd rfl (Or.inl rfl) (makeX D_Target (hr.mono (by decide)) (passN) (pa_cons (pe_callTy (Rk.lis K) rfl T.list (by decide +kernel) (pa_cons (pv 0) pa_nil)) pa_nil)))
  (pss_cons (ps_set (i := 3) sc__law_compared.nd rfl (Or.inl rfl) (makeX D_Target (hr.mono (by decide)) (passN) (pa_cons (pe_callTy (Rk.lis K) rfl T.list (by decide +kernel) (pa_cons (pv 1) pa_nil)) pa_nil)))
  (pss_cons (ps_setLc (i := 4) (own := [("k", 5)]) rfl sc__law_compared.nd rfl rfl (sw_true rfl rfl rfl (by decide +kernel)) (pi_range1 rfl T.range (pa_cons (pe_callB (Rk.len K) rfl T.len PySem.boot_len (pa_cons (pv 0) pa_nil)) pa_nil)) (blkOk_by (own := [("k", 5)]) (N := ["first", "second", "one", "two", "turned", "k", "order"]) (sc := defScope s__law_compared) (by decide +kernel)) (fun _ _ _ _ _ => (pg_name (i := 5) sc__law_compared.nd rfl (Or.inl rfl))) (fun _ _ _ _ _ => pts_nil) (fun _ _ _ _ _ => (pe_ix (Rk.ixL K) (pv 0) (pe_op op_sub (pe_op op_sub (pe_callB (Rk.len K) rfl T.len PySem.boot_len (pa_cons (pv 0) pa_nil)) pe_int) (pv 5)) (fun _ _ => rfl))))
  (pss_cons (ps_if (PW.pt (pw_or (pt_not (pt_val (callX D__law_same (hr.mono (by decide)) (passN) (pa_cons (pe_cmpR (op_insEq M_Teq (hr.mono (by decide)) passN) (pv 2) (pv 3) (nomark _)) (pa_cons (pe_cmpR (Rk.eqD K rfl (un64 hr)) (pv 0) (pv 1) (nomark _)) pa_nil))))) (pw_or1 (pt_not (pt_val (callX D__law_same (hr.mono (by decide)) (passN) (pa_cons (pe_cmpR (op_insEq M_Teq (hr.mono (by decide)) passN) (pv 3) (pv 2) (nomark _)) (pa_cons (pe_cmpR (Rk.eqD K rfl (un64 hr)) (pv 0) (pv 1) (nomark _)) pa_nil))))))))
  (pss_one (ps_ret pe_bl))
  pss_nil)
  (pss_cons (ps_if (PW.pt (pw_or (pt_not (pt_val (callX D__law_same (hr.mono (by decide)) (passN) (pa_cons (pe_cmpR (op_insEq M_Teq (hr.mono (by decide)) passN) (pv 2) (makeX D_Target (hr.mono (by decide)) (passN) (pa_cons (pv 4) pa_nil)) (nomark _)) (pa_cons (pe_cmpR (Rk.eqD K rfl (un64 hr)) (pv 0) (pv 4) (nomark _)) pa_nil))))) (pw_or1 (pt_not (pt_val (callX D__law_same (hr.mono (by decide)) (passN) (pa_cons (pe_cmpR (op_insEq M_Teq (hr.mono (by decide)) passN) (pv 2) (makeX D_Target (hr.mono (by decide)) (passN) (pa_cons (pe_callTy (Rk.lis K) rfl T.list (by decide +kernel) (pa_cons (pv 0) pa_nil)) pa_nil)) (nomark _)) (pa_cons pe_bl pa_nil))))))))
  (pss_one (ps_ret pe_bl))
  pss_nil)
  (pss_cons (ps_set (i := 6) sc__law_compared.nd rfl (Or.inl rfl) (pe_callB (Rk.len K) rfl T.len PySem.boot_len (pa_cons (callX D__law_values (hr.mono (by decide)) (passN) (pa_cons (pv 0) pa_nil)) pa_nil)))
  (pss_cons (ps_if (PW.pt (pw_and (pt_cmpR op_gt (pv 6) pe_int (nomark _)) (pw_and1 (pt_not (pt_val (callX D__law_same (hr.mono (by decide)) (passN) (pa_cons (pe_cmpR (op_insEq M_Teq (hr.mono (by decide)) passN) (pv 2) (makeX D_Target (hr.mono (by decide)) (passN) (pa_cons (pe_lst (pa_cons (pv 6) pa_nil)) pa_nil)) (nomark _)) (pa_cons (pe_cmpR (Rk.eqD K rfl (un64 hr)) (pv 0) (pe_lst (pa_cons (pv 6) pa_nil)) (nomark _)) pa_nil))))))))
  (pss_one (ps_ret pe_bl))
  pss_nil)
  (pss_one (ps_ret (callX D__law_same (hr.mono (by decide)) (passN) (pa_cons (pe_tup (pa_cons (Rk.fld K rfl (pv 2) rfl) (pa_cons (Rk.fld K rfl (pv 3) rfl) pa_nil))) (pa_cons (pe_tup (pa_cons (pe_callTy (Rk.tup K) rfl T.tuple (by decide +kernel) (pa_cons (pv 0) pa_nil)) (pa_cons (pe_callTy (Rk.tup K) rfl T.tuple (by decide +kernel) (pa_cons (pv 1) pa_nil)) pa_nil))) pa_nil)))))))))))), ?_⟩
  have few := few_of o ple
  have few2 := few_of o2 ple2
  walk_at "st"
  refine ⟨a, _, rfl, .inl (SqL.of ha), fun p hp => ?_⟩
  have e1 : Same H (upd H p (.lst (ms.map V.int))) := Rd.same_mk hp
  have h1 : (upd H p (.lst (ms.map V.int))) p = some (.lst (ms.map V.int)) := upd_same
  generalize upd H p (.lst (ms.map V.int)) = H1 at e1 h1
  walk_at "st"
  refine mkT h1 o ple fun g1 H2 e2 G1 => ?_
  have s2 := e1.trans e2
  clear e1 h1 e2
  walk_at "st"
  refine ⟨c, _, rfl, .inl (SqL.of (s2 _ _ hc)), fun p hp => ?_⟩
  have e1 : Same H2 (upd H2 p (.lst (ns.map V.int))) := Rd.same_mk hp
  have h1 : (upd H2 p (.lst (ns.map V.int))) p = some (.lst (ns.map V.int)) := upd_same
  generalize upd H2 p (.lst (ns.map V.int)) = H3 at e1 h1
  walk_at "st"
  refine mkT h1 o2 ple2 fun g2 H4 e2 G2 => ?_
  replace G1 := G1.same (e1.trans e2)
  have s4 := s2.trans (e1.trans e2)
  clear e1 h1 e2
  walk_at "st"
  refine Rd.len1 (.inl (SqL.of (s4 _ _ ha))) ?_
  walk_at "st"
  rw [List.length_map]
  refine ⟨by omega, by omega, ?_⟩
  refine Rd.lcMap (fun i => .int (ms.getD (ms.length - 1 - i) 0)) (Rd.src_rng _ _ _) (by rw [Rd.rgL_len]; omega) (by intro _; rfl) (fun i y H5 Q3 hy3 e5 q3 => ?_) (fun tp H5 htp e5 h5 => ?_)
  · have hi : i < ms.length := by
      have := (List.getElem?_eq_some_iff.mp hy3).1
      rw [Rd.rgL_len] at this
      omega
    rw [Rd.rgL_get (by omega)] at hy3
    cases hy3
    have hm : ms[ms.length - 1 - i]? = some (ms.getD (ms.length - 1 - i) 0) := by rw [List.getD_eq_getElem?_getD, List.getElem?_eq_getElem (by omega)]; rfl
    walk_at "st"
    refine Rd.len1 (.inl (SqL.of ((s4.trans e5) _ _ ha))) ?_
    walk_at "st"
    rw [List.length_map]
    refine Rd.ixL (SqL.of ((s4.trans e5) _ _ ha)) (at_of (j := ms.length - 1 - i) (by omega) (map_get_int hm)) ?_
    exact q3 _ (Same.refl _)
  have er : (List.range (Rd.rgL 0 ((ms.length : Nat) : Int).toNat).length).map (fun i => V.int (ms.getD (ms.length - 1 - i) 0)) = (ms.reverse).map V.int := by
    rw [Rd.rgL_len, rgN]
    refine List.ext_getElem? fun i => ?_
    rw [List.getElem?_map, List.getElem?_map]
    by_cases ci : i < ms.length
    · rw [List.getElem?_range ci, List.getElem?_reverse ci, List.getElem?_eq_getElem (by omega)]
      show some (V.int (ms.getD (ms.length - 1 - i) 0)) = _
      rw [List.getD_eq_getElem?_getD, List.getElem?_eq_getElem (by omega)]; rfl
    · rw [List.getElem?_eq_none (by rw [List.length_range]; omega), List.getElem?_eq_none (by rw [List.length_reverse]; omega)]; rfl
  rw [er] at h5
  have or_ : OkM ms.reverse := fun m hm => o m (List.mem_reverse.mp hm)
  have pr_ : pr ms.reverse ≤ 32 := by rw [pr_rev]; exact ple
  replace G1 := G1.same e5
  replace G2 := G2.same e5
  have s5 := s4.trans e5
  have eqG : ∀ {H' : Hp} {Q' : VK} {x y : Addr} {u v : List Int}, TgtAt (tC K) H' x u → TgtAt (tC K) H' y v → Q' (.bl (decide (u = v))) H' → Rd.rInsEq (tC K) (sp_teq K) E0 (.ref x) (.ref y) H' Q' := fun {H' Q' x y u v} X Y k => by
    obtain ⟨d1, M1, Z1, g1, _, _⟩ := X.ob
    obtain ⟨d2, M2, Z2, g2, _, _⟩ := Y.ob
    exact ⟨x, d1, _, y, d2, _, rfl, rfl, g1, g2, x, y, u, rfl, X, .inl ⟨v, Y, k⟩⟩
  walk_at "st"
  refine eqG G1 G2 ?_
  walk_at "st"
  refine Rd.eqLL (SqL.of (s5 _ _ ha)) (SqL.of (s5 _ _ hc)) ?_
  walk_at "st"
  refine ⟨_, _, rfl, .bl _ _, fun H6 e6 => ?_⟩
  replace G1 := G1.same e6
  replace G2 := G2.same e6
  have s6 := s5.trans e6
  replace h5 := e6 _ _ h5
  walk_at "st"
  refine (if_neg (by decide)).mpr ?_
  walk_at "st"
  refine eqG G2 G1 ?_
  walk_at "st"
  refine Rd.eqLL (SqL.of (s6 _ _ ha)) (SqL.of (s6 _ _ hc)) ?_
  rw [dcomm ms ns]
  walk_at "st"
  refine ⟨_, _, rfl, .bl _ _, fun H7 e7 => ?_⟩
  replace G1 := G1.same e7
  replace G2 := G2.same e7
  have s7 := s6.trans e7
  replace h5 := e7 _ _ h5
  walk_at "st"
  refine (if_neg (by decide)).mpr ?_
  walk_at "st"
  refine mkT h5 or_ pr_ fun g3 H8 e8 G3 => ?_
  replace G1 := G1.same e8
  replace G2 := G2.same e8
  have s8 := s7.trans e8
  replace h5 := e8 _ _ h5
  refine eqG G1 G3 ?_
  walk_at "st"
  refine Rd.eqLL (SqL.of (s8 _ _ ha)) (SqL.of h5) ?_
  walk_at "st"
  refine ⟨_, _, rfl, .bl _ _, fun H9 e9 => ?_⟩
  replace G1 := G1.same e9
  replace G2 := G2.same e9
  have s9 := s8.trans e9
  walk_at "st"
  refine (if_neg (by decide)).mpr ?_
  walk_at "st"
  refine ⟨a, _, rfl, .inl (SqL.of (s9 _ _ ha)), fun p hp => ?_⟩
  have e1 : Same H9 (upd H9 p (.lst (ms.map V.int))) := Rd.same_mk hp
  have h1 : (upd H9 p (.lst (ms.map V.int))) p = some (.lst (ms.map V.int)) := upd_same
  generalize upd H9 p (.lst (ms.map V.int)) = H10 at e1 h1
  walk_at "st"
  refine mkT h1 o ple fun g4 H11 e2 G4 => ?_
  replace G1 := (G1.same e1).same e2
  replace G2 := (G2.same e1).same e2
  have s11 := (s9.trans e1).trans e2
  clear e1 h1 e2
  refine eqG G1 G4 ?_
  rw [show decide (ms = ms) = true from decide_eq_true rfl]
  walk_at "st"
  refine ⟨_, _, rfl, .bl _ _, fun H12 e12 => ?_⟩
  replace G1 := G1.same e12
  replace G2 := G2.same e12
  have s12 := s11.trans e12
  walk_at "st"
  refine (if_neg (by decide)).mpr ?_
  walk_at "st"
  refine ⟨a, ms, rfl, s12 _ _ ha, o, ple, fun l H13 hl e13 X => ?_⟩
  replace G1 := G1.same e13
  replace G2 := G2.same e13
  have s13 := s12.trans e13
  obtain ⟨as, l1, r1⟩ := X.ob
  have al : as.length = pr ms := by rw [r1.len, VL_len]
  walk_at "st"
  refine Rd.len1 (.inl (SqL.of l1)) ?_
  rw [List.length_map, al]
  walk_at "sj"
  with_reducible refine Rd.seqJ (fun σ' H' => σ' = [some (.ref a), some (.ref c), some (.ref g1), some (.ref g2), some (.ref tp), none, some (.int (pr ms : Nat))] ∧ Same H13 H') ?_ fun N hN => ?_
  · rintro σ' H14 ⟨rfl, e14⟩
    replace G1 := G1.same e14
    replace G2 := G2.same e14
    have s14 := s13.trans e14
    obtain ⟨d1, M1, Z1, q1, m1, _⟩ := G1.ob
    obtain ⟨d2, M2, Z2, q2, m2, _⟩ := G2.ob
    walk_at "st"
    refine Rd.fld' q1 T.tcl T.tM (tk_moduli _ _ _ _) ?_
    walk_at "st"
    refine Rd.fld' q2 T.tcl T.tM (tk_moduli _ _ _ _) ?_
    walk_at "st"
    refine ⟨(by decide : 2 ≤ sizeLine), fun u hu => ?_⟩
    have e15 : Same H14 (upd H14 u (.tup [.ref M1, .ref M2])) := Rd.same_mk hu
    have w1 : TupX (upd H14 u (.tup [.ref M1, .ref M2])) u [.ref M1, .ref M2] := .inl upd_same
    generalize upd H14 u (.tup [.ref M1, .ref M2]) = H15 at e15 w1
    walk_at "st"
    refine ⟨a, _, rfl, .inl ⟨SqL.of ((s14.trans e15) _ _ ha), fun t1 ob1 ht1 _ => ?_⟩⟩
    have e16 : Same H15 (upd H15 t1 (.frz ob1 (.tup (ms.map V.int)))) := Rd.same_mk ht1
    have w2 : TupX (upd H15 t1 (.frz ob1 (.tup (ms.map V.int)))) t1 (ms.map V.int) := .inr ⟨_, upd_same⟩
    generalize upd H15 t1 (.frz ob1 (.tup (ms.map V.int))) = H16 at e16 w2
    walk_at "st"
    refine ⟨c, _, rfl, .inl ⟨SqL.of (((s14.trans e15).trans e16) _ _ hc), fun t2 ob2 ht2 _ => ?_⟩⟩
    have e17 : Same H16 (upd H16 t2 (.frz ob2 (.tup (ns.map V.int)))) := Rd.same_mk ht2
    have w3 : TupX (upd H16 t2 (.frz ob2 (.tup (ns.map V.int)))) t2 (ns.map V.int) := .inr ⟨_, upd_same⟩
    generalize upd H16 t2 (.frz ob2 (.tup (ns.map V.int))) = H17 at e17 w3
    walk_at "st"
    refine ⟨(by decide : 2 ≤ sizeLine), fun v hv => ?_⟩
    have e18 : Same H17 (upd H17 v (.tup [.ref t1, .ref t2])) := Rd.same_mk hv
    have w4 : TupX (upd H17 v (.tup [.ref t1, .ref t2])) v [.ref t1, .ref t2] := .inl upd_same
    generalize upd H17 v (.tup [.ref t1, .ref t2]) = H18 at e18 w4
    have s58 := (e16.trans e17).trans e18
    refine ⟨_, _, rfl, .tup (w1.same s58) w4 rfl (by show 2 ≤ 1000; decide) (fun i x y hx hy => ?_), fun H19 e19 => kQ _ ((s14.trans (e15.trans s58)).trans e19)⟩
    match i, hx, hy with
    | 0, hx, hy => cases hx; cases hy; exact DD.tints (((m1.same e15).same s58).x) (w2.same (e17.trans e18)) (by omega)
    | 1, hx, hy => cases hx; cases hy; exact DD.tints (((m2.same e15).same s58).x) (w3.same e18) (by omega)
    | i + 2, hx, hy => cases hx
  · walk_at "st"
    refine Rd.ite_d (fun co => ?_) (fun co => ?_)
    · have oo : OkM [((pr ms : Nat) : Int)] := fun m hm => by rw [List.mem_singleton.mp hm]; omega
      have po : pr [((pr ms : Nat) : Int)] ≤ 32 := by rw [pr_one]; omega
      walk_at "st"
      refine ⟨(by decide : 1 ≤ sizeLine), fun p hp => ?_⟩
      have e1 : Same H13 (upd H13 p (.lst ([((pr ms : Nat) : Int)].map V.int))) := Rd.same_mk hp
      have h1 : (upd H13 p (.lst ([((pr ms : Nat) : Int)].map V.int))) p = some (.lst ([((pr ms : Nat) : Int)].map V.int)) := upd_same
      walk_at "st"
      refine mkT h1 oo po fun g5 H14 e2 G5 => ?_
      have s14 := e1.trans e2
      refine eqG (G1.same s14) G5 ?_
      walk_at "st"
      refine ⟨(by decide : 1 ≤ sizeLine), fun p2 hp2 => ?_⟩
      have e3 : Same H14 (upd H14 p2 (.lst ([((pr ms : Nat) : Int)].map V.int))) := Rd.same_mk hp2
      have h3 : (upd H14 p2 (.lst ([((pr ms : Nat) : Int)].map V.int))) p2 = some (.lst ([((pr ms : Nat) : Int)].map V.int)) := upd_same
      walk_at "st"
      refine Rd.eqLL (SqL.of ((s13.trans (s14.trans e3)) _ _ ha)) (SqL.of h3) ?_
      walk_at "st"
      refine ⟨_, _, rfl, .bl _ _, fun H15 e4 => ?_⟩
      walk_at "st"
      refine (if_neg (by decide)).mpr ?_
      walk_at "st"
      exact hN _ _ ⟨rfl, (s14.trans e3).trans e4⟩
    · walk_at "st"
      exact hN _ _ ⟨rfl, Same.refl _⟩
end
end K02

set_option Elab.async false
set_option linter.all false
set_option maxRecDepth 100000
set_option maxHeartbeats 4000000
namespace K02
open PySem L2 Rd GT
local macro_rules | `(tactic| walk_at "st1") => `(tactic| with_reducible first
  | refine' Rd.seq ?_ | refine' Rd.nxt ?_ | refine' Rd.asg ?_ | refine' Rd.nm ?_ | refine' Rd.con ?_ | refine' Rd.op ?_ | refine' Rd.i0 ?_ | refine' Rd.un ?_ | refine' Rd.u0 ?_
  | refine' Rd.eqI ?_ | refine' Rd.neI ?_ | refine' Rd.eqB ?_ | refine' Rd.tst ?_ | refine' Rd.tB_ ?_ | refine' Rd.exb ?_ | refine' Rd.ifS ?_ | refine' Rd.ret ?_ | refine' Rd.retN ?_ | refine' Rd.drop ?_
  | refine' Rd.nil ?_ | refine' Rd.cons ?_ | refine' Rd.cb ?_ | refine' Rd.call ?_ | refine' Rd.callN ?_ | refine' Rd.z2 ?_ | refine' Rd.z3 ?_ | refine' Rd.revA ?_ | refine' Rd.revL ?_ | refine' Rd.star ?_ | refine' Rd.lc2 ?_ | refine' Rd.andT ?_ | refine' Rd.orT ?_ | refine' Rd.notT ?_ | refine' Rd.andV ?_ | refine' Rd.orV ?_ | refine' Rd.notV ?_ | refine' Rd.chain ?_
  | refine' Rd.lst ?_ | refine' Rd.tup ?_ | refine' Rd.for_ ?_ | refine' Rd.rng1 ?_ | refine' Rd.rng2 ?_ | refine' Rd.itl ?_ | refine' Rd.itt ?_ | refine' Rd.sub ?_
  | refine' Rd.lrg ?_ | refine' Rd.rg1 ?_ | refine' Rd.rg2 ?_ | refine' Rd.exi ?_ | refine' Rd.exi2 ?_ | refine' Rd.int1 ?_ | refine' Rd.ex1 ?_ | refine' Rd.ex2 ?_
  | refine' Rd.fld ?_ | refine' Rd.sfld ?_ | refine' Rd.meth ?_ | refine' Rd.make ?_ | refine' Rd.lc ?_ | refine' Rd.bm ?_ | refine' Rd.bm0 ?_ | refine' Rd.bt ?_ | refine' Rd.enT ?_ | refine' Rd.enL ?_)
local macro_rules | `(tactic| walk_at "st") => `(tactic| repeat (first | walk_at "st1" | ((with_reducible refine' Rd.var ?hv ?_); (case hv => rfl))))
local macro_rules | `(tactic| walk_at "sj1") => `(tactic| with_reducible first
  | refine' Rd.seqA ?_ | refine' Rd.seqD ?_ | refine' Rd.seqF ?_ | refine' Rd.seqW ?_ | refine' Rd.nxt ?_ | refine' Rd.asg ?_ | refine' Rd.nm ?_ | refine' Rd.con ?_ | refine' Rd.op ?_ | refine' Rd.i0 ?_ | refine' Rd.un ?_ | refine' Rd.u0 ?_
  | refine' Rd.eqI ?_ | refine' Rd.neI ?_ | refine' Rd.eqB ?_ | refine' Rd.tst ?_ | refine' Rd.tB_ ?_ | refine' Rd.exb ?_ | refine' Rd.ifS ?_ | refine' Rd.ret ?_ | refine' Rd.retN ?_ | refine' Rd.drop ?_
  | refine' Rd.nil ?_ | refine' Rd.cons ?_ | refine' Rd.cb ?_ | refine' Rd.call ?_ | refine' Rd.callN ?_ | refine' Rd.z2 ?_ | refine' Rd.z3 ?_ | refine' Rd.revA ?_ | refine' Rd.revL ?_ | refine' Rd.star ?_ | refine' Rd.lc2 ?_ | refine' Rd.andT ?_ | refine' Rd.orT ?_ | refine' Rd.notT ?_ | refine' Rd.andV ?_ | refine' Rd.orV ?_ | refine' Rd.notV ?_ | refine' Rd.chain ?_
  | refine' Rd.lst ?_ | refine' Rd.tup ?_ | refine' Rd.for_ ?_ | refine' Rd.rng1 ?_ | refine' Rd.rng2 ?_ | refine' Rd.itl ?_ | refine' Rd.itt ?_ | refine' Rd.sub ?_
  | refine' Rd.lrg ?_ | refine' Rd.rg1 ?_ | refine' Rd.rg2 ?_ | refine' Rd.exi ?_ | refine' Rd.exi2 ?_ | refine' Rd.int1 ?_ | refine' Rd.ex1 ?_ | refine' Rd.ex2 ?_
  | refine' Rd.fld ?_ | refine' Rd.sfld ?_ | refine' Rd.meth ?_ | refine' Rd.make ?_ | refine' Rd.lc ?_ | refine' Rd.bm ?_ | refine' Rd.bm0 ?_ | refine' Rd.bt ?_ | refine' Rd.enT ?_ | refine' Rd.enL ?_)
local macro_rules | `(tactic| walk_at "sj") => `(tactic| repeat (first | walk_at "sj1" | ((with_reducible refine' Rd.var ?hv ?_); (case hv => rfl))))
def sp_law (K : PySem.W.Frag) : Sp := fun vs H Q _ => ∃ (a : Addr) (ns : List Int), vs = [.ref a] ∧ SqL K H a (ns.map V.int) ∧ ns.length ≤ 63 ∧ ∀ H', Q (.bl true) H'
/-- a list of ints that may be handed to a target -/
def Ml (H : Hp) (b c : Addr) (ms : List Int) : Prop := c ≠ b ∧ H c = some (.lst (ms.map V.int)) ∧ ms.length ≤ 64 ∧ BigOk ms
theorem Ml.same {H H' : Hp} {b c : Addr} {ms : List Int} (h : Ml H b c ms) (e : Same H H') : Ml H' b c ms := ⟨h.1, e _ _ h.2.1, h.2.2⟩
theorem Ml.bag {H H' : Hp} {b c : Addr} {ms : List Int} (h : Ml H b c ms) (e : But b H H') : Ml H' b c ms := ⟨h.1, e c _ h.1 h.2.1, h.2.2⟩
/-- a list of such lists -/
structure LL (H : Hp) (b q : Addr) (as : List Addr) : Prop where
  ne : q ≠ b
  ob : H q = some (.lst (as.map V.ref))
  at_ : ∀ c ∈ as, c ≠ q ∧ ∃ ms, Ml H b c ms
theorem LL.same {H H' : Hp} {b q : Addr} {as : List Addr} (h : LL H b q as) (e : Same H H') : LL H' b q as := ⟨h.ne, e _ _ h.ob, fun c hc => by
  obtain ⟨n, ms, m⟩ := h.at_ c hc
  exact ⟨n, ms, m.same e⟩⟩
theorem LL.add {H : Hp} {b q c : Addr} {as : List Addr} {ms : List Int} (h : LL H b q as) (m : Ml H b c ms) (n : c ≠ q) : LL (upd H q (.lst (as.map V.ref ++ [V.ref c]))) b q (as ++ [c]) :=
  ⟨h.ne, by rw [upd_same, List.map_append]; rfl, fun d hd => by
    have keep : ∀ {d ms}, d ≠ q → Ml H b d ms → Ml (upd H q (.lst (as.map V.ref ++ [V.ref c]))) b d ms := fun n m => ⟨m.1, by rw [upd_ne n]; exact m.2.1, m.2.2⟩
    rcases List.mem_append.mp hd with hd | hd
    · obtain ⟨n, ms, m⟩ := h.at_ d hd
      exact ⟨n, ms, keep n m⟩
    · rw [List.mem_singleton.mp hd]
      exact ⟨n, ms, keep n m⟩⟩
section
variable {P : Program} {w : World} {K : PySem.W.Frag} {mg : Str → Option Value} {base : Heap} {f : Addr} {fd : FuncData}
abbrev s_law : Stmt := (top 42)
theorem sc_law : FnScope ["script", "bag", "lists", "k", "first", "second", "moduli"] ["script"] (defScope s_law) := ⟨rfl, rfl, rfl, by decide +kernel, rfl, by decide +kernel, by decide +kernel⟩
theorem ok_law (F : FnP K "law" "law" s_law f fd) (T : Txt K mg) (D__law_bag : DOk P w K mg base CX0 "_law_bag" 1 ["script", "k"] (sp_bag K)) (D__law_take : DOk P w K mg base CX0 "_law_take" 1 ["bag", "size"] sp_take) (D__law_list : DOk P w K mg base CX0 "_law_list" 3 ["bag"] sp_list) (D__law_decided : DOk P w K mg base CX0 "_law_decided" 5 ["moduli"] sp_decided) (D__law_due : DOk P w K mg base CX0 "_law_due" 1 ["moduli"] sp_due) (D__law_good : DOk P w K mg base CX0 "_law_good" 2 ["bag"] sp_good) (D__law_accepted : DOk P w K mg base CX0 "_law_accepted" 6 ["bag", "moduli"] (sp_accepted K)) (D__law_compared : DOk P w K mg base CX0 "_law_compared" 5 ["first", "second"] sp_compared) :
    FnOk P w K mg base CX0 7 f fd ["script"] (sp_law K) := by
  refine F.ok sc_law (fun vs H Q E h => ?_) (fun cdv A outer s H vs Q E hr h => ?_)
  · obtain ⟨_, _, rfl, _⟩ := h; rfl
  obtain ⟨a, ns, rfl, hS, n63, kQ⟩ := h
  refine ⟨_, PSs.nox (pss_cons (ps_set (i := 1) sc_law.nd rfl (Or.inl rfl) (callX D__law_bag (hr.mono (by decide)) (passN) (pa_cons (pv 0) (pa_cons pe_int pa_nil))))
  (pss_cons (ps_set (i := 2) sc_law.nd rfl (Or.inl rfl) (pe_lst (pa_cons (pe_lst (pa_cons (pe_op op_add pe_int (callX D__law_take (hr.mono (by decide)) (passN) (pa_cons (pv 1) (pa_cons pe_int pa_nil)))) (pa_cons (pe_op op_sub pe_int (callX D__law_take (hr.mono (by decide)) (passN) (pa_cons (pv 1) (pa_cons pe_int pa_nil)))) pa_nil))) (pa_cons (pe_lst (pa_cons (pe_op op_add pe_int (callX D__law_take (hr.mono (by decide)) (passN) (pa_cons (pv 1) (pa_cons pe_int pa_nil)))) (pa_cons pe_int pa_nil))) pa_nil))))
  (pss_cons (ps_for PassesOwn.never rfl (pi_range2 rfl T.range (pa_cons pe_int (pa_cons (pe_callB (call_min2 rfl) rfl T.min (by decide +kernel) (pa_cons (pe_callB (Rk.len K) rfl T.len PySem.boot_len (pa_cons (pv 0) pa_nil)) (pa_cons pe_int pa_nil))) pa_nil))) (pg_name (i := 3) sc_law.nd rfl (Or.inl rfl))
  (pss_one (ps_expr (Rk.bm K rfl PySem.F.plainAttrs_list PySem.F.slot_list_append PySem.F.type_list_append mt_append (pv 2) (pa_cons (callX D__law_list (hr.mono (by decide)) (passN) (pa_cons (callX D__law_bag (hr.mono (by decide)) (passN) (pa_cons (pv 0) (pa_cons (pv 3) pa_nil))) pa_nil)) pa_nil)))))
  (pss_cons (ps_set (i := 4) sc_law.nd rfl (Or.inl rfl) (callX D__law_list (hr.mono (by decide)) (passN) (pa_cons (callX D__law_bag (hr.mono (by decide)) (passN) (pa_cons (pv 0) (pa_cons pe_int pa_nil))) pa_nil)))
  (pss_cons (ps_set (i := 5) sc_law.nd rfl (Or.inl rfl) (callX D__law_list (hr.mono (by decide)) (passN) (pa_cons (callX D__law_bag (hr.mono (by decide)) (passN) (pa_cons (pv 0) (pa_cons pe_int pa_nil))) pa_nil)))
  (pss_cons (ps_for PassesOwn.never rfl (Rk.pl K rfl (pe_op op_cat (pv 2) (pe_lst (pa_cons (pv 4) (pa_cons (pv 5) pa_nil))))) (pg_name (i := 6) sc_law.nd rfl (Or.inl rfl))
  (pss_one (ps_if (pt_not (pt_val (callX D__law_decided (hr.mono (by decide)) (passN) (pa_cons (pv 6) pa_nil))))
  (pss_one (ps_ret pe_bl))
  pss_nil)))
  (pss_cons (ps_if (pt_cmpR op_gt (callX D__law_due (hr.mono (by decide)) (passN) (pa_cons (pv 4) pa_nil)) pe_int (nomark _))
  (pss_one (ps_set (i := 4) sc_law.nd rfl (Or.inl rfl) (callX D__law_good (hr.mono (by decide)) (passN) (pa_cons (pv 1) pa_nil))))
  pss_nil)
  (pss_cons (ps_if (pt_cmpR op_gt (callX D__law_due (hr.mono (by decide)) (passN) (pa_cons (pv 5) pa_nil)) pe_int (nomark _))
  (pss_one (ps_set (i := 5) sc_law.nd rfl (Or.inl rfl) (callX D__law_good (hr.mono (by decide)) (passN) (pa_cons (pv 1) pa_nil))))
  pss_nil)
  (pss_cons (ps_if (pt_cmpR op_eq (callX D__law_take (hr.mono (by decide)) (passN) (pa_cons (pv 1) (pa_cons pe_int pa_nil))) pe_int (nomark _))
  (pss_one (ps_set (i := 5) sc_law.nd rfl (Or.inl rfl) (pe_callTy (Rk.lis K) rfl T.list (by decide +kernel) (pa_cons (pv 4) pa_nil))))
  pss_nil)
  (pss_cons (ps_if (PW.pt (pw_or (pt_not (pt_val (callX D__law_accepted (hr.mono (by decide)) (passN) (pa_cons (pv 1) (pa_cons (pv 4) pa_nil))))) (pw_or (pt_not (pt_val (callX D__law_accepted (hr.mono (by decide)) (passN) (pa_cons (pv 1) (pa_cons (pv 5) pa_nil))))) (pw_or1 (pt_not (pt_val (callX D__law_accepted (hr.mono (by decide)) (passN) (pa_cons (pv 1) (pa_cons (pe_lst pa_nil) pa_nil)))))))))
  (pss_one (ps_ret pe_bl))
  pss_nil)
  (pss_one (ps_ret (callX D__law_compared (hr.mono (by decide)) (passN) (pa_cons (pv 4) (pa_cons (pv 5) pa_nil))))))))))))))), ?_⟩
  walk_at "sj"
  refine ⟨a, ns, 2, rfl, hS, by decide, by decide, fun b H1 hb0 s1 hb1 => ?_⟩
  walk_at "sj"
  refine ⟨b, 1000000, rfl, by decide, by decide, hb1, fun x1 H2 x10 x11 hb2 e2 => ?_⟩
  walk_at "sj"
  refine ⟨b, 3, rfl, by decide, by decide, hb2, fun x2 H3 x20 x21 hb3 e3 => ?_⟩
  walk_at "sj"
  refine ⟨(by decide : 2 ≤ sizeLine), fun c1 hc1 => ?_⟩
  have fr : ∀ {H' H'' : Hp}, Same H H' → But b H' H'' → Same H H'' := fun {H' H''} s e c u h => e c u (fun z => by rw [z, hb0] at h; cases h) (s _ _ h)
  have s3 := fr (fr s1 e2) e3
  have s4 : Same H3 (upd H3 c1 (.lst ([33 + x1, 1 - x2].map V.int))) := Rd.same_mk hc1
  have m1 : Ml (upd H3 c1 (.lst ([33 + x1, 1 - x2].map V.int))) b c1 [33 + x1, 1 - x2] := ⟨fun z => hb3.ne hc1 z.symm, upd_same, by show 2 ≤ 64; decide, fun m hm => by
    have : (10000000 : Nat) ≤ 2 ^ 140 := by decide
    rcases List.mem_cons.mp hm with h | hm
    · omega
    · rw [List.mem_singleton.mp hm]; omega⟩
  have hb4 := hb3.same s4
  have s4' := s3.trans s4
  show tCons _ _ _ (upd H3 c1 (.lst ([33 + x1, 1 - x2].map V.int))) _
  generalize upd H3 c1 (.lst ([33 + x1, 1 - x2].map V.int)) = H4 at m1 hb4 s4'
  have S : ∀ {H' : Hp}, Same H H' → SqL K H' a (ns.map V.int) := fun e => Same.seq e hS
  clear e2 e3 s4 s3 hb2 hb3 hb1 s1 hc1
  walk_at "sj"
  refine ⟨b, 30, rfl, by decide, by decide, hb4, fun x3 H5 x30 x31 hb5 e5 => ?_⟩
  have s5 := fr s4' e5
  replace m1 := m1.bag e5
  walk_at "sj"
  refine ⟨(by decide : 2 ≤ sizeLine), fun c2 hc2 => ?_⟩
  have n12 : c1 ≠ c2 := fun z => by rw [z] at m1; have := m1.2.1; rw [hc2] at this; cases this
  generalize hH : upd H5 c2 _ = H6
  have e6 : Same H5 H6 := by rw [← hH]; exact Rd.same_mk hc2
  have m2 : Ml H6 b c2 [2 + x3, 1] := by
    rw [← hH]
    refine ⟨fun z => hb5.ne hc2 z.symm, upd_same, by show 2 ≤ 64; decide, fun m hm => ?_⟩
    have : (10000000 : Nat) ≤ 2 ^ 140 := by decide
    rcases List.mem_cons.mp hm with h | hm
    · omega
    · rw [List.mem_singleton.mp hm]; omega
  replace m1 := m1.same e6
  have s6 := s5.trans e6
  have hb6 := hb5.same e6
  clear hH
  walk_at "sj"
  refine ⟨(by decide : 2 ≤ sizeLine), fun q hq => ?_⟩
  have hqH : H q = none := Same.free s6 hq
  generalize hH : upd H6 q _ = H7
  have e7 : Same H6 H7 := by rw [← hH]; exact Rd.same_mk hq
  have nqm : ∀ {c : Addr} {ms : List Int}, Ml H6 b c ms → c ≠ q := fun {c ms} m z => by rw [z] at m; have := m.2.1; rw [hq] at this; cases this
  have L7 : LL H7 b q [c1, c2] := by
    refine ⟨fun z => hb6.ne hq z.symm, by rw [← hH]; exact upd_same, fun c hc => ?_⟩
    rcases List.mem_cons.mp hc with h | hc
    · rw [h]; exact ⟨nqm m1, _, m1.same e7⟩
    · rw [List.mem_singleton.mp hc]; exact ⟨nqm m2, _, m2.same e7⟩
  have s7 := s6.trans e7
  have hb7 := hb6.same e7
  have nbq : b ≠ q := L7.ne.symm
  clear hH m1 m2 e6 e7 s4' s5 s6 hb4 hb5 hb6 nqm e5 hq hc2 n12
  walk_at "sj"
  refine Rd.len1 (.inl (S s7)) ?_
  walk_at "sj"
  rw [List.length_map]
  refine ⟨⟨by decide, by decide, by split <;> omega, by split <;> omega⟩, ?_⟩
  have drawn : ∀ {H8 H9 H10 : Hp} {b2 p : Addr} {ms : List Int}, H8 b2 = none → Same H8 H9 → But b2 H9 H10 → Same H8 H10 := fun {H8 H9 H10 b2 p ms} n s e c u h => e c u (fun z => by rw [z, n] at h; cases h) (s _ _ h)
  refine for_range (fun i σ H' => ∃ (v3 : Option V) (as : List Addr), σ = [some (.ref a), some (.ref b), some (.ref q), v3, none, none, none] ∧ Same H H' ∧ Bag H' b ∧ LL H' b q as ∧ as.length ≤ 2 + i) ⟨none, _, rfl, s7, hb7, L7, Nat.le_refl _⟩ ?_ ?_
  · rintro i σ H8 hi ⟨v3, as, rfl, s8, hb8, L8, l8⟩
    have hi8 : i < 8 := by
      have : (if (11 : Int) < (ns.length : Nat) then (11 : Int) else (ns.length : Nat)) ≤ 11 := by split <;> omega
      omega
    walk_at "st"
    refine Rd.tyL L8.ob ?_
    walk_at "st"
    refine ⟨a, ns, 3 + (i : Int), rfl, S s8, by omega, by omega, fun b2 H9 hb2 s9 hbb => ?_⟩
    walk_at "st"
    refine ⟨b2, rfl, hbb, fun p ms H10 hp _ e10 h10 l64 big => ?_⟩
    have s10 : Same H8 H10 := drawn (p := p) (ms := ms) hb2 s9 e10
    have hp8 : H8 p = none := Same.free s9 hp
    have npb : p ≠ b := fun z => hb8.ne hp8 z.symm
    have npq : p ≠ q := fun z => by rw [z, L8.ob] at hp8; cases hp8
    have L10 := L8.same s10
    walk_at "st"
    refine Rd.app L10.ob (by rw [List.length_map]; exact line_of (by omega)) ?_
    walk_at "st"
    exact ⟨_, as ++ [p], rfl, Rd.same_mut (s8.trans s10) hqH, (hb8.same s10).put nbq, L10.add ⟨npb, h10, l64, big⟩ npq, by rw [List.length_append]; show as.length + 1 ≤ 2 + (i + 1); omega⟩
  rintro σ H8 ⟨v3, as, rfl, s8, hb8, L8, l8⟩
  have l10 : as.length ≤ 20 := by
    have : (if (11 : Int) < (ns.length : Nat) then (11 : Int) else (ns.length : Nat)) ≤ 11 := by split <;> omega
    omega
  clear l8 L7 hb7 s7
  walk_at "sj"
  refine ⟨a, ns, 0, rfl, S s8, by decide, by decide, fun b2 H9 hb2 s9 hbb => ?_⟩
  walk_at "sj"
  refine ⟨b2, rfl, hbb, fun p1 ms1 H10 hp _ e10 h10 l64 big => ?_⟩
  have s10 : Same H8 H10 := drawn (p := p1) (ms := ms1) hb2 s9 e10
  have hp8 : H8 p1 = none := Same.free s9 hp
  have M1 : Ml H10 b p1 ms1 := ⟨fun z => hb8.ne hp8 z.symm, h10, l64, big⟩
  have n1q : p1 ≠ q := fun z => by rw [z, L8.ob] at hp8; cases hp8
  replace L8 := L8.same s10
  replace hb8 := hb8.same s10
  replace s8 := s8.trans s10
  clear hb2 s9 hbb hp e10 h10 l64 big s10 hp8 H9
  walk_at "sj"
  refine ⟨a, ns, 1, rfl, S s8, by decide, by decide, fun b2 H9 hb2 s9 hbb => ?_⟩
  walk_at "sj"
  refine ⟨b2, rfl, hbb, fun p2 ms2 H11 hp _ e10 h10 l64 big => ?_⟩
  have s10 : Same H10 H11 := drawn (p := p2) (ms := ms2) hb2 s9 e10
  have hp8 : H10 p2 = none := Same.free s9 hp
  have M2 : Ml H11 b p2 ms2 := ⟨fun z => hb8.ne hp8 z.symm, h10, l64, big⟩
  have n2q : p2 ≠ q := fun z => by rw [z, L8.ob] at hp8; cases hp8
  replace L8 := L8.same s10
  replace hb8 := hb8.same s10
  replace s8 := s8.trans s10
  replace M1 := M1.same s10
  clear hb2 s9 hbb hp e10 h10 l64 big s10 hp8 H9
  walk_at "sj"
  refine ⟨(by decide : 2 ≤ sizeLine), fun u hu => ?_⟩
  generalize hH : upd H11 u _ = H12
  have e12 : Same H11 H12 := by rw [← hH]; exact Rd.same_mk hu
  have hu12 : H12 u = some (.lst [.ref p1, .ref p2]) := by rw [← hH]; exact upd_same
  replace L8 := L8.same e12
  replace hb8 := hb8.same e12
  replace s8 := s8.trans e12
  replace M1 := M1.same e12
  replace M2 := M2.same e12
  clear hH
  refine ⟨q, u, _, _, rfl, rfl, L8.ob, hu12, by rw [List.length_map]; exact Nat.le_of_lt (Nat.lt_of_le_of_lt (by show as.length + 2 ≤ 1000; omega) (by decide : 1000 < sizeLine)), fun r hr12 => ?_⟩
  generalize hH : upd H12 r _ = H13
  have e13 : Same H12 H13 := by rw [← hH]; exact Rd.same_mk hr12
  have hr13 : H13 r = some (.lst ((as ++ [p1, p2]).map V.ref)) := by rw [← hH, upd_same, List.map_append]; rfl
  replace L8 := L8.same e13
  replace hb8 := hb8.same e13
  replace s8 := s8.trans e13
  replace M1 := M1.same e13
  replace M2 := M2.same e13
  clear hH hr12 hu12 hu
  have all : ∀ c ∈ as ++ [p1, p2], ∃ ms, Ml H13 b c ms := fun c hc => by
    rcases List.mem_append.mp hc with h | h
    · exact (L8.at_ c h).2
    · rcases List.mem_cons.mp h with h | h
      · rw [h]; exact ⟨_, M1⟩
      · rw [List.mem_singleton.mp h]; exact ⟨_, M2⟩
  walk_at "sj"
  refine Rd.itl' (SqL.of hr13) ?_
  refine for_list (K := K) (a := r) (xs := (as ++ [p1, p2]).map V.ref) (fun i σ H' => ∃ v6 : Option V, σ = [some (.ref a), some (.ref b), some (.ref q), v3, some (.ref p1), some (.ref p2), v6] ∧ Same H13 H') ⟨none, rfl, Same.refl _⟩ (fun i σ H' _ ⟨_, _, e⟩ => SqL.of (e _ _ hr13)) ?_ ?_
  · rintro i y σ H14 hy ⟨v6, rfl, e14⟩
    rw [List.getElem?_map] at hy
    obtain ⟨c, hc, rfl⟩ := Option.map_eq_some_iff.mp hy
    obtain ⟨ms, m⟩ := all c (List.mem_of_getElem? hc)
    replace m := m.same e14
    walk_at "st"
    refine ⟨c, ms, rfl, m.2.1, m.2.2.1, m.2.2.2, fun H15 e15 => ?_⟩
    walk_at "st"
    refine (if_neg (by decide)).mpr ?_
    walk_at "st"
    exact ⟨_, rfl, e14.trans e15⟩
  rintro σ H14 ⟨v6, rfl, e14⟩
  replace M1 := M1.same e14
  replace M2 := M2.same e14
  replace hb8 := hb8.same e14
  clear all L8 s8 e13 e14 hr13 e12
  walk_at "sj"
  with_reducible refine Rd.seqJ (fun σ' H' => ∃ (p : Addr) (ms : List Int), σ' = [some (.ref a), some (.ref b), some (.ref q), v3, some (.ref p), some (.ref p2), v6] ∧ Bag H' b ∧ Ml H' b p ms ∧ OkM ms ∧ pr ms ≤ 32 ∧ Ml H' b p2 ms2) ?_ fun N hN => ?_
  rotate_left
  · walk_at "st"
    have big1 : pr ms1 ≤ 32 ∨ 32 < pr ms1 := by omega
    refine ⟨p1, ms1, rfl, M1.2.1, M1.2.2.1, M1.2.2.2, fun no => ?_, fun o l => ?_, fun o l => ?_⟩
    · walk_at "st"
      refine (if_pos (by decide)).mpr ?_
      walk_at "st"
      refine ⟨b, rfl, hb8, fun p ms H15 hp hb15 e15 h15 o pl => ?_⟩
      walk_at "st"
      exact hN _ _ ⟨p, ms, rfl, hb15, ⟨fun z => hb8.ne hp z.symm, h15, by have := few_of o pl; omega, okBig o pl⟩, o, pl, M2.bag e15⟩
    · walk_at "st"
      refine (if_pos (by decide)).mpr ?_
      walk_at "st"
      refine ⟨b, rfl, hb8, fun p ms H15 hp hb15 e15 h15 o pl => ?_⟩
      walk_at "st"
      exact hN _ _ ⟨p, ms, rfl, hb15, ⟨fun z => hb8.ne hp z.symm, h15, by have := few_of o pl; omega, okBig o pl⟩, o, pl, M2.bag e15⟩
    · walk_at "st"
      refine (if_neg (by decide)).mpr ?_
      walk_at "st"
      exact hN _ _ ⟨p1, ms1, rfl, hb8, M1, o, l, M2⟩
  rintro σ' H15 ⟨p3, ms3, rfl, hb15, M3, o3, l3, M2⟩
  walk_at "sj"
  with_reducible refine Rd.seqJ (fun σ' H' => ∃ (p : Addr) (ms : List Int), σ' = [some (.ref a), some (.ref b), some (.ref q), v3, some (.ref p3), some (.ref p), v6] ∧ Bag H' b ∧ Ml H' b p ms ∧ OkM ms ∧ pr ms ≤ 32 ∧ Ml H' b p3 ms3) ?_ fun N hN => ?_
  rotate_left
  · walk_at "st"
    refine ⟨p2, ms2, rfl, M2.2.1, M2.2.2.1, M2.2.2.2, fun no => ?_, fun o l => ?_, fun o l => ?_⟩
    · walk_at "st"
      refine (if_pos (by decide)).mpr ?_
      walk_at "st"
      refine ⟨b, rfl, hb15, fun p ms H16 hp hb16 e16 h16 o pl => ?_⟩
      walk_at "st"
      exact hN _ _ ⟨p, ms, rfl, hb16, ⟨fun z => hb15.ne hp z.symm, h16, by have := few_of o pl; omega, okBig o pl⟩, o, pl, M3.bag e16⟩
    · walk_at "st"
      refine (if_pos (by decide)).mpr ?_
      walk_at "st"
      refine ⟨b, rfl, hb15, fun p ms H16 hp hb16 e16 h16 o pl => ?_⟩
      walk_at "st"
      exact hN _ _ ⟨p, ms, rfl, hb16, ⟨fun z => hb15.ne hp z.symm, h16, by have := few_of o pl; omega, okBig o pl⟩, o, pl, M3.bag e16⟩
    · walk_at "st"
      refine (if_neg (by decide)).mpr ?_
      walk_at "st"
      exact hN _ _ ⟨p2, ms2, rfl, hb15, M2, o, l, M3⟩
  rintro σ' H16 ⟨p4, ms4, rfl, hb16, M4, o4, l4, M3⟩
  walk_at "sj"
  with_reducible refine Rd.seqJ (fun σ' H' => ∃ (p : Addr) (ms : List Int), σ' = [some (.ref a), some (.ref b), some (.ref q), v3, some (.ref p3), some (.ref p), v6] ∧ Bag H' b ∧ Ml H' b p ms ∧ OkM ms ∧ pr ms ≤ 32 ∧ Ml H' b p3 ms3) ?_ fun N hN => ?_
  rotate_left
  · walk_at "st"
    refine ⟨b, 3, rfl, by decide, by decide, hb16, fun x H17 x0 x1 hb17 e17 => ?_⟩
    replace M3 := M3.bag e17
    replace M4 := M4.bag e17
    walk_at "st"
    refine Rd.ite_d (fun c => ?_) (fun c => ?_)
    · walk_at "st"
      refine ⟨p3, _, rfl, .inl (SqL.of M3.2.1), fun p hp => ?_⟩
      have e18 : Same H17 (upd H17 p (.lst (ms3.map V.int))) := Rd.same_mk hp
      walk_at "st"
      exact hN _ _ ⟨p, ms3, rfl, hb17.same e18, ⟨fun z => hb17.ne hp z.symm, upd_same, M3.2.2⟩, o3, l3, M3.same e18⟩
    · walk_at "st"
      exact hN _ _ ⟨p4, ms4, rfl, hb17, M4, o4, l4, M3⟩
  rintro σ' H17 ⟨p5, ms5, rfl, hb17, M5, o5, l5, M3⟩
  walk_at "st"
  refine ⟨b, p3, ms3, rfl, hb17, M3.2.1, M3.1, o3, l3, fun H18 hb18 e18 => ?_⟩
  replace M3 := M3.bag e18
  replace M5 := M5.bag e18
  walk_at "st"
  refine (if_neg (by decide)).mpr ?_
  walk_at "st"
  refine ⟨b, p5, ms5, rfl, hb18, M5.2.1, M5.1, o5, l5, fun H19 hb19 e19 => ?_⟩
  replace M3 := M3.bag e19
  replace M5 := M5.bag e19
  walk_at "st"
  refine (if_neg (by decide)).mpr ?_
  walk_at "st"
  refine ⟨Nat.zero_le _, fun em hem => ?_⟩
  have e20 : Same H19 (upd H19 em (.lst (([] : List Int).map V.int))) := Rd.same_mk hem
  have h20 : (upd H19 em (.lst (([] : List Int).map V.int))) em = some (.lst (([] : List Int).map V.int)) := upd_same
  replace M3 := M3.same e20
  replace M5 := M5.same e20
  walk_at "st"
  refine ⟨b, em, [], rfl, hb19.same e20, h20, fun z => hb19.ne hem z.symm, fun m hm => absurd hm List.not_mem_nil, by decide, fun H21 hb21 e21 => ?_⟩
  replace M3 := M3.bag e21
  replace M5 := M5.bag e21
  walk_at "st"
  refine (if_neg (by decide)).mpr ?_
  walk_at "st"
  exact ⟨p3, p5, ms3, ms5, rfl, M3.2.1, M5.2.1, o3, l3, o5, l5, fun H22 _ => kQ H22⟩
end
end K02

set_option Elab.async false
set_option linter.all false
set_option maxRecDepth 100000
set_option maxHeartbeats 0
namespace K02
open PySem PySem.Spec PyProof.Rows L2 Rd
theorem fnDown {P : Program} {w : World} {K : PySem.W.Frag} {mg : Str → Option Value} {base : Heap} {k : Nat} {f : Addr} {fd : FuncData} {ps : List Str} {sp : Sp} (F : FnOk P w K mg base (L2.CX P w) k f fd ps sp) (h : ∀ vs H Q E, sp vs H Q E → sp vs H Q E0) : FnOk P w K mg base CX0 k f fd ps sp :=
  ⟨F.len, fun A outer s H args us vs Q E hr he hb hv hs => codeAny_mono (F.run A outer s H args us vs Q E0 hr he hb hv (h _ _ _ _ hs)) fun r s' q => by
    cases r with
    | ok fl => cases fl <;> exact q
    | error e =>
      obtain ⟨_, _, _, _, _, _, _, _, _, _, _, _, z⟩ := q
      exact z.elim⟩
def d__has_shape : He.DefD := ⟨("_has_shape", none), "_has_shape", "_has_shape", defArgs s__has_shape, defBody s__has_shape, defScope s__has_shape, [], []⟩
def d__has_identity : He.DefD := ⟨("_has_identity", none), "_has_identity", "_has_identity", defArgs s__has_identity, defBody s__has_identity, defScope s__has_identity, [], []⟩
def d__has_inverses : He.DefD := ⟨("_has_inverses", none), "_has_inverses", "_has_inverses", defArgs s__has_inverses, defBody s__has_inverses, defScope s__has_inverses, [], []⟩
def d__is_associative : He.DefD := ⟨("_is_associative", none), "_is_associative", "_is_associative", defArgs s__is_associative, defBody s__is_associative, defScope s__is_associative, [], []⟩
def d_Group___init__ : He.DefD := ⟨("Group", some "__init__"), "__init__", "Group.__init__", defArgs s_Group___init__, defBody s_Group___init__, defScope s_Group___init__, [], []⟩
def d_Group___eq__ : He.DefD := ⟨("Group", some "__eq__"), "__eq__", "Group.__eq__", defArgs s_Group___eq__, defBody s_Group___eq__, defScope s_Group___eq__, [], []⟩
def d_Target___init__ : He.DefD := ⟨("Target", some "__init__"), "__init__", "Target.__init__", defArgs s_Target___init__, defBody s_Target___init__, defScope s_Target___init__, [], []⟩
def d_Target___eq__ : He.DefD := ⟨("Target", some "__eq__"), "__eq__", "Target.__eq__", defArgs s_Target___eq__, defBody s_Target___eq__, defScope s_Target___eq__, [], []⟩
def d_Target_is_value : He.DefD := ⟨("Target", some "is_value"), "is_value", "Target.is_value", defArgs s_Target_is_value, defBody s_Target_is_value, defScope s_Target_is_value, [], []⟩
def d_Target_plus : He.DefD := ⟨("Target", some "plus"), "plus", "Target.plus", defArgs s_Target_plus, defBody s_Target_plus, defScope s_Target_plus, [], []⟩
def d_Target_minus : He.DefD := ⟨("Target", some "minus"), "minus", "Target.minus", defArgs s_Target_minus, defBody s_Target_minus, defScope s_Target_minus, [], []⟩
def d_Target_times : He.DefD := ⟨("Target", some "times"), "times", "Target.times", defArgs s_Target_times, defBody s_Target_times, defScope s_Target_times, [], []⟩
def d_Target_all_values : He.DefD := ⟨("Target", some "all_values"), "all_values", "Target.all_values", defArgs s_Target_all_values, defBody s_Target_all_values, defScope s_Target_all_values, [], []⟩
def d_Target_position : He.DefD := ⟨("Target", some "position"), "position", "Target.position", defArgs s_Target_position, defBody s_Target_position, defScope s_Target_position, [], []⟩
def d_Target_value_at : He.DefD := ⟨("Target", some "value_at"), "value_at", "Target.value_at", defArgs s_Target_value_at, defBody s_Target_value_at, defScope s_Target_value_at, [], []⟩
def d_Target_as_group : He.DefD := ⟨("Target", some "as_group"), "as_group", "Target.as_group", defArgs s_Target_as_group, defBody s_Target_as_group, defScope s_Target_as_group, [], []⟩
def d__law_bag : He.DefD := ⟨("_law_bag", none), "_law_bag", "_law_bag", defArgs s__law_bag, defBody s__law_bag, defScope s__law_bag, [], []⟩
def d__law_take : He.DefD := ⟨("_law_take", none), "_law_take", "_law_take", defArgs s__law_take, defBody s__law_take, defScope s__law_take, [], []⟩
def d__law_common : He.DefD := ⟨("_law_common", none), "_law_common", "_law_common", defArgs s__law_common, defBody s__law_common, defScope s__law_common, [], []⟩
def d__law_values : He.DefD := ⟨("_law_values", none), "_law_values", "_law_values", defArgs s__law_values, defBody s__law_values, defScope s__law_values, [], []⟩
def d__law_target_table : He.DefD := ⟨("_law_target_table", none), "_law_target_table", "_law_target_table", defArgs s__law_target_table, defBody s__law_target_table, defScope s__law_target_table, [], []⟩
def d__law_is_integer : He.DefD := ⟨("_law_is_integer", none), "_law_is_integer", "_law_is_integer", defArgs s__law_is_integer, defBody s__law_is_integer, defScope s__law_is_integer, [], []⟩
def d__law_same : He.DefD := ⟨("_law_same", none), "_law_same", "_law_same", defArgs s__law_same, defBody s__law_same, defScope s__law_same, [], []⟩
def d__law_good : He.DefD := ⟨("_law_good", none), "_law_good", "_law_good", defArgs s__law_good, defBody s__law_good, defScope s__law_good, [], []⟩
def d__law_exact : He.DefD := ⟨("_law_exact", none), "_law_exact", "_law_exact", defArgs s__law_exact, defBody s__law_exact, defScope s__law_exact, [], []⟩
def d__law_bad : He.DefD := ⟨("_law_bad", none), "_law_bad", "_law_bad", defArgs s__law_bad, defBody s__law_bad, defScope s__law_bad, [], []⟩
def d__law_list : He.DefD := ⟨("_law_list", none), "_law_list", "_law_list", defArgs s__law_list, defBody s__law_list, defScope s__law_list, [], []⟩
def d__law_due : He.DefD := ⟨("_law_due", none), "_law_due", "_law_due", defArgs s__law_due, defBody s__law_due, defScope s__law_due, [], []⟩
def d__law_told : He.DefD := ⟨("_law_told", none), "_law_told", "_law_told", defArgs s__law_told, defBody s__law_told, defScope s__law_told, [], []⟩
def d__law_decided : He.DefD := ⟨("_law_decided", none), "_law_decided", "_law_decided", defArgs s__law_decided, defBody s__law_decided, defScope s__law_decided, [], []⟩
def d__law_spoilt : He.DefD := ⟨("_law_spoilt", none), "_law_spoilt", "_law_spoilt", defArgs s__law_spoilt, defBody s__law_spoilt, defScope s__law_spoilt, [], []⟩
def d__law_refused : He.DefD := ⟨("_law_refused", none), "_law_refused", "_law_refused", defArgs s__law_refused, defBody s__law_refused, defScope s__law_refused, [], []⟩
def d__law_numbered : He.DefD := ⟨("_law_numbered", none), "_law_numbered", "_law_numbered", defArgs s__law_numbered, defBody s__law_numbered, defScope s__law_numbered, [], []⟩
def d__law_outside : He.DefD := ⟨("_law_outside", none), "_law_outside", "_law_outside", defArgs s__law_outside, defBody s__law_outside, defScope s__law_outside, [], []⟩
def d__law_computed : He.DefD := ⟨("_law_computed", none), "_law_computed", "_law_computed", defArgs s__law_computed, defBody s__law_computed, defScope s__law_computed, [], []⟩
def d__law_grouped : He.DefD := ⟨("_law_grouped", none), "_law_grouped", "_law_grouped", defArgs s__law_grouped, defBody s__law_grouped, defScope s__law_grouped, [], []⟩
def d__law_accepted : He.DefD := ⟨("_law_accepted", none), "_law_accepted", "_law_accepted", defArgs s__law_accepted, defBody s__law_accepted, defScope s__law_accepted, [], []⟩
def d__law_compared : He.DefD := ⟨("_law_compared", none), "_law_compared", "_law_compared", defArgs s__law_compared, defBody s__law_compared, defScope s__law_compared, [], []⟩
def d_law : He.DefD := ⟨("law", none), "law", "law", defArgs s_law, defBody s_law, defScope s_law, [], []⟩
def fnL : List He.DefD := [d__has_shape, d__has_identity, d__has_inverses, d__is_associative, d_Group___init__, d_Group___eq__, d_Target___init__, d_Target___eq__, d_Target_is_value, d_Target_plus, d_Target_minus, d_Target_times, d_Target_all_values, d_Target_position, d_Target_value_at, d_Target_as_group, d__law_bag, d__law_take, d__law_common, d__law_values, d__law_target_table, d__law_is_integer, d__law_same, d__law_good, d__law_exact, d__law_bad, d__law_list, d__law_due, d__law_told, d__law_decided, d__law_spoilt, d__law_refused, d__law_numbered, d__law_outside, d__law_computed, d__law_grouped, d__law_accepted, d__law_compared, d_law]
def faL : List He.Fa := [.glo "_has_shape", .glo "_has_identity", .glo "_has_inverses", .glo "_is_associative", .meth "Group" "__eq__", .meth "Target" "__eq__", .meth "Target" "is_value", .meth "Target" "plus", .meth "Target" "minus", .meth "Target" "times", .meth "Target" "all_values", .meth "Target" "position", .meth "Target" "value_at", .meth "Target" "as_group", .glo "_law_bag", .glo "_law_take", .glo "_law_common", .glo "_law_values", .glo "_law_target_table", .glo "_law_is_integer", .glo "_law_same", .glo "_law_good", .glo "_law_exact", .glo "_law_bad", .glo "_law_list", .glo "_law_due", .glo "_law_told", .glo "_law_decided", .glo "_law_spoilt", .glo "_law_refused", .glo "_law_numbered", .glo "_law_outside", .glo "_law_computed", .glo "_law_grouped", .glo "_law_accepted", .glo "_law_compared", .glo "law", .glo "LimitExceeded", .glo "InvalidGroup", .glo "InvalidElement", .glo "InvalidTarget", .glo "InvalidValue", .glo "InvalidIndex", .glo "StepError", .glo "Group", .glo "Target", .exc "LimitExceeded", .exc "InvalidGroup", .exc "InvalidElement", .exc "InvalidTarget", .exc "InvalidValue", .exc "InvalidIndex", .exc "StepError", .cls "Group", .mkr "Group", .cls "Target", .mkr "Target", .noat "Group" "order", .noat "Group" "rows", .noat "Group" "inverses", .free "len", .free "tuple", .free "list", .free "range", .free "all", .free "enumerate", .free "int", .free "bool", .free "abs", .free "isinstance", .free "str", .free "dict", .free "zip", .free "reversed", .free "min", .free "ValueError", .noat "Target" "moduli", .noat "Target" "order", .noat "Target" "exponent", .noat "Target" "zero", .int "LIMIT" 32]
def exL (K : PySem.W.Frag) : List Bool := [He.eqO (PySem.W.specialIn K (.builtin "object.__class__") "__get__") (some (some (.builtin "getset_descriptor.__get__"))),
  decide (PySem.W.takesIn K (.builtin "object.__class__") = some true),
  He.eqO (PySem.W.nsIn K mainGlobals "lcm") (some (some (.builtin "math.lcm"))),
  He.eqO (PySem.W.findIn K (.ref (He.ga K "Group")) "__class__") (some (some (.builtin "object.__class__"))),
  He.eqO (PySem.W.findIn K (.ref (He.ga K "Target")) "__class__") (some (some (.builtin "object.__class__"))),
  decide (PySem.W.mroIn K (He.ga K "Group") (.type "object") = some true),
  decide (PySem.W.mroIn K (He.ga K "Target") (.type "object") = some true),
  decide (PySem.W.kitOne K (.ref (He.ga K "Group")) (.ref (He.ga K "Group")) = some true),
  decide (PySem.W.kitOne K (.ref (He.ga K "Target")) (.ref (He.ga K "Target")) = some true),
  decide (PySem.W.kitOne K (.ref (He.ga K "Group")) (.ref (He.ga K "Target")) = some false),
  decide (PySem.W.kitOne K (.ref (He.ga K "Target")) (.ref (He.ga K "Group")) = some false),
  PySem.W.notFirst K (He.ga K "Target") (.ref (He.ga K "Group")),
  PySem.W.notFirst K (He.ga K "Group") (.ref (He.ga K "Target")),
  He.eqO (PySem.W.findIn K (.ref (He.ga K "StepError")) "__getattribute__") (some (some (.builtin "BaseException.__getattribute__"))),
  He.eqO (PySem.W.findIn K (.ref (He.ga K "StepError")) "__getattr__") (some none),
  decide (PySem.W.subIn K (.ref (He.ga K "StepError")) (.type "BaseException") = some true),
  PySem.W.hasDictIn K (He.ga K "StepError"),
  He.eqO (PySem.W.findIn K (.ref (He.ga K "StepError")) "__class__") (some (some (.builtin "object.__class__"))),
  decide (PySem.W.mroIn K (He.ga K "StepError") (.type "object") = some true),
  He.eqO (PySem.W.findIn K (.ref (He.ga K "InvalidTarget")) "__getattribute__") (some (some (.builtin "BaseException.__getattribute__"))),
  He.eqO (PySem.W.findIn K (.ref (He.ga K "InvalidTarget")) "__getattr__") (some none),
  decide (PySem.W.subIn K (.ref (He.ga K "InvalidTarget")) (.type "BaseException") = some true),
  PySem.W.hasDictIn K (He.ga K "InvalidTarget"),
  He.eqO (PySem.W.findIn K (.ref (He.ga K "InvalidTarget")) "__class__") (some (some (.builtin "object.__class__"))),
  decide (PySem.W.mroIn K (He.ga K "InvalidTarget") (.type "object") = some true),
  He.eqO (PySem.W.findIn K (.ref (He.ga K "LimitExceeded")) "__getattribute__") (some (some (.builtin "BaseException.__getattribute__"))),
  He.eqO (PySem.W.findIn K (.ref (He.ga K "LimitExceeded")) "__getattr__") (some none),
  decide (PySem.W.subIn K (.ref (He.ga K "LimitExceeded")) (.type "BaseException") = some true),
  PySem.W.hasDictIn K (He.ga K "LimitExceeded"),
  He.eqO (PySem.W.findIn K (.ref (He.ga K "LimitExceeded")) "__class__") (some (some (.builtin "object.__class__"))),
  decide (PySem.W.mroIn K (He.ga K "LimitExceeded") (.type "object") = some true),
  He.eqO (PySem.W.findIn K (.ref (He.ga K "InvalidValue")) "__getattribute__") (some (some (.builtin "BaseException.__getattribute__"))),
  He.eqO (PySem.W.findIn K (.ref (He.ga K "InvalidValue")) "__getattr__") (some none),
  decide (PySem.W.subIn K (.ref (He.ga K "InvalidValue")) (.type "BaseException") = some true),
  PySem.W.hasDictIn K (He.ga K "InvalidValue"),
  He.eqO (PySem.W.findIn K (.ref (He.ga K "InvalidValue")) "__class__") (some (some (.builtin "object.__class__"))),
  decide (PySem.W.mroIn K (He.ga K "InvalidValue") (.type "object") = some true),
  He.eqO (PySem.W.findIn K (.ref (He.ga K "InvalidIndex")) "__getattribute__") (some (some (.builtin "BaseException.__getattribute__"))),
  He.eqO (PySem.W.findIn K (.ref (He.ga K "InvalidIndex")) "__getattr__") (some none),
  decide (PySem.W.subIn K (.ref (He.ga K "InvalidIndex")) (.type "BaseException") = some true),
  PySem.W.hasDictIn K (He.ga K "InvalidIndex"),
  He.eqO (PySem.W.findIn K (.ref (He.ga K "InvalidIndex")) "__class__") (some (some (.builtin "object.__class__"))),
  decide (PySem.W.mroIn K (He.ga K "InvalidIndex") (.type "object") = some true),
  decide (PySem.W.subIn K (.ref (He.ga K "InvalidTarget")) (.ref (He.ga K "StepError")) = some true),
  decide (PySem.W.subIn K (.ref (He.ga K "LimitExceeded")) (.ref (He.ga K "StepError")) = some true),
  decide (PySem.W.subIn K (.ref (He.ga K "InvalidValue")) (.ref (He.ga K "StepError")) = some true),
  decide (PySem.W.subIn K (.ref (He.ga K "InvalidIndex")) (.ref (He.ga K "StepError")) = some true),
  decide (PySem.W.kitOne K (.ref (He.ga K "InvalidTarget")) (.ref (He.ga K "InvalidTarget")) = some true),
  decide (PySem.W.kitOne K (.ref (He.ga K "InvalidTarget")) (.type "ValueError") = some true),
  decide (PySem.W.kitOne K (.ref (He.ga K "InvalidTarget")) (.ref (He.ga K "LimitExceeded")) = some false),
  decide (PySem.W.kitOne K (.ref (He.ga K "LimitExceeded")) (.ref (He.ga K "InvalidTarget")) = some false),
  decide (PySem.W.kitOne K (.ref (He.ga K "LimitExceeded")) (.ref (He.ga K "LimitExceeded")) = some true),
  decide (PySem.W.kitOne K (.ref (He.ga K "LimitExceeded")) (.type "ValueError") = some true),
  decide (PySem.W.kitOne K (.ref (He.ga K "InvalidValue")) (.ref (He.ga K "InvalidValue")) = some true),
  decide (PySem.W.kitOne K (.ref (He.ga K "InvalidValue")) (.type "ValueError") = some true),
  decide (PySem.W.kitOne K (.ref (He.ga K "InvalidValue")) (.ref (He.ga K "InvalidIndex")) = some false),
  decide (PySem.W.kitOne K (.ref (He.ga K "InvalidIndex")) (.ref (He.ga K "InvalidIndex")) = some true),
  decide (PySem.W.kitOne K (.ref (He.ga K "InvalidIndex")) (.type "ValueError") = some true),
  decide (PySem.W.kitOne K (.ref (He.ga K "InvalidIndex")) (.ref (He.ga K "InvalidValue")) = some false)]
theorem exAt {K : PySem.W.Frag} (c : (exL K).all id = true) (i : Nat) {b : Bool} (h : (exL K)[i]? = some b) : b = true := List.all_eq_true.mp c b (List.mem_of_getElem? h)
abbrev RR : PySem.W.OpenRow := PySem.W.OpenLaw.row PySem.Challenge.rw_stepsvanish_k02_targets_let_by
def obE (g : Addr → Option Obj) : He.AlD × Bool := (He.obsD faL fnL (He.frG g (He.asD g 4)), (exL (He.frG g (He.asD g 4))).all id)
def hkL : PySem.W.Hook where
  α := He.AlD × Bool
  obs := fun s => obE s.heap.get?
  val := fun _ => (He.valD fnL, true)
  says := fun _ h => ∃ K : PySem.W.Frag, K.In h ∧ He.SaysD faL fnL K ∧ (exL K).all id = true
  of := fun _ _ e => ⟨_, He.frG_in, congrArg Prod.fst e, congrArg Prod.snd e⟩
  keeps := fun _ _ _ ⟨K, hK, c⟩ k => ⟨K, PySem.W.Frag.In.keeps hK k, c⟩
def obL (s : PySem.W.SharedT) : He.AlD × Bool := obE (HandSHeadRun.getT s)
theorem obL_eq (s : PySem.W.SharedT) : obL s = hkL.obs s.abs := by
  have e : HandSHeadRun.getT s = s.abs.heap.get? := funext (HandSHeadRun.getT_eq s)
  show obE _ = obE _
  rw [e]
def looseL : List PySem.Str := [("_wall" : PySem.Str), ("__name__" : PySem.Str), ("StepError" : PySem.Str), ("InvalidGroup" : PySem.Str), ("InvalidTarget" : PySem.Str), ("InvalidElement" : PySem.Str), ("InvalidValue" : PySem.Str), ("InvalidIndex" : PySem.Str), ("LimitExceeded" : PySem.Str), ("__name__" : PySem.Str), ("LIMIT" : PySem.Str), ("Group" : PySem.Str), ("_has_shape" : PySem.Str), ("_has_identity" : PySem.Str), ("_has_inverses" : PySem.Str), ("_is_associative" : PySem.Str), ("__name__" : PySem.Str), ("Target" : PySem.Str), ("__name__" : PySem.Str), ("_law_bag" : PySem.Str), ("_law_take" : PySem.Str), ("_law_common" : PySem.Str), ("_law_values" : PySem.Str), ("_law_target_table" : PySem.Str), ("_law_is_integer" : PySem.Str), ("_law_same" : PySem.Str), ("_law_good" : PySem.Str), ("_law_exact" : PySem.Str), ("_law_bad" : PySem.Str), ("_law_list" : PySem.Str), ("_law_due" : PySem.Str), ("_law_told" : PySem.Str), ("_law_decided" : PySem.Str), ("_law_spoilt" : PySem.Str), ("_law_refused" : PySem.Str), ("_law_numbered" : PySem.Str), ("_law_outside" : PySem.Str), ("_law_computed" : PySem.Str), ("_law_grouped" : PySem.Str), ("_law_accepted" : PySem.Str), ("_law_compared" : PySem.Str)]
theorem factsL {P : Program} {w : World} {K : PySem.W.Frag} {h : Heap} {mg : Str → Option Value} {f : Addr} (X : K.In h) (G : h.Ns mainGlobals mg) (hfa : mg ("law" : Str) = some (.ref f)) (c : He.SaysD faL fnL K) (x : (exL K).all id = true) :
    ∃ fd : FuncData, (∀ (s : Shared) (v : Value), BindsTo s fd ⟨[v], []⟩ [("script", v)]) ∧ ∀ base : Heap, K.In base → base.Ns mainGlobals mg → FnOk P w K mg base CX0 7 f fd ["script"] (sp_law K) := by
  obtain ⟨fd__has_shape, F__has_shape⟩ := c.def_ 0 (d := d__has_shape) rfl
  have g__has_shape := He.glo_ok X G (c.fact 0 (f := .glo "_has_shape") rfl)
  have b__has_shape : Binds K fd__has_shape ["rows"] [] := F__has_shape.bindsN fun _ _ _ _ _ _ us hl => match us, hl with | [_], _ => rfl
  obtain ⟨fd__has_identity, F__has_identity⟩ := c.def_ 1 (d := d__has_identity) rfl
  have g__has_identity := He.glo_ok X G (c.fact 1 (f := .glo "_has_identity") rfl)
  have b__has_identity : Binds K fd__has_identity ["rows"] [] := F__has_identity.bindsN fun _ _ _ _ _ _ us hl => match us, hl with | [_], _ => rfl
  obtain ⟨fd__has_inverses, F__has_inverses⟩ := c.def_ 2 (d := d__has_inverses) rfl
  have g__has_inverses := He.glo_ok X G (c.fact 2 (f := .glo "_has_inverses") rfl)
  have b__has_inverses : Binds K fd__has_inverses ["rows"] [] := F__has_inverses.bindsN fun _ _ _ _ _ _ us hl => match us, hl with | [_], _ => rfl
  obtain ⟨fd__is_associative, F__is_associative⟩ := c.def_ 3 (d := d__is_associative) rfl
  have g__is_associative := He.glo_ok X G (c.fact 3 (f := .glo "_is_associative") rfl)
  have b__is_associative : Binds K fd__is_associative ["rows"] [] := F__is_associative.bindsN fun _ _ _ _ _ _ us hl => match us, hl with | [_], _ => rfl
  obtain ⟨fd_Group___init__, F_Group___init__⟩ := c.def_ 4 (d := d_Group___init__) rfl
  have b_Group___init__ : Binds K fd_Group___init__ ["self", "table"] [] := F_Group___init__.bindsN fun _ _ _ _ _ _ us hl => match us, hl with | [_, _], _ => rfl
  obtain ⟨fd_Group___eq__, F_Group___eq__⟩ := c.def_ 5 (d := d_Group___eq__) rfl
  have b_Group___eq__ : Binds K fd_Group___eq__ ["self", "other"] [] := F_Group___eq__.bindsN fun _ _ _ _ _ _ us hl => match us, hl with | [_, _], _ => rfl
  obtain ⟨fd_Target___init__, F_Target___init__⟩ := c.def_ 6 (d := d_Target___init__) rfl
  have b_Target___init__ : Binds K fd_Target___init__ ["self", "moduli"] [] := F_Target___init__.bindsN fun _ _ _ _ _ _ us hl => match us, hl with | [_, _], _ => rfl
  obtain ⟨fd_Target___eq__, F_Target___eq__⟩ := c.def_ 7 (d := d_Target___eq__) rfl
  have b_Target___eq__ : Binds K fd_Target___eq__ ["self", "other"] [] := F_Target___eq__.bindsN fun _ _ _ _ _ _ us hl => match us, hl with | [_, _], _ => rfl
  obtain ⟨fd_Target_is_value, F_Target_is_value⟩ := c.def_ 8 (d := d_Target_is_value) rfl
  have b_Target_is_value : Binds K fd_Target_is_value ["self", "value"] [] := F_Target_is_value.bindsN fun _ _ _ _ _ _ us hl => match us, hl with | [_, _], _ => rfl
  obtain ⟨fd_Target_plus, F_Target_plus⟩ := c.def_ 9 (d := d_Target_plus) rfl
  have b_Target_plus : Binds K fd_Target_plus ["self", "left", "right"] [] := F_Target_plus.bindsN fun _ _ _ _ _ _ us hl => match us, hl with | [_, _, _], _ => rfl
  obtain ⟨fd_Target_minus, F_Target_minus⟩ := c.def_ 10 (d := d_Target_minus) rfl
  have b_Target_minus : Binds K fd_Target_minus ["self", "left", "right"] [] := F_Target_minus.bindsN fun _ _ _ _ _ _ us hl => match us, hl with | [_, _, _], _ => rfl
  obtain ⟨fd_Target_times, F_Target_times⟩ := c.def_ 11 (d := d_Target_times) rfl
  have b_Target_times : Binds K fd_Target_times ["self", "factor", "value"] [] := F_Target_times.bindsN fun _ _ _ _ _ _ us hl => match us, hl with | [_, _, _], _ => rfl
  obtain ⟨fd_Target_all_values, F_Target_all_values⟩ := c.def_ 12 (d := d_Target_all_values) rfl
  have b_Target_all_values : Binds K fd_Target_all_values ["self"] [] := F_Target_all_values.bindsN fun _ _ _ _ _ _ us hl => match us, hl with | [_], _ => rfl
  obtain ⟨fd_Target_position, F_Target_position⟩ := c.def_ 13 (d := d_Target_position) rfl
  have b_Target_position : Binds K fd_Target_position ["self", "value"] [] := F_Target_position.bindsN fun _ _ _ _ _ _ us hl => match us, hl with | [_, _], _ => rfl
  obtain ⟨fd_Target_value_at, F_Target_value_at⟩ := c.def_ 14 (d := d_Target_value_at) rfl
  have b_Target_value_at : Binds K fd_Target_value_at ["self", "position"] [] := F_Target_value_at.bindsN fun _ _ _ _ _ _ us hl => match us, hl with | [_, _], _ => rfl
  obtain ⟨fd_Target_as_group, F_Target_as_group⟩ := c.def_ 15 (d := d_Target_as_group) rfl
  have b_Target_as_group : Binds K fd_Target_as_group ["self"] [] := F_Target_as_group.bindsN fun _ _ _ _ _ _ us hl => match us, hl with | [_], _ => rfl
  obtain ⟨fd__law_bag, F__law_bag⟩ := c.def_ 16 (d := d__law_bag) rfl
  have g__law_bag := He.glo_ok X G (c.fact 14 (f := .glo "_law_bag") rfl)
  have b__law_bag : Binds K fd__law_bag ["script", "k"] [] := F__law_bag.bindsN fun _ _ _ _ _ _ us hl => match us, hl with | [_, _], _ => rfl
  obtain ⟨fd__law_take, F__law_take⟩ := c.def_ 17 (d := d__law_take) rfl
  have g__law_take := He.glo_ok X G (c.fact 15 (f := .glo "_law_take") rfl)
  have b__law_take : Binds K fd__law_take ["bag", "size"] [] := F__law_take.bindsN fun _ _ _ _ _ _ us hl => match us, hl with | [_, _], _ => rfl
  obtain ⟨fd__law_common, F__law_common⟩ := c.def_ 18 (d := d__law_common) rfl
  have g__law_common := He.glo_ok X G (c.fact 16 (f := .glo "_law_common") rfl)
  have b__law_common : Binds K fd__law_common ["moduli"] [] := F__law_common.bindsN fun _ _ _ _ _ _ us hl => match us, hl with | [_], _ => rfl
  obtain ⟨fd__law_values, F__law_values⟩ := c.def_ 19 (d := d__law_values) rfl
  have g__law_values := He.glo_ok X G (c.fact 17 (f := .glo "_law_values") rfl)
  have b__law_values : Binds K fd__law_values ["moduli"] [] := F__law_values.bindsN fun _ _ _ _ _ _ us hl => match us, hl with | [_], _ => rfl
  obtain ⟨fd__law_target_table, F__law_target_table⟩ := c.def_ 20 (d := d__law_target_table) rfl
  have g__law_target_table := He.glo_ok X G (c.fact 18 (f := .glo "_law_target_table") rfl)
  have b__law_target_table : Binds K fd__law_target_table ["moduli"] [] := F__law_target_table.bindsN fun _ _ _ _ _ _ us hl => match us, hl with | [_], _ => rfl
  obtain ⟨fd__law_is_integer, F__law_is_integer⟩ := c.def_ 21 (d := d__law_is_integer) rfl
  have g__law_is_integer := He.glo_ok X G (c.fact 19 (f := .glo "_law_is_integer") rfl)
  have b__law_is_integer : Binds K fd__law_is_integer ["told"] [] := F__law_is_integer.bindsN fun _ _ _ _ _ _ us hl => match us, hl with | [_], _ => rfl
  obtain ⟨fd__law_same, F__law_same⟩ := c.def_ 22 (d := d__law_same) rfl
  have g__law_same := He.glo_ok X G (c.fact 20 (f := .glo "_law_same") rfl)
  have b__law_same : Binds K fd__law_same ["told", "due"] [] := F__law_same.bindsN fun _ _ _ _ _ _ us hl => match us, hl with | [_, _], _ => rfl
  obtain ⟨fd__law_good, F__law_good⟩ := c.def_ 23 (d := d__law_good) rfl
  have g__law_good := He.glo_ok X G (c.fact 21 (f := .glo "_law_good") rfl)
  have b__law_good : Binds K fd__law_good ["bag"] [] := F__law_good.bindsN fun _ _ _ _ _ _ us hl => match us, hl with | [_], _ => rfl
  obtain ⟨fd__law_exact, F__law_exact⟩ := c.def_ 24 (d := d__law_exact) rfl
  have g__law_exact := He.glo_ok X G (c.fact 22 (f := .glo "_law_exact") rfl)
  have b__law_exact : Binds K fd__law_exact ["bag"] [] := F__law_exact.bindsN fun _ _ _ _ _ _ us hl => match us, hl with | [_], _ => rfl
  obtain ⟨fd__law_bad, F__law_bad⟩ := c.def_ 25 (d := d__law_bad) rfl
  have g__law_bad := He.glo_ok X G (c.fact 23 (f := .glo "_law_bad") rfl)
  have b__law_bad : Binds K fd__law_bad ["bag"] [] := F__law_bad.bindsN fun _ _ _ _ _ _ us hl => match us, hl with | [_], _ => rfl
  obtain ⟨fd__law_list, F__law_list⟩ := c.def_ 26 (d := d__law_list) rfl
  have g__law_list := He.glo_ok X G (c.fact 24 (f := .glo "_law_list") rfl)
  have b__law_list : Binds K fd__law_list ["bag"] [] := F__law_list.bindsN fun _ _ _ _ _ _ us hl => match us, hl with | [_], _ => rfl
  obtain ⟨fd__law_due, F__law_due⟩ := c.def_ 27 (d := d__law_due) rfl
  have g__law_due := He.glo_ok X G (c.fact 25 (f := .glo "_law_due") rfl)
  have b__law_due : Binds K fd__law_due ["moduli"] [] := F__law_due.bindsN fun _ _ _ _ _ _ us hl => match us, hl with | [_], _ => rfl
  obtain ⟨fd__law_told, F__law_told⟩ := c.def_ 28 (d := d__law_told) rfl
  have g__law_told := He.glo_ok X G (c.fact 26 (f := .glo "_law_told") rfl)
  have b__law_told : Binds K fd__law_told ["moduli"] [] := F__law_told.bindsN fun _ _ _ _ _ _ us hl => match us, hl with | [_], _ => rfl
  obtain ⟨fd__law_decided, F__law_decided⟩ := c.def_ 29 (d := d__law_decided) rfl
  have g__law_decided := He.glo_ok X G (c.fact 27 (f := .glo "_law_decided") rfl)
  have b__law_decided : Binds K fd__law_decided ["moduli"] [] := F__law_decided.bindsN fun _ _ _ _ _ _ us hl => match us, hl with | [_], _ => rfl
  obtain ⟨fd__law_spoilt, F__law_spoilt⟩ := c.def_ 30 (d := d__law_spoilt) rfl
  have g__law_spoilt := He.glo_ok X G (c.fact 28 (f := .glo "_law_spoilt") rfl)
  have b__law_spoilt : Binds K fd__law_spoilt ["bag", "value", "moduli"] [] := F__law_spoilt.bindsN fun _ _ _ _ _ _ us hl => match us, hl with | [_, _, _], _ => rfl
  obtain ⟨fd__law_refused, F__law_refused⟩ := c.def_ 31 (d := d__law_refused) rfl
  have g__law_refused := He.glo_ok X G (c.fact 29 (f := .glo "_law_refused") rfl)
  have b__law_refused : Binds K fd__law_refused ["target", "which", "thing"] [] := F__law_refused.bindsN fun _ _ _ _ _ _ us hl => match us, hl with | [_, _, _], _ => rfl
  obtain ⟨fd__law_numbered, F__law_numbered⟩ := c.def_ 32 (d := d__law_numbered) rfl
  have g__law_numbered := He.glo_ok X G (c.fact 30 (f := .glo "_law_numbered") rfl)
  have b__law_numbered : Binds K fd__law_numbered ["target", "values"] [] := F__law_numbered.bindsN fun _ _ _ _ _ _ us hl => match us, hl with | [_, _], _ => rfl
  obtain ⟨fd__law_outside, F__law_outside⟩ := c.def_ 33 (d := d__law_outside) rfl
  have g__law_outside := He.glo_ok X G (c.fact 31 (f := .glo "_law_outside") rfl)
  have b__law_outside : Binds K fd__law_outside ["bag", "target", "values", "moduli"] [] := F__law_outside.bindsN fun _ _ _ _ _ _ us hl => match us, hl with | [_, _, _, _], _ => rfl
  obtain ⟨fd__law_computed, F__law_computed⟩ := c.def_ 34 (d := d__law_computed) rfl
  have g__law_computed := He.glo_ok X G (c.fact 32 (f := .glo "_law_computed") rfl)
  have b__law_computed : Binds K fd__law_computed ["bag", "target", "values", "moduli"] [] := F__law_computed.bindsN fun _ _ _ _ _ _ us hl => match us, hl with | [_, _, _, _], _ => rfl
  obtain ⟨fd__law_grouped, F__law_grouped⟩ := c.def_ 35 (d := d__law_grouped) rfl
  have g__law_grouped := He.glo_ok X G (c.fact 33 (f := .glo "_law_grouped") rfl)
  have b__law_grouped : Binds K fd__law_grouped ["target", "moduli"] [] := F__law_grouped.bindsN fun _ _ _ _ _ _ us hl => match us, hl with | [_, _], _ => rfl
  obtain ⟨fd__law_accepted, F__law_accepted⟩ := c.def_ 36 (d := d__law_accepted) rfl
  have g__law_accepted := He.glo_ok X G (c.fact 34 (f := .glo "_law_accepted") rfl)
  have b__law_accepted : Binds K fd__law_accepted ["bag", "moduli"] [] := F__law_accepted.bindsN fun _ _ _ _ _ _ us hl => match us, hl with | [_, _], _ => rfl
  obtain ⟨fd__law_compared, F__law_compared⟩ := c.def_ 37 (d := d__law_compared) rfl
  have g__law_compared := He.glo_ok X G (c.fact 35 (f := .glo "_law_compared") rfl)
  have b__law_compared : Binds K fd__law_compared ["first", "second"] [] := F__law_compared.bindsN fun _ _ _ _ _ _ us hl => match us, hl with | [_, _], _ => rfl
  obtain ⟨fd_law, F_law⟩ := c.def_ 38 (d := d_law) rfl
  have g_law := He.glo_ok X G (c.fact 36 (f := .glo "law") rfl)
  have g_LimitExceeded := He.glo_ok X G (c.fact 37 (f := .glo "LimitExceeded") rfl)
  have g_InvalidGroup := He.glo_ok X G (c.fact 38 (f := .glo "InvalidGroup") rfl)
  have g_InvalidElement := He.glo_ok X G (c.fact 39 (f := .glo "InvalidElement") rfl)
  have g_InvalidTarget := He.glo_ok X G (c.fact 40 (f := .glo "InvalidTarget") rfl)
  have g_InvalidValue := He.glo_ok X G (c.fact 41 (f := .glo "InvalidValue") rfl)
  have g_InvalidIndex := He.glo_ok X G (c.fact 42 (f := .glo "InvalidIndex") rfl)
  have g_StepError := He.glo_ok X G (c.fact 43 (f := .glo "StepError") rfl)
  have g_Group := He.glo_ok X G (c.fact 44 (f := .glo "Group") rfl)
  have g_Target := He.glo_ok X G (c.fact 45 (f := .glo "Target") rfl)
  have x_LimitExceeded : ExF K mg "LimitExceeded" (He.ga K "LimitExceeded") := by
    obtain ⟨h1, h2, h3, h4⟩ := He.exc_ok (c.fact 46 (f := .exc "LimitExceeded") rfl)
    exact ⟨g_LimitExceeded, h1, h2, h3, h4⟩
  have x_InvalidGroup : ExF K mg "InvalidGroup" (He.ga K "InvalidGroup") := by
    obtain ⟨h1, h2, h3, h4⟩ := He.exc_ok (c.fact 47 (f := .exc "InvalidGroup") rfl)
    exact ⟨g_InvalidGroup, h1, h2, h3, h4⟩
  have x_InvalidElement : ExF K mg "InvalidElement" (He.ga K "InvalidElement") := by
    obtain ⟨h1, h2, h3, h4⟩ := He.exc_ok (c.fact 48 (f := .exc "InvalidElement") rfl)
    exact ⟨g_InvalidElement, h1, h2, h3, h4⟩
  have x_InvalidTarget : ExF K mg "InvalidTarget" (He.ga K "InvalidTarget") := by
    obtain ⟨h1, h2, h3, h4⟩ := He.exc_ok (c.fact 49 (f := .exc "InvalidTarget") rfl)
    exact ⟨g_InvalidTarget, h1, h2, h3, h4⟩
  have x_InvalidValue : ExF K mg "InvalidValue" (He.ga K "InvalidValue") := by
    obtain ⟨h1, h2, h3, h4⟩ := He.exc_ok (c.fact 50 (f := .exc "InvalidValue") rfl)
    exact ⟨g_InvalidValue, h1, h2, h3, h4⟩
  have x_InvalidIndex : ExF K mg "InvalidIndex" (He.ga K "InvalidIndex") := by
    obtain ⟨h1, h2, h3, h4⟩ := He.exc_ok (c.fact 51 (f := .exc "InvalidIndex") rfl)
    exact ⟨g_InvalidIndex, h1, h2, h3, h4⟩
  have x_StepError : ExF K mg "StepError" (He.ga K "StepError") := by
    obtain ⟨h1, h2, h3, h4⟩ := He.exc_ok (c.fact 52 (f := .exc "StepError") rfl)
    exact ⟨g_StepError, h1, h2, h3, h4⟩
  have T : Txt K mg := ⟨He.free_ok X G (c.fact 60 (f := .free "len") rfl), He.free_ok X G (c.fact 61 (f := .free "tuple") rfl), He.free_ok X G (c.fact 62 (f := .free "list") rfl), He.free_ok X G (c.fact 63 (f := .free "range") rfl), He.free_ok X G (c.fact 64 (f := .free "all") rfl), He.free_ok X G (c.fact 65 (f := .free "enumerate") rfl), He.free_ok X G (c.fact 66 (f := .free "int") rfl), He.free_ok X G (c.fact 67 (f := .free "bool") rfl), He.free_ok X G (c.fact 68 (f := .free "abs") rfl), He.free_ok X G (c.fact 69 (f := .free "isinstance") rfl), He.free_ok X G (c.fact 70 (f := .free "str") rfl), He.free_ok X G (c.fact 71 (f := .free "dict") rfl), He.free_ok X G (c.fact 72 (f := .free "zip") rfl), He.free_ok X G (c.fact 73 (f := .free "reversed") rfl), He.free_ok X G (c.fact 74 (f := .free "min") rfl), He.free_ok X G (c.fact 75 (f := .free "ValueError") rfl), He.int_ok X G (c.fact 80 (f := .int "LIMIT" 32) rfl), x_LimitExceeded, x_InvalidGroup, x_InvalidElement, x_InvalidTarget, x_InvalidValue, x_InvalidIndex, x_StepError, He.cls_ok (c.fact 53 (f := .cls "Group") rfl), He.noat_ok (c.fact 57 (f := .noat "Group" "order") rfl), He.noat_ok (c.fact 58 (f := .noat "Group" "rows") rfl), He.noat_ok (c.fact 59 (f := .noat "Group" "inverses") rfl), PySem.W.mg_of X G (He.eqO_ok (exAt x 2 rfl)), He.cls_ok (c.fact 55 (f := .cls "Target") rfl), He.noat_ok (c.fact 76 (f := .noat "Target" "moduli") rfl), He.noat_ok (c.fact 77 (f := .noat "Target" "order") rfl), He.noat_ok (c.fact 78 (f := .noat "Target" "exponent") rfl), He.noat_ok (c.fact 79 (f := .noat "Target" "zero") rfl)⟩
  have T4 : Txt4 K mg := ⟨g_Group, g_Target, He.eqO_ok (exAt x 3 rfl), He.eqO_ok (exAt x 4 rfl), He.eqO_ok (exAt x 0 rfl), of_decide_eq_true (exAt x 1 rfl), of_decide_eq_true (exAt x 5 rfl), of_decide_eq_true (exAt x 6 rfl), of_decide_eq_true (exAt x 7 rfl), of_decide_eq_true (exAt x 8 rfl), of_decide_eq_true (exAt x 9 rfl), of_decide_eq_true (exAt x 10 rfl), exAt x 11 rfl, exAt x 12 rfl⟩
  have T5 : Txt5 K mg := ⟨⟨He.eqO_ok (exAt x 13 rfl), He.eqO_ok (exAt x 14 rfl), of_decide_eq_true (exAt x 15 rfl), exAt x 16 rfl, He.eqO_ok (exAt x 17 rfl), He.eqO_ok (exAt x 0 rfl), of_decide_eq_true (exAt x 1 rfl), of_decide_eq_true (exAt x 18 rfl)⟩, ⟨He.eqO_ok (exAt x 19 rfl), He.eqO_ok (exAt x 20 rfl), of_decide_eq_true (exAt x 21 rfl), exAt x 22 rfl, He.eqO_ok (exAt x 23 rfl), He.eqO_ok (exAt x 0 rfl), of_decide_eq_true (exAt x 1 rfl), of_decide_eq_true (exAt x 24 rfl)⟩, ⟨He.eqO_ok (exAt x 25 rfl), He.eqO_ok (exAt x 26 rfl), of_decide_eq_true (exAt x 27 rfl), exAt x 28 rfl, He.eqO_ok (exAt x 29 rfl), He.eqO_ok (exAt x 0 rfl), of_decide_eq_true (exAt x 1 rfl), of_decide_eq_true (exAt x 30 rfl)⟩, ⟨He.eqO_ok (exAt x 31 rfl), He.eqO_ok (exAt x 32 rfl), of_decide_eq_true (exAt x 33 rfl), exAt x 34 rfl, He.eqO_ok (exAt x 35 rfl), He.eqO_ok (exAt x 0 rfl), of_decide_eq_true (exAt x 1 rfl), of_decide_eq_true (exAt x 36 rfl)⟩, ⟨He.eqO_ok (exAt x 37 rfl), He.eqO_ok (exAt x 38 rfl), of_decide_eq_true (exAt x 39 rfl), exAt x 40 rfl, He.eqO_ok (exAt x 41 rfl), He.eqO_ok (exAt x 0 rfl), of_decide_eq_true (exAt x 1 rfl), of_decide_eq_true (exAt x 42 rfl)⟩, of_decide_eq_true (exAt x 43 rfl), of_decide_eq_true (exAt x 44 rfl), of_decide_eq_true (exAt x 45 rfl), of_decide_eq_true (exAt x 46 rfl), of_decide_eq_true (exAt x 47 rfl), of_decide_eq_true (exAt x 48 rfl), of_decide_eq_true (exAt x 49 rfl), of_decide_eq_true (exAt x 50 rfl), of_decide_eq_true (exAt x 51 rfl), of_decide_eq_true (exAt x 52 rfl), of_decide_eq_true (exAt x 53 rfl), of_decide_eq_true (exAt x 54 rfl), of_decide_eq_true (exAt x 55 rfl), of_decide_eq_true (exAt x 56 rfl), of_decide_eq_true (exAt x 57 rfl), of_decide_eq_true (exAt x 58 rfl)⟩
  have e := hfa.symm.trans g_law
  cases e
  have b := FunD.bindsA (ps := ["script"]) F_law fun _ _ _ _ _ _ us hl => match us, hl with | [_], _ => rfl
  refine ⟨fd_law, fun s v => b s [v] rfl, fun base _ _ => ?_⟩
  have D__has_shape : DOk P w K mg base CX0 "_has_shape" _ _ _ := ⟨⟨_, _, ok_shape F__has_shape T, g__has_shape, F__has_shape.kp, b__has_shape⟩⟩
  have D__has_identity : DOk P w K mg base CX0 "_has_identity" _ _ _ := ⟨⟨_, _, ok_idn F__has_identity T, g__has_identity, F__has_identity.kp, b__has_identity⟩⟩
  have D__has_inverses : DOk P w K mg base CX0 "_has_inverses" _ _ _ := ⟨⟨_, _, ok_invs F__has_inverses T, g__has_inverses, F__has_inverses.kp, b__has_inverses⟩⟩
  have D__is_associative : DOk P w K mg base CX0 "_is_associative" _ _ _ := ⟨⟨_, _, ok_asc F__is_associative T, g__is_associative, F__is_associative.kp, b__is_associative⟩⟩
  have D_Group : KOk P w K mg base (L2.CX P w) "Group" (He.ga K "Group") _ _ _ := ⟨⟨_, _, He.mkr_ok (c.fact 54 (f := .mkr "Group") rfl), ok_init F_Group___init__ T D__has_shape D__has_identity D__has_inverses D__is_associative, g_Group, b_Group___init__⟩⟩
  have M_Geq : EqOk P w K mg base CX0 (gC K) 1 ["self", "other"] (sp_geq K) := by
    have m := He.meth_ok (c.fact 4 (f := .meth "Group" "__eq__") rfl)
    exact ⟨⟨_, _, m.at_, m.fn, ok_geq F_Group___eq__ T T4, b_Group___eq__⟩⟩
  have D_Target : KOk P w K mg base (L2.CX P w) "Target" (He.ga K "Target") _ _ _ := ⟨⟨_, _, He.mkr_ok (c.fact 56 (f := .mkr "Target") rfl), ok_tinit F_Target___init__ T, g_Target, b_Target___init__⟩⟩
  have M_Teq : EqOk P w K mg base CX0 (tC K) 1 ["self", "other"] (sp_teq K) := by
    have m := He.meth_ok (c.fact 5 (f := .meth "Target" "__eq__") rfl)
    exact ⟨⟨_, _, m.at_, m.fn, ok_teq F_Target___eq__ T T4, b_Target___eq__⟩⟩
  have M_is_value : MOk P w K mg base CX0 (He.ga K "Target") "is_value" _ _ _ := ⟨He.cls_ok (c.fact 55 (f := .cls "Target") rfl), ⟨_, _, He.meth_ok (c.fact 6 (f := .meth "Target" "is_value") rfl), ok_isv F_Target_is_value T, b_Target_is_value⟩⟩
  have M_plus : MOk P w K mg base CX0 (He.ga K "Target") "plus" _ _ _ := ⟨He.cls_ok (c.fact 55 (f := .cls "Target") rfl), ⟨_, _, He.meth_ok (c.fact 7 (f := .meth "Target" "plus") rfl), ok_plus F_Target_plus T, b_Target_plus⟩⟩
  have M_minus : MOk P w K mg base CX0 (He.ga K "Target") "minus" _ _ _ := ⟨He.cls_ok (c.fact 55 (f := .cls "Target") rfl), ⟨_, _, He.meth_ok (c.fact 8 (f := .meth "Target" "minus") rfl), ok_minus F_Target_minus T, b_Target_minus⟩⟩
  have M_times : MOk P w K mg base CX0 (He.ga K "Target") "times" _ _ _ := ⟨He.cls_ok (c.fact 55 (f := .cls "Target") rfl), ⟨_, _, He.meth_ok (c.fact 9 (f := .meth "Target" "times") rfl), ok_times F_Target_times T, b_Target_times⟩⟩
  have M_all_values : MOk P w K mg base CX0 (He.ga K "Target") "all_values" _ _ _ := ⟨He.cls_ok (c.fact 55 (f := .cls "Target") rfl), ⟨_, _, He.meth_ok (c.fact 10 (f := .meth "Target" "all_values") rfl), ok_allv F_Target_all_values T, b_Target_all_values⟩⟩
  have M_position : MOk P w K mg base (L2.CX P w) (He.ga K "Target") "position" _ _ _ := ⟨He.cls_ok (c.fact 55 (f := .cls "Target") rfl), ⟨_, _, He.meth_ok (c.fact 11 (f := .meth "Target" "position") rfl), ok_pos F_Target_position T M_is_value, b_Target_position⟩⟩
  have M_value_at : MOk P w K mg base (L2.CX P w) (He.ga K "Target") "value_at" _ _ _ := ⟨He.cls_ok (c.fact 55 (f := .cls "Target") rfl), ⟨_, _, He.meth_ok (c.fact 12 (f := .meth "Target" "value_at") rfl), ok_vat F_Target_value_at T, b_Target_value_at⟩⟩
  have M_as_group : MOk P w K mg base CX0 (He.ga K "Target") "as_group" _ _ _ := ⟨He.cls_ok (c.fact 55 (f := .cls "Target") rfl), ⟨_, _, He.meth_ok (c.fact 13 (f := .meth "Target" "as_group") rfl), ok_asg F_Target_as_group T M_all_values M_plus M_position D_Group, b_Target_as_group⟩⟩
  have D__law_bag : DOk P w K mg base CX0 "_law_bag" _ _ _ := ⟨⟨_, _, ok_bag F__law_bag T, g__law_bag, F__law_bag.kp, b__law_bag⟩⟩
  have D__law_take : DOk P w K mg base CX0 "_law_take" _ _ _ := ⟨⟨_, _, ok_take F__law_take T, g__law_take, F__law_take.kp, b__law_take⟩⟩
  have D__law_common : DOk P w K mg base CX0 "_law_common" _ _ _ := ⟨⟨_, _, ok_common F__law_common T, g__law_common, F__law_common.kp, b__law_common⟩⟩
  have D__law_values : DOk P w K mg base CX0 "_law_values" _ _ _ := ⟨⟨_, _, ok_lvals F__law_values T, g__law_values, F__law_values.kp, b__law_values⟩⟩
  have D__law_target_table : DOk P w K mg base CX0 "_law_target_table" _ _ _ := ⟨⟨_, _, ok_ltab F__law_target_table T D__law_values, g__law_target_table, F__law_target_table.kp, b__law_target_table⟩⟩
  have D__law_is_integer : DOk P w K mg base CX0 "_law_is_integer" _ _ _ := ⟨⟨_, _, ok_isint F__law_is_integer T, g__law_is_integer, F__law_is_integer.kp, b__law_is_integer⟩⟩
  have S0 : DOk P w K mg base CX0 "_law_same" 1 ["told", "due"] (sp_same 0) := ⟨⟨_, _, Rd.fnFalse, g__law_same, F__law_same.kp, b__law_same⟩⟩
  have S1 : DOk P w K mg base CX0 "_law_same" 2 ["told", "due"] (sp_same 1) := ⟨⟨_, _, ok_same 0 F__law_same T D__law_is_integer S0, g__law_same, F__law_same.kp, b__law_same⟩⟩
  have S2 : DOk P w K mg base CX0 "_law_same" 3 ["told", "due"] (sp_same 2) := ⟨⟨_, _, ok_same 1 F__law_same T D__law_is_integer S1, g__law_same, F__law_same.kp, b__law_same⟩⟩
  have D__law_same : DOk P w K mg base CX0 "_law_same" 4 ["told", "due"] (sp_same 3) := ⟨⟨_, _, ok_same 2 F__law_same T D__law_is_integer S2, g__law_same, F__law_same.kp, b__law_same⟩⟩
  have D__law_good : DOk P w K mg base CX0 "_law_good" _ _ _ := ⟨⟨_, _, ok_good F__law_good T D__law_take, g__law_good, F__law_good.kp, b__law_good⟩⟩
  have D__law_exact : DOk P w K mg base CX0 "_law_exact" _ _ _ := ⟨⟨_, _, ok_exact F__law_exact T D__law_take, g__law_exact, F__law_exact.kp, b__law_exact⟩⟩
  have D__law_bad : DOk P w K mg base CX0 "_law_bad" _ _ _ := ⟨⟨_, _, ok_bad F__law_bad T D__law_take, g__law_bad, F__law_bad.kp, b__law_bad⟩⟩
  have D__law_list : DOk P w K mg base CX0 "_law_list" _ _ _ := ⟨⟨_, _, ok_list F__law_list T D__law_take D__law_good D__law_exact D__law_bad, g__law_list, F__law_list.kp, b__law_list⟩⟩
  have D__law_due : DOk P w K mg base CX0 "_law_due" _ _ _ := ⟨⟨_, _, ok_due F__law_due T, g__law_due, F__law_due.kp, b__law_due⟩⟩
  have D__law_told : DOk P w K mg base CX0 "_law_told" _ _ _ := ⟨⟨_, _, ok_told F__law_told T T5 D_Target, g__law_told, F__law_told.kp, b__law_told⟩⟩
  have D__law_decided : DOk P w K mg base CX0 "_law_decided" _ _ _ := ⟨⟨_, _, ok_decided F__law_decided T D__law_told D__law_due D__law_same, g__law_decided, F__law_decided.kp, b__law_decided⟩⟩
  have D__law_spoilt : DOk P w K mg base CX0 "_law_spoilt" _ _ _ := ⟨⟨_, _, ok_spoilt F__law_spoilt T D__law_take, g__law_spoilt, F__law_spoilt.kp, b__law_spoilt⟩⟩
  have D__law_refused : DOk P w K mg base CX0 "_law_refused" _ _ _ := ⟨⟨_, _, ok_refused F__law_refused T T5 M_position M_value_at, g__law_refused, F__law_refused.kp, b__law_refused⟩⟩
  have D__law_numbered : DOk P w K mg base CX0 "_law_numbered" _ _ _ := ⟨⟨_, _, ok_numbered F__law_numbered T D__law_same M_position M_value_at M_is_value, g__law_numbered, F__law_numbered.kp, b__law_numbered⟩⟩
  have D__law_outside : DOk P w K mg base CX0 "_law_outside" _ _ _ := ⟨⟨_, _, ok_outside F__law_outside T D__law_take D__law_same D__law_spoilt D__law_refused M_is_value, g__law_outside, F__law_outside.kp, b__law_outside⟩⟩
  have D__law_computed : DOk P w K mg base CX0 "_law_computed" _ _ _ := ⟨⟨_, _, ok_computed F__law_computed T D__law_take D__law_same M_plus M_minus M_times, g__law_computed, F__law_computed.kp, b__law_computed⟩⟩
  have D__law_grouped : DOk P w K mg base CX0 "_law_grouped" _ _ _ := ⟨⟨_, _, ok_grouped F__law_grouped T T4 D__law_target_table D__law_same M_as_group M_Teq M_Geq, g__law_grouped, F__law_grouped.kp, b__law_grouped⟩⟩
  have D__law_accepted : DOk P w K mg base CX0 "_law_accepted" _ _ _ := ⟨⟨_, _, ok_accepted F__law_accepted T D_Target D__law_values D__law_common D__law_same M_all_values D__law_numbered D__law_outside D__law_computed D__law_take D__law_grouped, g__law_accepted, F__law_accepted.kp, b__law_accepted⟩⟩
  have D__law_compared : DOk P w K mg base CX0 "_law_compared" _ _ _ := ⟨⟨_, _, ok_compared F__law_compared T D_Target D__law_values D__law_same M_Teq, g__law_compared, F__law_compared.kp, b__law_compared⟩⟩
  exact ok_law F_law T D__law_bag D__law_take D__law_list D__law_decided D__law_due D__law_good D__law_accepted D__law_compared
end K02

set_option Elab.async false
set_option linter.all false
namespace K02
open PySem PySem.Spec PyProof.Rows L2 Rd
set_option maxRecDepth 100000
set_option maxHeartbeats 0
theorem runL (w : World) : HandSHeadRun.RunEqI RR (PySem.W.view RR.prog [0, 42]) hkL obL 20000 looseL w := by
  unfold HandSHeadRun.RunEqI
  kernel_rfl
end K02
open PySem PySem.W PySem.Calls PyProof.Rows
set_option maxRecDepth 100000 in
set_option maxHeartbeats 0 in
theorem PySem.Challenge.cw_stepsvanish_k02_targets_let_by_holds : PySem.Challenge.rw_stepsvanish_k02_targets_let_by.Holds := by
  w_on; o_law
  refine HandSHeadRun.head_imp (r := OpenLaw.row PySem.Challenge.rw_stepsvanish_k02_targets_let_by) (q := view (OpenLaw.row PySem.Challenge.rw_stepsvanish_k02_targets_let_by).prog [0, 42]) (H := K02.hkL) (ob := K02.obL) (M := 20000) (loose := K02.looseL) (d := HandSHeadRun.topDef (OpenLaw.row PySem.Challenge.rw_stepsvanish_k02_targets_let_by).prog 42) (kwd := []) K02.obL_eq
    K02.runL (by kernel_rfl) (by kernel_rfl) (by kernel_rfl) (by rfl) (by first | assumption | decide +kernel) (by decide +kernel) ⟨rfl, rfl, rfl, rfl, rfl, by decide +kernel⟩ ?hw ?hc
  case hw => w_witness2
  case hc =>
    refine L2.walk_ofE (l := PySem.Challenge.rw_stepsvanish_k02_targets_let_by) (n := 63) (k := 7) (x := "script") (CX := L2.CX0) rfl (by decide) (by kernel_rfl) ⟨rfl, by decide, by decide⟩ ?F (fun _ _ _ _ z => z)
    intro w mg fa h Y G hmg0
    obtain ⟨K, KX, c, x⟩ := Y
    have hmg : mg ("law" : PySem.Str) = some (.ref fa) := by
      have e : (HandSHeadRun.topDef (OpenLaw.row PySem.Challenge.rw_stepsvanish_k02_targets_let_by).prog 42).name = ("law" : PySem.Str) := by kernel_rfl
      rw [← e]
      exact hmg0
    obtain ⟨fd, hb, hF⟩ := K02.factsL (P := (PySem.Challenge.rw_stepsvanish_k02_targets_let_by).prog) (w := w) KX G hmg c x
    exact ⟨K, fd, K02.sp_law K, KX, hb, fun H a ns hl _ hS => ⟨a, ns, rfl, hS, hl, fun _ => rfl⟩, hF⟩
