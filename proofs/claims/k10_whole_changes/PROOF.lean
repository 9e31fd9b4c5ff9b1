import PyProof.Rows.All
import Wide.All
import OpenK.AllK
import Wide.FinOn
import HandS.ForMost
import HandS.ForExc
import HandS.TryMany
import HandS.ExcIs
import HandS.IsInst
import HandS.Evl
import HandS.Wide
import HandS.SortRule
import HandS.HotCalls
import HandS.Style
import HandS.Star
import HandS.Codes
import HandS.TupSets
import HandS.Replace
import HandS.StrMore
import KE.OsScanText
import PySem.Challenge.RW_hillsight_k10_whole_changes
set_option Elab.async false
set_option linter.all false
set_option maxRecDepth 100000
set_option maxHeartbeats 4000000
/-! Hx: a thin layer of our own over HandS and Evl: called defs as one fact, values of the usual expressions, equality of int lists. -/
namespace Hx
open PySem PySem.Spec PyProof.Rows L2 Evl
/-- the built-in names that stay free in the module -/
structure Blt (mg : Str → Option Value) : Prop where
  m_len : mg "len" = none
  m_range : mg "range" = none
  m_isinstance : mg "isinstance" = none
  m_int : mg "int" = none
  m_bool : mg "bool" = none
  m_list : mg "list" = none
  m_tuple : mg "tuple" = none
  m_min : mg "min" = none
  m_max : mg "max" = none
  m_all : mg "all" = none
  m_sorted : mg "sorted" = none
  m_zip : mg "zip" = none
  m_abs : mg "abs" = none
  m_any : mg "any" = none
  m_set : mg "set" = none
  m_str : mg "str" = none
  m_ValueError : mg "ValueError" = none
/-- a def of the module that keeps a promise -/
structure Cal (P : Program) (w : World) (K : PySem.W.Frag) (mg : Str → Option Value) (base : Heap) (x : Str) (k : Nat) (ps : List Str) (sp : Sp) : Prop where
  ex : ∃ f fd, FnOk P w K mg base CX0 k f fd ps sp ∧ mg x = some (.ref f) ∧ PySem.W.keepIn K (.ref f) = true ∧ Binds K fd ps []
section
variable {X : Cx}
theorem pe_cal {x : Str} {k j : Nat} {ps : List Str} {sp : Sp} {p pos : Pos} {e : Expr} {es : List Expr} {t : TA} (C : Cal X.prog X.w X.K X.mg X.base x k ps sp) (hr : Room j X.A) (ha : PA X (e :: es) t) (hk : k ≤ j := by decide) (hg : Gl X x := by rfl)
    (hdb : (x == ("__debug__" : Str)) = false := by decide) (he : starEach (e :: es) X.env = (false, eval e X.env) :: starEach es X.env := by rfl) (hpl : (backTo pos (starEach es X.env)).any (·.1) = false := by rfl) :
    PE X (.Call (.Name x p) (e :: es) [] pos) (tCall sp [] E0 t) := by
  obtain ⟨f, fd, F, hm, kp, b⟩ := C.ex
  exact pe_call F (hr.mono hk) hg hm kp b .nil pass0 ha hdb he hpl
end
section
variable {K : PySem.W.Frag} {σ : L2.St} {H H' : Hp} {ta tb te tx : TE} {t u : TT} {x y z v : V} {D : Ends} {tu tw tz : TS} {g : TG}
theorem ex_at {H H' : Hp} {a : Addr} {o : HO} (e : Ex H H') (h : H a = some o) : H' a = some o := e a o h
theorem ex_step {H H1 H2 : Hp} (b : Ex H1 H2) (a : Ex H H1) : Ex H H2 := a.trans b
/-! ### values -/
theorem ev_int {i j : Int} (h : Ev te σ H (.int i)) (e : i = j) : Ev te σ H (.int j) := e ▸ h
theorem rc_isi {x : V} {t : Value} {T : String} {b : Bool} (ty : ∀ H1, Ex H H1 → TyX K H1 x t) (e : PySem.W.kitOne K t (.type T) = some b) : RC (rIsi K) [x, .ty T] H (.bl b) :=
  fun H1 e1 Q q => ⟨x, .ty T, t, .type T, b, rfl, .ty T, ty H1 e1, e, q H1 (Ex.refl H1)⟩
theorem rc_isi_int {i : Int} {T : String} {b : Bool} (e : kitB "int" T = some b) : RC (rIsi K) [.int i, .ty T] H (.bl b) := rc_isi (fun _ _ => .base (.int i)) (kit_ty e)
theorem rc_isi_bl {i : Bool} {T : String} {b : Bool} (e : kitB "bool" T = some b) : RC (rIsi K) [.bl i, .ty T] H (.bl b) := rc_isi (fun _ _ => .base (.bl i)) (kit_ty e)
theorem rc_isi_non {T : String} {b : Bool} (e : kitB "NoneType" T = some b) : RC (rIsi K) [.non, .ty T] H (.bl b) := rc_isi (fun _ _ => .base .non) (kit_ty e)
theorem rc_isi_str {i : Str} {T : String} {b : Bool} (e : kitB "str" T = some b) : RC (rIsi K) [.str i, .ty T] H (.bl b) := rc_isi (fun _ _ => .base (.str i)) (kit_ty e)
theorem rc_isi_lst {a : Addr} {xs : List V} {T : String} {b : Bool} (h : H a = some (.lst xs)) (e : kitB "list" T = some b) : RC (rIsi K) [.ref a, .ty T] H (.bl b) := rc_isi (fun _ e1 => .base (.lst (e1 _ _ h))) (kit_ty e)
theorem rc_isi_tup {a : Addr} {xs : List V} {T : String} {b : Bool} (h : H a = some (.tup xs)) (e : kitB "tuple" T = some b) : RC (rIsi K) [.ref a, .ty T] H (.bl b) := rc_isi (fun _ e1 => .base (.tup (e1 _ _ h))) (kit_ty e)
theorem rc_len {p : Addr} {ys : List V} (h : SqL K H p ys) : RC (fun xs H Q => ∃ p ys, xs = [V.ref p] ∧ (SqL K H p ys ∨ SqT K H p ys) ∧ Q (.int ys.length) H) [.ref p] H (.int (ys.length : Int)) :=
  fun H1 e Q q => ⟨p, ys, rfl, .inl (ex_l e h), q H1 (Ex.refl H1)⟩
theorem rc_lenT {p : Addr} {ys : List V} (h : SqT K H p ys) : RC (fun xs H Q => ∃ p ys, xs = [V.ref p] ∧ (SqL K H p ys ∨ SqT K H p ys) ∧ Q (.int ys.length) H) [.ref p] H (.int (ys.length : Int)) :=
  fun H1 e Q q => ⟨p, ys, rfl, .inr (ex_t e h), q H1 (Ex.refl H1)⟩
theorem rcl_list {p : Addr} {ys : List V} (h : SqL K H p ys) : RCL (fun xs H Q => ∃ p ys, xs = [V.ref p] ∧ (SqL K H p ys ∨ SqT K H p ys) ∧ ∀ l, H l = none → Q (.ref l) (upd H l (.lst ys))) [.ref p] H ys :=
  fun H1 e Q q => ⟨p, ys, rfl, .inl (ex_l e h), fun l hl => q l _ hl (Ex.new hl) upd_same⟩
theorem rc_min {i j : Int} : RC (fun xs H Q => ∃ i j, xs = [V.int i, V.int j] ∧ Q (.int (if j < i then j else i)) H) [.int i, .int j] H (.int (min i j)) := fun H1 _ Q q => ⟨i, j, rfl, by
  have e : (if j < i then j else i) = min i j := by rw [Int.min_def]; split <;> split <;> omega
  rw [e]; exact q H1 (Ex.refl H1)⟩
theorem rc_max {i j : Int} : RC (fun xs H Q => ∃ i j, xs = [V.int i, V.int j] ∧ Q (.int (if j > i then j else i)) H) [.int i, .int j] H (.int (max i j)) := fun H1 _ Q q => ⟨i, j, rfl, by
  have e : (if j > i then j else i) = max i j := by rw [Int.max_def]; split <;> split <;> omega
  rw [e]; exact q H1 (Ex.refl H1)⟩
theorem kb_int_int : kitB "int" "int" = some true := by decide +kernel
theorem kb_int_bool : kitB "int" "bool" = some false := by decide +kernel
theorem kb_bool_int : kitB "bool" "int" = some true := by decide +kernel
theorem kb_bool_bool : kitB "bool" "bool" = some true := by decide +kernel
theorem kb_NoneType_int : kitB "NoneType" "int" = some false := by decide +kernel
theorem kb_NoneType_bool : kitB "NoneType" "bool" = some false := by decide +kernel
theorem kb_str_int : kitB "str" "int" = some false := by decide +kernel
theorem kb_str_bool : kitB "str" "bool" = some false := by decide +kernel
theorem kb_list_list : kitB "list" "list" = some true := by decide +kernel
theorem kb_tuple_tuple : kitB "tuple" "tuple" = some true := by decide +kernel
theorem kb_list_int : kitB "list" "int" = some false := by decide +kernel
theorem kb_tuple_int : kitB "tuple" "int" = some false := by decide +kernel
theorem kb_list_bool : kitB "list" "bool" = some false := by decide +kernel
theorem kb_tuple_bool : kitB "tuple" "bool" = some false := by decide +kernel
theorem kb_list_tuple : kitB "list" "tuple" = some false := by decide +kernel
theorem kb_tuple_list : kitB "tuple" "list" = some false := by decide +kernel
theorem kb_int_list : kitB "int" "list" = some false := by decide +kernel
theorem kb_int_tuple : kitB "int" "tuple" = some false := by decide +kernel
theorem rc_intb {k : Bool} : RC (fun xs H Q => (∃ i, xs = [V.int i] ∧ Q (.int i) H) ∨ ∃ k, xs = [V.bl k] ∧ Q (.int (if k then 1 else 0)) H) [.bl k] H (.int (if k then 1 else 0)) := fun H1 _ _ q => .inr ⟨k, rfl, q H1 (Ex.refl H1)⟩
/-! ### int lists compared -/
theorem dp_ints : ∀ ns : List Int, DpAll K H (ns.map V.int) (ns.map PyData.int)
  | [] => .nil
  | n :: r => .cons (.int n) (dp_ints r)
theorem ints_lay : ∀ ns : List Int, PyData.canLayAll0 (ns.map PyData.int) = true
  | [] => by simp [PyData.canLayAll0]
  | n :: r => by simp [PyData.canLayAll0, PyData.canLay0, ints_lay r]
theorem ints_depth : ∀ ns : List Int, PyData.depthAll (ns.map PyData.int) ≤ 1
  | [] => by simp [PyData.depthAll]
  | n :: r => by
    have h := ints_depth r
    simp only [List.map_cons, PyData.depthAll, PyData.depth]
    omega
theorem ints_shaped (ns : List Int) : SeqAt.shaped (.list (ns.map PyData.int)) = true := by
  have h1 := ints_depth ns
  have h2 : PyData.depth (.list (ns.map PyData.int)) ≤ 64 := by
    simp only [PyData.depth]
    omega
  show (PyData.canLay0 (.list (ns.map PyData.int)) && decide (PyData.depth (.list (ns.map PyData.int)) ≤ 64)) = true
  rw [Bool.and_eq_true]
  exact ⟨by simp only [PyData.canLay0]; exact ints_lay ns, decide_eq_true h2⟩
theorem ints_eqvAll : ∀ ns ms : List Int, PyData.eqvAll (ns.map PyData.int) (ms.map PyData.int) = decide (ns = ms)
  | [], [] => by simp [PyData.eqvAll]
  | [], _ :: _ => by simp [PyData.eqvAll]
  | _ :: _, [] => by simp [PyData.eqvAll]
  | n :: r, m :: s => by
    have h := ints_eqvAll r s
    simp only [List.map_cons, PyData.eqvAll, PyData.eqv, h]
    by_cases e : n = m <;> by_cases e2 : r = s <;> simp [e, e2]
theorem ints_eqv (ns ms : List Int) : PyData.eqv (.list (ns.map PyData.int)) (.list (ms.map PyData.int)) = decide (ns = ms) := by
  simp only [PyData.eqv, ints_eqvAll]
theorem rv_eqI {p q : Addr} {ns ms : List Int} (h1 : SqL K H p (ns.map V.int)) (h2 : SqL K H q (ms.map V.int)) : RV (rEqD K) (.ref p) (.ref q) H (.bl (decide (ns = ms))) :=
  fun H1 e Q k => ⟨_, _, .lst (ex_l e h1) (dp_ints ns), .lst (ex_l e h2) (dp_ints ms), ints_shaped ns, ints_shaped ms, by rw [ints_eqv]; exact k H1 (Ex.refl H1)⟩
theorem rv_neI {p q : Addr} {ns ms : List Int} (h1 : SqL K H p (ns.map V.int)) (h2 : SqL K H q (ms.map V.int)) : RV (rNeD K) (.ref p) (.ref q) H (.bl (!decide (ns = ms))) :=
  fun H1 e Q k => ⟨_, _, .lst (ex_l e h1) (dp_ints ns), .lst (ex_l e h2) (dp_ints ms), ints_shaped ns, ints_shaped ms, by rw [ints_eqv]; exact k H1 (Ex.refl H1)⟩
/-! ### promises of one shape -/
/-- a def that hands back a value and leaves all as it was: R tells which -/
def spV (R : List V → Hp → V → Prop) : Sp := fun vs H Q _ => ∃ v, R vs H v ∧ RetV v H Q
/-- a def that hands back a new list, a new tuple -/
def spL (R : List V → Hp → List V → Prop) : Sp := fun vs H Q _ => ∃ xs, R vs H xs ∧ RetL xs H Q
def RetU (xs : List V) (H : Hp) (Q : VK) : Prop := ∀ p H2, H p = none → Ex H H2 → H2 p = some (.tup xs) → Q (.ref p) H2
def spU (R : List V → Hp → List V → Prop) : Sp := fun vs H Q _ => ∃ xs, R vs H xs ∧ RetU xs H Q
theorem ev_cal {R : List V → Hp → V → Prop} {vs : List V} {E : XK} {ta : TA} (h : EvA ta σ H vs) (hs : ∀ H1, Ex H H1 → R vs H1 z) : Ev (tCall (spV R) [] E ta) σ H z :=
  ev_call (vs := vs) h fun H1 e Q q E => ⟨z, by rw [List.append_nil]; exact hs H1 e, q⟩
theorem el_cal {R : List V → Hp → List V → Prop} {vs xs : List V} {E : XK} {ta : TA} (h : EvA ta σ H vs) (hs : ∀ H1, Ex H H1 → R vs H1 xs) : EvL (tCall (spL R) [] E ta) σ H xs :=
  el_call (vs := vs) h fun H1 e Q q E => ⟨xs, by rw [List.append_nil]; exact hs H1 e, q⟩
theorem eu_cal {R : List V → Hp → List V → Prop} {vs xs : List V} {E : XK} {ta : TA} (h : EvA ta σ H vs) (hs : ∀ H1, Ex H H1 → R vs H1 xs) : EvU (tCall (spU R) [] E ta) σ H xs :=
  fun H1 e Q q => h H1 e _ fun H2 e2 => ⟨xs, by rw [List.append_nil]; exact hs H2 (e.trans e2), fun p H3 hp e3 h3 => q p H3 (fresh_back e2 hp) (e2.trans e3) h3⟩
/-! ### a new tuple walked; a tuple unpacked -/
theorem s_forNT {xs : List V} {tl : TE} (h : EvU tl σ H xs) (Pv : Addr → Nat → L2.St → Hp → Prop) (h0 : ∀ p H1, H p = none → Ex H H1 → H1 p = some (.tup xs) → Pv p 0 σ H1) (hl : ∀ p i σ' H', i ≤ xs.length → Pv p i σ' H' → SqT K H' p xs)
    (hs : ∀ p i x σ' H', xs[i]? = some x → Pv p i σ' H' → g x σ' H' fun σ2 H2 => tu { D with nx := Pv p (i + 1), ct := Pv p (i + 1), bk := D.nx } σ2 H2) (hd : ∀ p σ' H', Pv p xs.length σ' H' → D.nx σ' H') : tFor (iTup K tl) g tu D σ H :=
  h H (Ex.refl H) _ fun p H1 hp e h1 => ⟨p, rfl, ⟨xs, st_of h1⟩, for_tup (Pv p) (h0 p H1 hp e h1) (hl p) (hs p) (hd p)⟩
theorem q_forNT {xs : List V} {tl : TE} (h : EvU tl σ H xs) (Pv : Addr → Nat → L2.St → Hp → Prop) (h0 : ∀ p H1, H p = none → Ex H H1 → H1 p = some (.tup xs) → Pv p 0 σ H1) (hl : ∀ p i σ' H', i ≤ xs.length → Pv p i σ' H' → SqT K H' p xs)
    (hs : ∀ p i x σ' H', xs[i]? = some x → Pv p i σ' H' → g x σ' H' fun σ2 H2 => tu { D with nx := Pv p (i + 1), ct := Pv p (i + 1), bk := tz D } σ2 H2) (hd : ∀ p σ' H', Pv p xs.length σ' H' → tz D σ' H') : tSeq (tFor (iTup K tl) g tu) tz D σ H :=
  s_forNT (D := { D with nx := tz D }) h Pv h0 hl hs hd
theorem g_tup2 {i j : Nat} {p : Addr} {x y : V} {Q : L2.St → Hp → Prop} (h : SqT K H p [x, y]) (q : Q ((σ.set i (some x)).set j (some y)) H) : gTup K 2 (gCons (gName i) (gCons (gName j) gNil)) (.ref p) σ H Q :=
  ⟨p, [x, y], rfl, h, rfl, x, [y], rfl, y, [], rfl, rfl, q⟩
theorem q_unpack {i j : Nat} {p : Addr} (ha : Ev te σ H (.ref p)) (h : SqT K H p [x, y]) (k : ∀ H1, Ex H H1 → tz D ((σ.set i (some x)).set j (some y)) H1) : tSeq (tAsg te (gTup K 2 (gCons (gName i) (gCons (gName j) gNil)))) tz D σ H :=
  ha H (Ex.refl H) _ fun H1 e => g_tup2 (ex_t e h) (k H1 e)
/-- a chain of two comparisons of ints, as a value -/
theorem ev_chain {r r' : R2} {tc : TE} {y w : V} {a b : Bool} (ha : Ev ta σ H x) (hb : Ev tb σ H y) (hc : Ev tc σ H w) (h1 : RV r x y H (.bl a)) (h2 : RV r' y w H (.bl b)) : Ev (tChain r r' ta tb tc) σ H (.bl (a && b)) := fun H1 e Q q =>
  ha H1 e _ fun H2 e2 => hb H2 (e.trans e2) _ fun H3 e3 => h1 H3 ((e.trans e2).trans e3) _ fun H4 e4 => ⟨a, rfl, by
    have e' := (((e.trans e2).trans e3).trans e4)
    have e'' := ((e2.trans e3).trans e4)
    cases a with
    | true => exact hc H4 e' _ fun H5 e5 => h2 H5 (e'.trans e5) _ fun H6 e6 => q H6 ((e''.trans e5).trans e6)
    | false => exact q H4 e''⟩
end
/-! ### the cells of a script -/
def cel (ns : List Int) (j : Int) : Int := ns.getD j.toNat 0
theorem getD_ix {ns : List Int} {j : Int} (h0 : 0 ≤ j) (h : j < (ns.length : Int)) : atI (ns.map V.int) j = some (V.int (cel ns j)) := by
  unfold cel
  have h1 : j.toNat < ns.length := by omega
  have e : j = ((j.toNat : Nat) : Int) := by omega
  have e2 : (ns.map V.int)[j.toNat]? = some (V.int (ns.getD j.toNat 0)) := by
    rw [List.getElem?_map, List.getD_eq_getElem?_getD, List.getElem?_eq_getElem h1]
    rfl
  have h3 := atI_nat e2
  rw [← e] at h3
  exact h3
def RCel (K : PySem.W.Frag) (vs : List V) (H : Hp) (v : V) : Prop := ∃ (l : Addr) (ns : List Int) (j : Int), vs = [.ref l, .int j] ∧ 0 ≤ j ∧ SqL K H l (ns.map V.int) ∧ v = .int (cel ns j)
/-- what the def that looks whether a thing is a whole number hands back, of the things it is asked of -/
def RWhole (vs : List V) (_ : Hp) (v : V) : Prop := ∃ x, vs = [x] ∧ (((∃ i, x = .int i) ∧ v = .bl true) ∨ (x = .non ∧ v = .bl false) ∨ ((∃ b, x = .bl b) ∧ v = .bl false) ∨ ((∃ b, x = .str b) ∧ v = .bl false))
def RSlope (K : PySem.W.Frag) (vs : List V) (H : Hp) (xs : List V) : Prop := ∃ (l : Addr) (ns : List Int) (a b : Int), vs = [.ref l, .int a, .int b] ∧ 0 ≤ a ∧ a < (ns.length : Int) ∧ 0 ≤ b ∧ b < (ns.length : Int) ∧ SqL K H l (ns.map V.int) ∧
  xs = [.int (cel ns b - cel ns a), .int (b - a)]
def RSteeper (K : PySem.W.Frag) (vs : List V) (H : Hp) (v : V) : Prop := ∃ (p1 p2 : Addr) (r1 n1 r2 n2 : Int), vs = [.ref p1, .ref p2] ∧ SqT K H p1 [.int r1, .int n1] ∧ SqT K H p2 [.int r2, .int n2] ∧
  -(2 ^ 64) < n1 ∧ n1 < 2 ^ 64 ∧ -(2 ^ 64) < n2 ∧ n2 < 2 ^ 64 ∧ v = .bl (decide (r2 * n1 < r1 * n2))
section
variable {K : PySem.W.Frag} {σ : L2.St} {H : Hp} {ta : TA} {E : XK}
theorem ev_cel {l : Addr} {ns : List Int} {j : Int} (h : EvA ta σ H [.ref l, .int j]) (hs : SqL K H l (ns.map V.int)) (h0 : 0 ≤ j) : Ev (tCall (spV (RCel K)) [] E ta) σ H (.int (cel ns j)) :=
  ev_cal h fun _ e => ⟨l, ns, j, rfl, h0, ex_l e hs, rfl⟩
theorem ev_whole {i : Int} (h : EvA ta σ H [.int i]) : Ev (tCall (spV RWhole) [] E ta) σ H (.bl true) := ev_cal h fun _ _ => ⟨_, rfl, .inl ⟨⟨i, rfl⟩, rfl⟩⟩
theorem eu_slope {l : Addr} {ns : List Int} {a b : Int} (h : EvA ta σ H [.ref l, .int a, .int b]) (hs : SqL K H l (ns.map V.int)) (a0 : 0 ≤ a) (a1 : a < (ns.length : Int)) (b0 : 0 ≤ b) (b1 : b < (ns.length : Int)) :
    EvU (tCall (spU (RSlope K)) [] E ta) σ H [.int (cel ns b - cel ns a), .int (b - a)] := eu_cal h fun _ e => ⟨l, ns, a, b, rfl, a0, a1, b0, b1, ex_l e hs, rfl⟩
theorem ev_steeper {p1 p2 : Addr} {r1 n1 r2 n2 : Int} (h : EvA ta σ H [.ref p1, .ref p2]) (h1 : SqT K H p1 [.int r1, .int n1]) (h2 : SqT K H p2 [.int r2, .int n2]) (b1 : -(2 ^ 64) < n1) (b2 : n1 < 2 ^ 64) (b3 : -(2 ^ 64) < n2) (b4 : n2 < 2 ^ 64) :
    Ev (tCall (spV (RSteeper K)) [] E ta) σ H (.bl (decide (r2 * n1 < r1 * n2))) := ev_cal h fun _ e => ⟨p1, p2, r1, n1, r2, n2, rfl, ex_t e h1, ex_t e h2, b1, b2, b3, b4, rfl⟩
end
end Hx
namespace Hx
open PySem PySem.Spec PyProof.Rows L2 Evl
/-! ### the lands that the laws build -/
def heightOf (c k kind tilt : Int) : Int :=
  if kind = 0 then c % 7 - 3 else if kind = 1 then tilt * k + c % 2 else if kind = 2 then c * 48271 % (2 * 1000000000000000000 + 1) - 1000000000000000000
  else if kind = 3 then k * k * (tilt % 3 - 1) + c % 3 else 1000000000000000000 - c % 3
def RHeight (vs : List V) (_ : Hp) (v : V) : Prop := ∃ c k kind tilt : Int, vs = [.int c, .int k, .int kind, .int tilt] ∧ 0 ≤ k ∧ k ≤ 1000 ∧ -3 ≤ tilt ∧ tilt ≤ 3 ∧ v = .int (heightOf c k kind tilt)
def kindOf (ns : List Int) (most : Int) : Int := cel ns 0 / most % 5
def tiltOf (ns : List Int) (most : Int) : Int := cel ns 0 / most / 5 % 7 - 3
def landOf (ns : List Int) (most : Int) : List Int := (List.range (1 + cel ns 0 % most).toNat).map fun (k : Nat) => heightOf (cel ns (3 + (k : Int))) k (kindOf ns most) (tiltOf ns most)
def RLand (K : PySem.W.Frag) (vs : List V) (H : Hp) (xs : List V) : Prop := ∃ (l : Addr) (ns : List Int) (most : Int), vs = [.ref l, .int most] ∧ 1 ≤ most ∧ most ≤ 100 ∧ SqL K H l (ns.map V.int) ∧ xs = (landOf ns most).map V.int
def moreOf (ns : List Int) (most : Int) (n : Int) (k : Nat) : Int := heightOf (cel ns (3 + (k : Int) % 20) * ((k : Int) + 5)) (n + (k : Int)) (kindOf ns most) (tiltOf ns most)
def longerOf (ns land : List Int) (most many : Int) : List Int := land ++ (List.range many.toNat).map (moreOf ns most land.length)
def RLonger (K : PySem.W.Frag) (vs : List V) (H : Hp) (xs : List V) : Prop := ∃ (l b : Addr) (ns land : List Int) (most many : Int), vs = [.ref l, .ref b, .int most, .int many] ∧ 1 ≤ most ∧ most ≤ 100 ∧ 0 ≤ many ∧ (land.length : Int) + many ≤ 1000 ∧ SqL K H l (ns.map V.int) ∧ SqL K H b (land.map V.int) ∧
  xs = (longerOf ns land most many).map V.int
theorem landOf_len (ns : List Int) (most : Int) : (landOf ns most).length = (1 + cel ns 0 % most).toNat := by
  unfold landOf
  rw [List.length_map, List.length_range]
theorem longerOf_len (ns land : List Int) (most many : Int) : (longerOf ns land most many).length = land.length + many.toNat := by
  unfold longerOf
  rw [List.length_append, List.length_map, List.length_range]
section
variable {K : PySem.W.Frag} {σ : L2.St} {H : Hp} {ta : TA} {E : XK}
theorem ev_height {c k kind tilt : Int} (h : EvA ta σ H [.int c, .int k, .int kind, .int tilt]) (h1 : 0 ≤ k) (h2 : k ≤ 1000) (h3 : -3 ≤ tilt) (h4 : tilt ≤ 3) : Ev (tCall (spV RHeight) [] E ta) σ H (.int (heightOf c k kind tilt)) :=
  ev_cal h fun _ _ => ⟨c, k, kind, tilt, rfl, h1, h2, h3, h4, rfl⟩
theorem el_land {l : Addr} {ns : List Int} {most : Int} (h : EvA ta σ H [.ref l, .int most]) (hs : SqL K H l (ns.map V.int)) (h1 : 1 ≤ most) (h2 : most ≤ 100) : EvL (tCall (spL (RLand K)) [] E ta) σ H ((landOf ns most).map V.int) :=
  el_cal h fun _ e => ⟨l, ns, most, rfl, h1, h2, ex_l e hs, rfl⟩
theorem el_longer {l b : Addr} {ns land : List Int} {most many : Int} (h : EvA ta σ H [.ref l, .ref b, .int most, .int many]) (hs : SqL K H l (ns.map V.int)) (hb : SqL K H b (land.map V.int)) (h1 : 1 ≤ most) (h2 : most ≤ 100) (h3 : 0 ≤ many) (h4 : (land.length : Int) + many ≤ 1000) :
    EvL (tCall (spL (RLonger K)) [] E ta) σ H ((longerOf ns land most many).map V.int) := el_cal h fun _ e => ⟨l, b, ns, land, most, many, rfl, h1, h2, h3, h4, ex_l e hs, ex_l e hb, rfl⟩
theorem et_yes : EvT tYes σ H true := fun H1 _ _ q => q H1 (Ex.refl H1)
theorem given_all {n : Nat} {v : Nat → V} {g : Nat → Int} (h : ∀ i, v i = .int (g i)) : given n (fun _ => true) v = ((List.range n).map g).map V.int := by
  unfold given
  rw [List.filter_eq_self.mpr (fun _ _ => rfl), List.map_map]
  exact List.map_congr_left fun i _ => h i
end
end Hx
namespace Hx
open PySem PySem.Spec PyProof.Rows L2 Evl
section
variable {K : PySem.W.Frag} {σ : L2.St} {H : Hp} {ta tb : TE} {x : V}
theorem rv_isN : RV (fun x y H Q => y = .non ∧ Q (.bl (decide (x = .non))) H) x .non H (.bl (decide (x = .non))) := fun H1 _ _ q => ⟨rfl, q H1 (Ex.refl H1)⟩
theorem rv_notN : RV (fun x y H Q => y = .non ∧ Q (.bl (!decide (x = .non))) H) x .non H (.bl (!decide (x = .non))) := fun H1 _ _ q => ⟨rfl, q H1 (Ex.refl H1)⟩
end
end Hx
namespace Hx
open PySem PySem.Spec PyProof.Rows L2 Evl
section
variable {σ : L2.St} {H : Hp}
theorem ev_pow {a b c : Int} (h1 : CPow a b) (h2 : a ^ b.toNat = c) : Ev (tOp (rI CPow fun i j => .int (i ^ j.toNat)) (tC (.int a)) (tC (.int b))) σ H (.int c) := h2 ▸ ev_op ev_c ev_c (rv_I h1)
theorem ev_pow18 : Ev (tOp (rI CPow fun i j => .int (i ^ j.toNat)) (tC (.int 10)) (tC (.int 18))) σ H (.int 1000000000000000000) := ev_pow ⟨by decide, by decide, by decide⟩ (by decide)
theorem ev_pow14 : Ev (tOp (rI CPow fun i j => .int (i ^ j.toNat)) (tC (.int 10)) (tC (.int 14))) σ H (.int 100000000000000) := ev_pow ⟨by decide, by decide, by decide⟩ (by decide)
theorem ev_pow9 : Ev (tOp (rI CPow fun i j => .int (i ^ j.toNat)) (tC (.int 10)) (tC (.int 9))) σ H (.int 1000000000) := ev_pow ⟨by decide, by decide, by decide⟩ (by decide)
end
end Hx
/-! The mathematics of looking: which hills see each other, by products of whole numbers. -/
namespace Hx
/-- the slope from a to k is less than that from a to b -/
def lowB (land : List Int) (a b k : Int) : Prop := (cel land k - cel land a) * (b - a) < (cel land b - cel land a) * (k - a)
instance {land : List Int} {a b k : Int} : Decidable (lowB land a b k) := by unfold lowB; infer_instance
def seesP (land : List Int) (a b : Int) : Prop := ∀ k, a < k → k < b → lowB land a b k
def seesB (land : List Int) (a b : Int) : Bool := (List.range (b - a - 1).toNat).all fun i => decide (lowB land a b (a + 1 + (i : Int)))
theorem seesB_iff {land : List Int} {a b : Int} : seesB land a b = true ↔ seesP land a b := by
  unfold seesB seesP
  rw [List.all_eq_true]
  constructor
  · intro h k h1 h2
    have z := h (k - a - 1).toNat (List.mem_range.mpr (by omega))
    have e : a + 1 + (((k - a - 1).toNat : Nat) : Int) = k := by omega
    rw [e] at z
    exact of_decide_eq_true z
  · intro h i hi
    have hi := List.mem_range.mp hi
    exact decide_eq_true (h _ (by omega) (by omega))
theorem seesB_false {land : List Int} {a b k : Int} (h1 : a < k) (h2 : k < b) (h : ¬ lowB land a b k) : seesB land a b = false := by
  cases e : seesB land a b with
  | false => rfl
  | true => exact absurd (seesB_iff.mp e k h1 h2) h
/-- the best of the places a + 1 .. a + i: none is steeper from a -/
def Best (land : List Int) (a : Int) (i : Nat) (best : Int) : Prop := a < best ∧ best ≤ a + i ∧ ∀ k, a < k → k ≤ a + i → (cel land k - cel land a) * (best - a) ≤ (cel land best - cel land a) * (k - a)
theorem lt_of_best {x y z n1 n2 n3 : Int} (h2 : 0 < n2) (h3 : 0 < n3) (h1 : 0 < n1) (a : y * n1 < x * n2) (b : z * n2 ≤ y * n3) : z * n1 < x * n3 := by
  have k1 : z * n2 * n1 ≤ y * n3 * n1 := Int.mul_le_mul_of_nonneg_right b (by omega)
  have k2 : y * n1 * n3 < x * n2 * n3 := Int.mul_lt_mul_of_pos_right a h3
  have k3 : (z * n1) * n2 < (x * n3) * n2 := by grind
  exact Int.lt_of_mul_lt_mul_right k3 (by omega)
theorem le_of_best {x y z n1 n2 n3 : Int} (h2 : 0 < n2) (h3 : 0 < n3) (h1 : 0 < n1) (a : y * n1 ≤ x * n2) (b : z * n2 ≤ y * n3) : z * n1 ≤ x * n3 := by
  have k1 : z * n2 * n1 ≤ y * n3 * n1 := Int.mul_le_mul_of_nonneg_right b (by omega)
  have k2 : y * n1 * n3 ≤ x * n2 * n3 := Int.mul_le_mul_of_nonneg_right a (by omega)
  have k3 : (z * n1) * n2 ≤ (x * n3) * n2 := by grind
  exact Int.le_of_mul_le_mul_right k3 h2
theorem best_one (land : List Int) (a : Int) : Best land a 1 (a + 1) := by
  refine ⟨by omega, by omega, fun k h1 h2 => ?_⟩
  have e : k = a + 1 := by omega
  rw [e]
  omega
/-- the next place is steeper than the best: it is seen, and the best -/
theorem best_yes {land : List Int} {a best : Int} {i : Nat} (h : Best land a i best) (hs : (cel land best - cel land a) * (a + 1 + i - a) < (cel land (a + 1 + i) - cel land a) * (best - a)) :
    Best land a (i + 1) (a + 1 + i) ∧ seesB land a (a + 1 + i) = true := by
  obtain ⟨h1, h2, h3⟩ := h
  refine ⟨⟨by omega, by omega, fun k k1 k2 => ?_⟩, seesB_iff.mpr fun k k1 k2 => ?_⟩
  · by_cases e : k = a + 1 + i
    · rw [e]
      omega
    · exact le_of_best (n2 := best - a) (by omega) (by omega) (by omega) (Int.le_of_lt hs) (h3 k k1 (by omega))
  · exact lt_of_best (n2 := best - a) (by omega) (by omega) (by omega) hs (h3 k k1 (by omega))
theorem best_no {land : List Int} {a best : Int} {i : Nat} (h : Best land a i best) (hs : ¬ (cel land best - cel land a) * (a + 1 + i - a) < (cel land (a + 1 + i) - cel land a) * (best - a)) :
    Best land a (i + 1) best ∧ seesB land a (a + 1 + i) = false := by
  obtain ⟨h1, h2, h3⟩ := h
  refine ⟨⟨by omega, by omega, fun k k1 k2 => ?_⟩, seesB_false (k := best) (by omega) (by omega) hs⟩
  by_cases e : k = a + 1 + i
  · rw [e]
    omega
  · exact h3 k k1 (by omega)
theorem sees_next (land : List Int) (a : Int) : seesB land a (a + 1) = true := seesB_iff.mpr fun k h1 h2 => by omega
/-- what the hill at a sees ahead of it, of the next i places -/
def aheadN (land : List Int) (a : Int) (i : Nat) : List Int := ((List.range i).map fun (j : Nat) => a + 1 + (j : Int)).filter (seesB land a)
theorem aheadN_yes {land : List Int} {a : Int} {i : Nat} (h : seesB land a (a + 1 + i) = true) : aheadN land a (i + 1) = aheadN land a i ++ [a + 1 + (i : Int)] := by
  unfold aheadN
  rw [List.range_succ, List.map_append, List.filter_append]
  simp [h]
theorem aheadN_no {land : List Int} {a : Int} {i : Nat} (h : seesB land a (a + 1 + i) = false) : aheadN land a (i + 1) = aheadN land a i := by
  unfold aheadN
  rw [List.range_succ, List.map_append, List.filter_append]
  simp [h]
theorem aheadN_len (land : List Int) (a : Int) (i : Nat) : (aheadN land a i).length ≤ i := by
  unfold aheadN
  have h := List.length_filter_le (seesB land a) ((List.range i).map fun (j : Nat) => a + 1 + (j : Int))
  rw [List.length_map, List.length_range] at h
  exact h
def aheadOf (land : List Int) (a : Int) : List Int := aheadN land a ((land.length : Int) - (a + 1)).toNat
theorem mem_aheadOf {land : List Int} {a b : Int} : b ∈ aheadOf land a ↔ a < b ∧ b < (land.length : Int) ∧ seesP land a b := by
  unfold aheadOf aheadN
  rw [List.mem_filter, List.mem_map, seesB_iff]
  constructor
  · rintro ⟨⟨j, hj, rfl⟩, h⟩
    have hj := List.mem_range.mp hj
    exact ⟨by omega, by omega, h⟩
  · rintro ⟨h1, h2, h⟩
    exact ⟨⟨(b - a - 1).toNat, List.mem_range.mpr (by omega), by omega⟩, h⟩
end Hx
namespace Hx
open PySem PySem.Spec PyProof.Rows L2 Evl
def RAhead (K : PySem.W.Frag) (vs : List V) (H : Hp) (xs : List V) : Prop := ∃ (l : Addr) (land : List Int) (a : Int), vs = [.ref l, .int a] ∧ 0 ≤ a ∧ a < (land.length : Int) ∧ land.length ≤ 1000 ∧ SqL K H l (land.map V.int) ∧ xs = (aheadOf land a).map V.int
section
variable {K : PySem.W.Frag} {σ : L2.St} {H : Hp} {ta : TA} {E : XK}
theorem el_ahead {l : Addr} {land : List Int} {a : Int} (h : EvA ta σ H [.ref l, .int a]) (hs : SqL K H l (land.map V.int)) (h1 : 0 ≤ a) (h2 : a < (land.length : Int)) (h3 : land.length ≤ 1000) : EvL (tCall (spL (RAhead K)) [] E ta) σ H ((aheadOf land a).map V.int) :=
  el_cal h fun _ e => ⟨l, land, a, rfl, h1, h2, h3, ex_l e hs, rfl⟩
end
end Hx
/-! Lists of pairs of whole numbers: each item a tuple of its own. -/
namespace Hx
open PySem PySem.Spec PyProof.Rows L2 Evl
/-- at the addresses stand the pairs -/
def Tups (H : Hp) (as : List Addr) (ps : List (Int × Int)) : Prop := as.length = ps.length ∧ ∀ (i : Nat) (a : Addr) (q : Int × Int), as[i]? = some a → ps[i]? = some q → H a = some (.tup [.int q.1, .int q.2])
theorem Tups.nil (H : Hp) : Tups H [] [] := ⟨rfl, fun i a q h => by simp at h⟩
theorem Tups.ex {H H' : Hp} {as : List Addr} {ps : List (Int × Int)} (e : Ex H H') (t : Tups H as ps) : Tups H' as ps := ⟨t.1, fun i a q h1 h2 => e _ _ (t.2 i a q h1 h2)⟩
theorem Tups.snoc {H : Hp} {as : List Addr} {ps : List (Int × Int)} {p : Addr} {q : Int × Int} (t : Tups H as ps) (h : H p = some (.tup [.int q.1, .int q.2])) : Tups H (as ++ [p]) (ps ++ [q]) := by
  refine ⟨by rw [List.length_append, List.length_append, t.1]; rfl, fun i a r h1 h2 => ?_⟩
  by_cases hi : i < as.length
  · rw [List.getElem?_append_left hi] at h1
    rw [List.getElem?_append_left (by rw [← t.1]; exact hi)] at h2
    exact t.2 i a r h1 h2
  · rw [List.getElem?_append_right (by omega)] at h1
    rw [List.getElem?_append_right (by rw [← t.1]; omega), ← t.1] at h2
    cases e : i - as.length with
    | zero =>
      rw [e] at h1 h2
      have e1 : p = a := Option.some.inj h1
      have e2 : q = r := Option.some.inj h2
      rw [← e1, ← e2]
      exact h
    | succ k =>
      rw [e] at h1
      simp at h1
theorem Tups.upd {H : Hp} {as : List Addr} {ps : List (Int × Int)} {D : Addr} {xs ys : List V} (t : Tups H as ps) (h : H D = some (.lst xs)) : Tups (upd H D (.lst ys)) as ps := ⟨t.1, fun i a q h1 h2 => by
  have z := t.2 i a q h1 h2
  have n : a ≠ D := ne_of z h (by intro w; cases w)
  rw [upd_ne n]
  exact z⟩
/-- evaluates to a new list of those pairs -/
def EvP (te : TE) (σ : L2.St) (H : Hp) (ps : List (Int × Int)) : Prop := ∀ H1, Ex H H1 → ∀ Q : VK, (∀ p H2 as, H1 p = none → Ex H1 H2 → H2 p = some (.lst (as.map V.ref)) → Tups H2 as ps → Q (.ref p) H2) → te σ H1 Q
def RetP (ps : List (Int × Int)) (H : Hp) (Q : VK) : Prop := ∀ p H2 as, H p = none → Ex H H2 → H2 p = some (.lst (as.map V.ref)) → Tups H2 as ps → Q (.ref p) H2
def spP (R : List V → Hp → List (Int × Int) → Prop) : Sp := fun vs H Q _ => ∃ xs, R vs H xs ∧ RetP xs H Q
section
variable {K : PySem.W.Frag} {σ : L2.St} {H : Hp} {ta tb te tl : TE} {D : Ends} {tz : TS} {ps : List (Int × Int)}
theorem ep_cal {R : List V → Hp → List (Int × Int) → Prop} {vs : List V} {E : XK} {ta : TA} (h : EvA ta σ H vs) (hs : ∀ H1, Ex H H1 → R vs H1 ps) : EvP (tCall (spP R) [] E ta) σ H ps :=
  fun H1 e Q q => h H1 e _ fun H2 e2 => ⟨ps, by rw [List.append_nil]; exact hs H2 (e.trans e2), fun p H3 as hp e3 h3 t3 => q p H3 as (fresh_back e2 hp) (e2.trans e3) h3 t3⟩
theorem q_asgP {i : Nat} (h : EvP te σ H ps) (k : ∀ p H1 as, H p = none → Ex H H1 → H1 p = some (.lst (as.map V.ref)) → Tups H1 as ps → tz D (σ.set i (some (.ref p))) H1) : tSeq (tAsg te (gName i)) tz D σ H :=
  h H (Ex.refl H) _ k
theorem s_retP (h : EvP te σ H ps) (k : ∀ p H1 as, H p = none → Ex H H1 → H1 p = some (.lst (as.map V.ref)) → Tups H1 as ps → D.rt (.ref p) H1) : tRet te D σ H := h H (Ex.refl H) _ k
theorem t_yes {A B : Hp → Prop} (h : A H) : tYes σ H fun b H1 => if b = true then A H1 else B H1 := by
  show (if true = true then A H else B H)
  rw [if_pos rfl]
  exact h
/-- [(a, b) for a in range(n) for b in row(a)] -/
def flatP (row : Nat → List Int) (n : Nat) : List (Int × Int) := (List.range n).flatMap fun k => (row k).map fun b => ((k : Int), b)
theorem flatP_succ (row : Nat → List Int) (n : Nat) : flatP row (n + 1) = flatP row n ++ (row n).map fun b => ((n : Int), b) := by
  unfold flatP
  rw [List.range_succ, List.flatMap_append]
  simp
theorem ep_lc2 {ta ta2 : TA} {i j : Nat} {vs vs1 : List Nat} {n : Int} (row : Nat → List Int) (h : EvA ta σ H [.int n]) (hn : 0 ≤ n ∧ n ≤ 1000) (hrow : ∀ k, (row k).length ≤ 1000)
    (hw : ∀ x, wipe ((wipe σ vs).set i (some x)) vs = wipe σ vs) (hw1 : ∀ x y, wipe ((wipe ((wipe σ vs).set i (some x)) vs1).set j (some y)) vs1 = wipe ((wipe σ vs).set i (some x)) vs1)
    (hl : ∀ (k : Nat) H1, Ex H H1 → (k : Int) < n → EvL tl ((wipe σ vs).set i (some (.int (k : Int)))) H1 ((row k).map V.int))
    (he : ∀ (k : Nat) (b : Int) H1, Ex H H1 → (k : Int) < n → EvA ta2 ((wipe ((wipe σ vs).set i (some (.int (k : Int)))) vs1).set j (some (.int b))) H1 [.int (k : Int), .int b]) :
    EvP (tLc2 (iRng1 ta) (gName i) tYes (iList K tl) (gName j) tYes (tTup ta2) vs vs1) σ H (flatP row n.toNat) := fun H0 e0 Q q => h H0 e0 _ fun H1 e1 => ⟨n, rfl, by omega, by omega, fun Dl hD => by
  let Pv : Nat → Hp → Prop := fun k H' => Ex H1 H' ∧ ∃ as, H' Dl = some (.lst (as.map V.ref)) ∧ Tups H' as (flatP row k) ∧ as.length ≤ k * 1000
  refine ⟨fun k m H' => m = n.toNat - k ∧ k ≤ n.toNat ∧ Pv k H', ⟨n.toNat, by omega, Nat.zero_le _, Ex.new hD, [], upd_same, Tups.nil _, Nat.zero_le _⟩, ?_⟩
  rintro k m H' ⟨rfl, hk, e2, as, hl2, t2, z2⟩
  by_cases hlt : k < n.toNat
  · refine .inr ⟨hlt, Pv (k + 1), fun H'' p => ⟨n.toNat - (k + 1), by omega, rfl, hlt, p⟩, fun x H'' y => ?_⟩
    obtain ⟨y1, y2⟩ := y
    subst y1 y2
    have ek : ((0 : Int) + ((k : Nat) : Int)) = (k : Int) := Int.zero_add _
    show wipe ((wipe σ vs).set i (some (.int ((0 : Int) + ((k : Nat) : Int))))) vs = wipe σ vs ∧ _
    rw [ek]
    refine ⟨hw _, ?_⟩
    refine t_yes ?_
    refine hl k H'' ((e0.trans e1).trans e2) (by omega) H'' (Ex.refl _) _ fun p H3 hp e3 h3 => ⟨p, rfl, ⟨_, sq_of h3⟩, ?_⟩
    let Pv1 : Nat → Hp → Prop := fun b H4 => Ex H1 H4 ∧ H4 p = some (.lst ((row k).map V.int)) ∧ ∃ as, H4 Dl = some (.lst (as.map V.ref)) ∧ Tups H4 as (flatP row k ++ ((row k).take b).map fun b => ((k : Int), b)) ∧ as.length ≤ k * 1000 + b
    have npD : p ≠ Dl := fun z => by rw [z, hl2] at hp; cases hp
    have n1p : H1 p = none := fresh_back e2 hp
    refine ⟨fun b m H4 => m = (row k).length - b ∧ b ≤ (row k).length ∧ Pv1 b H4, ⟨(row k).length, by omega, Nat.zero_le _, e2.trans e3, h3, as, e3 _ _ hl2, ?_, by omega⟩, ?_⟩
    · rw [List.take_zero, List.map_nil, List.append_nil]
      exact t2.ex e3
    rintro b m H4 ⟨rfl, hb, e4, h4, as', hl4, t4, z4⟩
    by_cases hbl : b < (row k).length
    · have hx : ((row k).map V.int)[b]? = some (.int (row k)[b]) := by rw [List.getElem?_map, List.getElem?_eq_getElem hbl]; rfl
      refine .inr ⟨⟨_, _, sq_of h4, hx⟩, Pv1 (b + 1), fun H5 p5 => ⟨(row k).length - (b + 1), by omega, rfl, hbl, p5⟩, fun x H5 y => ?_⟩
      obtain ⟨y1, y2⟩ := y
      subst y1
      have ex := (y2 _ (sq_of h4)).symm.trans hx
      have ex := Option.some.inj ex
      subst ex
      refine ⟨hw1 _ _, ?_⟩
      refine t_yes ?_
      refine he k _ H5 ((e0.trans e1).trans e4) (by omega) H5 (Ex.refl _) _ fun H6 e6 => ⟨sz_of (Nat.le_of_ble_eq_true rfl), fun t nt => ?_⟩
      have hl6 := e6 _ _ hl4
      have ntD : Dl ≠ t := ne_of_none hl6 nt
      have e7 : Ex H6 (upd H6 t (.tup [.int (k : Int), .int (row k)[b]])) := Ex.new nt
      have hl7 := e7 _ _ hl6
      have hk1 := hrow k
      have hk2 : k ≤ 1000 := by omega
      refine ⟨_, hl7, (by rw [List.length_map, sizeLine_eq]; omega), Ex.mut ((e4.trans e6).trans e7) hD, ?_, as' ++ [t], ?_, ?_, ?_⟩
      · rw [upd_ne npD]
        exact e7 _ _ (e6 _ _ h4)
      · rw [upd_same, List.map_append]
        rfl
      · have z := (((t4.ex e6).ex e7).snoc (p := t) (q := ((k : Int), (row k)[b])) upd_same).upd (ys := as'.map V.ref ++ [.ref t]) hl7
        rw [List.append_assoc] at z
        have et : (row k).take (b + 1) = (row k).take b ++ [(row k)[b]] := by rw [List.take_add_one, List.getElem?_eq_getElem hbl]; rfl
        rw [et, List.map_append]
        exact z
      · rw [List.length_append]
        show as'.length + 1 ≤ _
        omega
    · have eb : b = (row k).length := by omega
      subst eb
      refine .inl ⟨⟨_, sq_of h4, by rw [List.length_map]; omega⟩, e4, as', hl4, ?_, ?_⟩
      · rw [flatP_succ]
        rw [List.take_length] at t4
        exact t4
      · have := hrow k
        omega
  · have ek : k = n.toNat := by omega
    subst ek
    exact .inl ⟨Nat.le_refl _, q Dl H' as (fresh_back e1 hD) (e1.trans e2) hl2 t2⟩⟩
end
end Hx
namespace Hx
open PySem PySem.Spec PyProof.Rows L2 Evl
/-- the sights of a land -/
def sightsOf (land : List Int) : List (Int × Int) := flatP (fun k => aheadOf land (k : Int)) ((land.length : Nat) : Int).toNat
def RSights (K : PySem.W.Frag) (vs : List V) (H : Hp) (xs : List (Int × Int)) : Prop := ∃ (l : Addr) (land : List Int), vs = [.ref l] ∧ land.length ≤ 1000 ∧ SqL K H l (land.map V.int) ∧ xs = sightsOf land
theorem ep_sights {K : PySem.W.Frag} {σ : L2.St} {H : Hp} {ta : TA} {E : XK} {l : Addr} {land : List Int} (h : EvA ta σ H [.ref l]) (hs : SqL K H l (land.map V.int)) (h3 : land.length ≤ 1000) : EvP (tCall (spP (RSights K)) [] E ta) σ H (sightsOf land) :=
  ep_cal h fun _ e => ⟨l, land, rfl, h3, ex_l e hs, rfl⟩
theorem mem_sightsOf {land : List Int} {a b : Int} : (a, b) ∈ sightsOf land ↔ 0 ≤ a ∧ a < b ∧ b < (land.length : Int) ∧ seesP land a b := by
  unfold sightsOf flatP
  rw [List.mem_flatMap]
  constructor
  · rintro ⟨k, hk, h⟩
    have hk := List.mem_range.mp hk
    obtain ⟨c, hc, e⟩ := List.mem_map.mp h
    have e1 : ((k : Nat) : Int) = a := congrArg Prod.fst e
    have e2 : c = b := congrArg Prod.snd e
    subst e1 e2
    obtain ⟨h1, h2, h3⟩ := mem_aheadOf.mp hc
    exact ⟨by omega, h1, h2, h3⟩
  · rintro ⟨h0, h1, h2, h3⟩
    refine ⟨a.toNat, List.mem_range.mpr (by omega), List.mem_map.mpr ⟨b, ?_, ?_⟩⟩
    · have e : ((a.toNat : Nat) : Int) = a := by omega
      show b ∈ aheadOf land ((a.toNat : Nat) : Int)
      rw [e]
      exact mem_aheadOf.mpr ⟨h1, h2, h3⟩
    · have e : ((a.toNat : Nat) : Int) = a := by omega
      rw [e]
end Hx
/-! Lists of pairs compared and sorted; the sights of lands that are tilted, stretched, turned. -/
namespace Hx
open PySem PySem.Spec PyProof.Rows L2 Evl
def pD (q : Int × Int) : PyData := .tuple [.int q.1, .int q.2]
theorem pD_lay (z : Int × Int) : (pD z).canLay0 = true := by simp [pD, PyData.canLay0, PyData.canLayAll0]
theorem pD_depth (z : Int × Int) : (pD z).depth ≤ 1 := by simp [pD, PyData.depth, PyData.depthAll]
theorem pDs_lay : ∀ zs : List (Int × Int), PyData.canLayAll0 (zs.map pD) = true
  | [] => by simp [PyData.canLayAll0]
  | z :: zs => by simp [PyData.canLayAll0, pD_lay z, pDs_lay zs]
theorem pDs_depth : ∀ zs : List (Int × Int), PyData.depthAll (zs.map pD) ≤ 3
  | [] => by simp [PyData.depthAll]
  | z :: zs => by
    have h1 := pDs_depth zs
    have h2 := pD_depth z
    simp only [List.map_cons, PyData.depthAll]
    omega
theorem pDs_shaped (zs : List (Int × Int)) : SeqAt.shaped (.list (zs.map pD)) = true := by
  have h1 := pDs_depth zs
  have h2 : PyData.depth (.list (zs.map pD)) ≤ 64 := by
    simp only [PyData.depth]
    omega
  show (PyData.canLay0 (.list (zs.map pD)) && decide (PyData.depth (.list (zs.map pD)) ≤ 64)) = true
  rw [Bool.and_eq_true]
  exact ⟨by simp only [PyData.canLay0]; exact pDs_lay zs, decide_eq_true h2⟩
theorem pD_eqv (z w : Int × Int) : PyData.eqv (pD z) (pD w) = decide (z = w) := by
  obtain ⟨a, b⟩ := z
  obtain ⟨c, d⟩ := w
  have e : PyData.eqv (pD (a, b)) (pD (c, d)) = ((a == c) && ((b == d) && true)) := by simp only [pD, PyData.eqv, PyData.eqvAll]
  rw [e]
  by_cases h1 : a = c <;> by_cases h2 : b = d <;> simp [h1, h2]
theorem pDs_eqvAll : ∀ zs ws : List (Int × Int), PyData.eqvAll (zs.map pD) (ws.map pD) = decide (zs = ws)
  | [], [] => by simp [PyData.eqvAll]
  | [], _ :: _ => by simp [PyData.eqvAll]
  | _ :: _, [] => by simp [PyData.eqvAll]
  | n :: r, m :: s => by
    have h := pDs_eqvAll r s
    simp only [List.map_cons, PyData.eqvAll, pD_eqv, h]
    by_cases e : n = m <;> by_cases e2 : r = s <;> simp [e, e2]
theorem pDs_eqv (zs ws : List (Int × Int)) : PyData.eqv (.list (zs.map pD)) (.list (ws.map pD)) = decide (zs = ws) := by
  simp only [PyData.eqv, pDs_eqvAll]
section
variable {K : PySem.W.Frag} {σ : L2.St} {H : Hp} {ta tb te tl : TE} {D : Ends} {tz : TS} {ps qs : List (Int × Int)} {as bs : List Addr} {p q : Addr}
theorem dp_tups : ∀ {as : List Addr} {ps : List (Int × Int)}, Tups H as ps → DpAll K H (as.map V.ref) (ps.map pD)
  | [], [], _ => .nil
  | [], _ :: _, t => by cases t.1
  | _ :: _, [], t => by cases t.1
  | a :: as, z :: ps, t => .cons (.tup (st_of (t.2 0 a z rfl rfl)) (.cons (.int _) (.cons (.int _) .nil))) (dp_tups ⟨Nat.succ.inj t.1, fun i a q h1 h2 => t.2 (i + 1) a q h1 h2⟩)
/-- at p stands a list of the pairs -/
def PrL (H : Hp) (p : Addr) (ps : List (Int × Int)) : Prop := ∃ as, H p = some (.lst (as.map V.ref)) ∧ Tups H as ps
theorem PrL.ex {H H' : Hp} (e : Ex H H') (h : PrL H p ps) : PrL H' p ps := by
  obtain ⟨as, h1, h2⟩ := h
  exact ⟨as, e _ _ h1, h2.ex e⟩
theorem PrL.dp {K : PySem.W.Frag} (h : PrL H p ps) : Dp K H (.ref p) (.list (ps.map pD)) := by
  obtain ⟨as, h1, h2⟩ := h
  exact .lst (sq_of h1) (dp_tups h2)
theorem rv_eqP (h1 : PrL H p ps) (h2 : PrL H q qs) : RV (rEqD K) (.ref p) (.ref q) H (.bl (decide (ps = qs))) :=
  fun H1 e Q k => ⟨_, _, (h1.ex e).dp, (h2.ex e).dp, pDs_shaped ps, pDs_shaped qs, by rw [pDs_eqv]; exact k H1 (Ex.refl H1)⟩
theorem rv_neP (h1 : PrL H p ps) (h2 : PrL H q qs) : RV (rNeD K) (.ref p) (.ref q) H (.bl (!decide (ps = qs))) :=
  fun H1 e Q k => ⟨_, _, (h1.ex e).dp, (h2.ex e).dp, pDs_shaped ps, pDs_shaped qs, by rw [pDs_eqv]; exact k H1 (Ex.refl H1)⟩
/-- a new list of pairs on the left, on the right -/
theorem ev_opPl {r : R2} {y z : V} (ha : EvP ta σ H ps) (hb : Ev tb σ H y) (hr : ∀ p H1, PrL H1 p ps → Ex H H1 → RV r (.ref p) y H1 z) : Ev (tOp r ta tb) σ H z := fun H1 e Q k =>
  ha H1 e _ fun p H2 as _ e2 h2 t2 => hb H2 (e.trans e2) _ fun H3 e3 => hr p H2 ⟨as, h2, t2⟩ (e.trans e2) H3 e3 _ fun H4 e4 => k H4 ((e2.trans e3).trans e4)
theorem ev_opPr {r : R2} {x z : V} (ha : Ev ta σ H x) (hb : EvP tb σ H ps) (hr : ∀ p H1, PrL H1 p ps → Ex H H1 → RV r x (.ref p) H1 z) : Ev (tOp r ta tb) σ H z := fun H1 e Q k =>
  ha H1 e _ fun H2 e2 => hb H2 (e.trans e2) _ fun p H3 as _ e3 h3 t3 => hr p H3 ⟨as, h3, t3⟩ ((e.trans e2).trans e3) H3 (Ex.refl _) _ fun H4 e4 => k H4 ((e2.trans e3).trans e4)
/-- the lesser by the first, then by the second -/
def ltq (x y : Int × Int) : Prop := x.1 < y.1 ∨ (x.1 = y.1 ∧ x.2 < y.2)
def keyOf (H : Hp) : V → Int × Int := fun v => match v with
  | .ref t => (match H t with
    | some (.tup [.int a, .int b]) => (a, b)
    | _ => (0, 0))
  | _ => (0, 0)
theorem keyOf_at {t : Addr} {a b : Int} (h : H t = some (.tup [.int a, .int b])) : keyOf H (.ref t) = (a, b) := by
  unfold keyOf
  simp only [h]
theorem ep_sorted {qs : List (Int × Int)} (h : EvP te σ H ps) (hp : qs.Perm ps) (hs : qs.Pairwise ltq) : EvP (tCB (rSortedPO K) (tCons te tNil)) σ H qs := fun H0 e0 Q k => by
  refine h H0 e0 _ fun p H1 as np e1 h1 t1 => ?_
  have hk : ∀ x ∈ as.map V.ref, ∃ t, x = V.ref t ∧ H1 t = some (.tup [.int (keyOf H1 x).1, .int (keyOf H1 x).2]) := by
    intro x hx
    obtain ⟨t, ht, rfl⟩ := List.mem_map.mp hx
    obtain ⟨i, hi, et⟩ := List.getElem_of_mem ht
    have hi2 : i < ps.length := by rw [← t1.1]; exact hi
    have z := t1.2 i t ps[i] (by rw [List.getElem?_eq_getElem hi, et]) (List.getElem?_eq_getElem hi2)
    refine ⟨t, rfl, ?_⟩
    rw [keyOf_at z]
    exact z
  refine ⟨p, as.map V.ref, keyOf H1, rfl, sq_of h1, hk, fun ys l hys hst hl => ?_⟩
  have hm : (as.map V.ref).map (keyOf H1) = ps := by
    refine List.ext_getElem ?_ fun i h2 h3 => ?_
    · rw [List.length_map, List.length_map, t1.1]
    · have hi : i < as.length := by simpa using h2
      rw [List.getElem_map, List.getElem_map]
      have z := t1.2 i as[i] ps[i] (List.getElem?_eq_getElem hi) (List.getElem?_eq_getElem h3)
      rw [keyOf_at z]
  have hyp : (ys.map (keyOf H1)).Perm ps := by
    rw [← hm]
    exact hst.perm.map _
  have hysq : ys.map (keyOf H1) = qs := by
    refine List.Perm.eq_of_pairwise (le := fun x y => ¬ ltq y x) ?_ ?_ ?_ (hyp.trans hp.symm)
    · intro a b _ _ h1 h2
      unfold ltq at h1 h2
      exact Prod.ext (by omega) (by omega)
    · rw [List.pairwise_map]
      refine hys.imp fun {x y} hxy => ?_
      intro z
      have w : ltP (keyOf H1) y x = true := SrtO.lexB_iff.mpr (by unfold ltq at z; omega)
      rw [w] at hxy
      cases hxy
    · refine hs.imp fun {x y} hxy => ?_
      unfold ltq at hxy ⊢
      omega
  -- the refs, as addresses
  have hys' : ∃ cs : List Addr, ys = cs.map V.ref := by
    refine ⟨ys.map (fun v => match v with | .ref t => t | _ => 0), ?_⟩
    rw [List.map_map]
    refine (List.map_id ys).symm.trans (List.map_congr_left fun v hv => ?_)
    obtain ⟨t, _, rfl⟩ := List.mem_map.mp (hst.perm.mem_iff.mp hv)
    rfl
  obtain ⟨cs, rfl⟩ := hys'
  refine k l _ cs (fresh_back e1 hl) (e1.trans (Ex.new hl)) upd_same ?_
  refine ⟨by rw [← hysq, List.length_map, List.length_map], fun i a q h2 h3 => ?_⟩
  have hmem : V.ref a ∈ as.map V.ref := hst.perm.mem_iff.mp (List.mem_map.mpr ⟨a, List.mem_of_getElem? h2, rfl⟩)
  obtain ⟨t, e, z⟩ := hk _ hmem
  cases e
  rw [← hysq, List.getElem?_map, List.getElem?_map, h2] at h3
  have e3 : keyOf H1 (.ref a) = q := Option.some.inj h3
  rw [e3] at z
  exact Ex.new hl _ _ z
end
end Hx

namespace Hx
open PySem PySem.Spec PyProof.Rows L2 Evl
section
variable {K : PySem.W.Frag} {σ : L2.St} {H : Hp} {te tl : TE} {ps : List (Int × Int)} {p : Addr}
/-! ### comprehensions over int lists and lists of pairs -/
theorem given_of {xs : List Int} {v : Nat → V} {g : Int → Int} (h : ∀ i x, xs[i]? = some x → v i = .int (g x)) : given xs.length (fun _ => true) v = (xs.map g).map V.int := by
  unfold given
  rw [List.filter_eq_self.mpr (fun _ _ => rfl)]
  refine List.ext_getElem (by simp) fun i h1 h2 => ?_
  have hi : i < xs.length := by simpa using h1
  rw [List.getElem_map, List.getElem_map, List.getElem_map, List.getElem_range]
  exact h i _ (List.getElem?_eq_getElem hi)
theorem el_lcIN {xs : List Int} {j : Nat} {vs : List Nat} (g : Int → Int) (h : EvL tl σ H (xs.map V.int)) (hz : xs.length ≤ 40000) (hw : ∀ x, wipe ((wipe σ vs).set j (some x)) vs = wipe σ vs)
    (he : ∀ x H1, Ex H H1 → x ∈ xs → Ev te ((wipe σ vs).set j (some (.int x))) H1 (.int (g x))) : EvL (tLc (iList K tl) (gName j) tYes te vs) σ H ((xs.map g).map V.int) := by
  have hl : (xs.map V.int).length = xs.length := List.length_map ..
  have z := el_lcNL (K := K) (te := te) (t := tYes) (fun _ => true) (fun i => .int (g (cel xs (i : Int)))) h (by omega) hw (fun _ _ _ _ _ => et_yes) (fun i x H1 e hx _ => by
    rw [List.getElem?_map] at hx
    cases q : xs[i]? with
    | none => rw [q] at hx; cases hx
    | some y =>
      rw [q] at hx
      have ex : V.int y = x := Option.some.inj hx
      subst ex
      have ey : cel xs (i : Int) = y := by unfold cel; rw [List.getD_eq_getElem?_getD]; (show (xs[i]?).getD 0 = y); rw [q]; rfl
      rw [ey]
      exact he y H1 e (List.mem_of_getElem? q))
  rw [hl, given_of (xs := xs) (g := g)] at z
  · exact z
  · intro i x hx
    have ey : cel xs (i : Int) = x := by unfold cel; rw [List.getD_eq_getElem?_getD]; (show (xs[i]?).getD 0 = x); rw [hx]; rfl
    rw [ey]
theorem el_lcI {xs : List Int} {a : Addr} {j : Nat} {vs : List Nat} (g : Int → Int) (h : Ev tl σ H (.ref a)) (hx : SqL K H a (xs.map V.int)) (hz : xs.length ≤ 40000) (hw : ∀ x, wipe ((wipe σ vs).set j (some x)) vs = wipe σ vs)
    (he : ∀ x H1, Ex H H1 → x ∈ xs → Ev te ((wipe σ vs).set j (some (.int x))) H1 (.int (g x))) : EvL (tLc (iList K tl) (gName j) tYes te vs) σ H ((xs.map g).map V.int) := by
  have hl : (xs.map V.int).length = xs.length := List.length_map ..
  have z := el_lcL (K := K) (te := te) (t := tYes) (fun _ => true) (fun i => .int (g (cel xs (i : Int)))) h hx (by omega) hw (fun _ _ _ _ _ => et_yes) (fun i x H1 e hx _ => by
    rw [List.getElem?_map] at hx
    cases q : xs[i]? with
    | none => rw [q] at hx; cases hx
    | some y =>
      rw [q] at hx
      have ex : V.int y = x := Option.some.inj hx
      subst ex
      have ey : cel xs (i : Int) = y := by unfold cel; rw [List.getD_eq_getElem?_getD]; (show (xs[i]?).getD 0 = y); rw [q]; rfl
      rw [ey]
      exact he y H1 e (List.mem_of_getElem? q))
  rw [hl, given_of (xs := xs) (g := g)] at z
  · exact z
  · intro i x hx
    have ey : cel xs (i : Int) = x := by unfold cel; rw [List.getD_eq_getElem?_getD]; (show (xs[i]?).getD 0 = x); rw [hx]; rfl
    rw [ey]
theorem el_lcR {ta : TA} {n : Int} {j : Nat} {vs : List Nat} (g : Nat → Int) (h : EvA ta σ H [.int n]) (hn : 0 ≤ n ∧ n ≤ 40000) (hw : ∀ x, wipe ((wipe σ vs).set j (some x)) vs = wipe σ vs)
    (he : ∀ (i : Nat) H1, Ex H H1 → (i : Int) < n → Ev te ((wipe σ vs).set j (some (.int (i : Int)))) H1 (.int (g i))) : EvL (tLc (iRng1 ta) (gName j) tYes te vs) σ H (((List.range n.toNat).map g).map V.int) := by
  have z := el_lcR1 (te := te) (t := tYes) (fun _ => true) (fun i => .int (g i)) h hn hw (fun _ _ _ _ => et_yes) (fun i H1 e hi _ => he i H1 e hi)
  rw [given_all (g := g) (fun _ => rfl)] at z
  exact z
theorem ep_lcP {ta2 : TA} {i j : Nat} {vs : List Nat} (f : Int × Int → Int × Int) (h : Ev tl σ H (.ref p)) (hp : PrL H p ps) (hz : ps.length ≤ 100000) (hw : ∀ x y, wipe (((wipe σ vs).set i (some x)).set j (some y)) vs = wipe σ vs)
    (he : ∀ q H1, Ex H H1 → q ∈ ps → EvA ta2 (((wipe σ vs).set i (some (.int q.1))).set j (some (.int q.2))) H1 [.int (f q).1, .int (f q).2]) :
    EvP (tLc (iList K tl) (gTup K 2 (gCons (gName i) (gCons (gName j) gNil))) tYes (tTup ta2) vs) σ H (ps.map f) := fun H0 e0 Q k => h H0 e0 _ fun H1 e1 => by
  obtain ⟨as, ha, ta⟩ := hp
  have ha1 := e1 _ _ (e0 _ _ ha)
  refine ⟨p, rfl, ⟨_, sq_of ha1⟩, fun Dl hD => ?_⟩
  refine lc_list (xs := as.map V.ref) (fun n H' => Ex H1 H' ∧ ∃ bs, H' Dl = some (.lst (bs.map V.ref)) ∧ Tups H' bs ((ps.map f).take n)) ⟨Ex.new hD, [], upd_same, Tups.nil _⟩ (fun n H' _ q => sq_of (q.1 _ _ ha1)) ?_ ?_
  · rintro n x H' hx ⟨e2, bs, hb, tb⟩
    rw [List.getElem?_map] at hx
    cases qa : as[n]? with
    | none => rw [qa] at hx; cases hx
    | some t =>
      rw [qa] at hx
      have ex : V.ref t = x := Option.some.inj hx
      subst ex
      have hn : n < ps.length := by rw [← ta.1]; exact (List.getElem?_eq_some_iff.mp qa).1
      have ht := e2 _ _ (e1 _ _ (e0 _ _ (ta.2 n t ps[n] qa (List.getElem?_eq_getElem hn))))
      refine ⟨t, _, rfl, st_of ht, rfl, _, _, rfl, _, _, rfl, rfl, hw _ _, ?_⟩
      refine t_yes ?_
      refine he ps[n] H' ((e0.trans e1).trans e2) (List.getElem_mem hn) H' (Ex.refl _) _ fun H3 e3 => ⟨sz_of (Nat.le_of_ble_eq_true rfl), fun c nc => ?_⟩
      have e4 : Ex H3 (upd H3 c (.tup [.int (f ps[n]).1, .int (f ps[n]).2])) := Ex.new nc
      have hb4 := e4 _ _ (e3 _ _ hb)
      have lb : bs.length ≤ 100000 := by rw [tb.1, List.length_take]; omega
      refine ⟨_, hb4, by rw [List.length_map, sizeLine_eq]; omega, Ex.mut ((e2.trans e3).trans e4) hD, bs ++ [c], ?_, ?_⟩
      · rw [upd_same, List.map_append]
        rfl
      · have z := (((tb.ex e3).ex e4).snoc (p := c) (q := f ps[n]) upd_same).upd (ys := bs.map V.ref ++ [.ref c]) hb4
        have et : (ps.map f).take (n + 1) = (ps.map f).take n ++ [f ps[n]] := by
          rw [List.take_add_one, List.getElem?_map, List.getElem?_eq_getElem hn]
          rfl
        rw [et]
        exact z
  · rintro H' ⟨e2, bs, hb, tb⟩
    refine k Dl H' bs (fresh_back e1 hD) (e1.trans e2) hb ?_
    rw [List.length_map, ta.1, List.take_of_length_le (by rw [List.length_map]; exact Nat.le_refl _)] at tb
    exact tb
end
end Hx
/-! ### lands tilted, stretched, turned -/
namespace Hx
theorem sightsOf_congr {l m : List Int} (hl : l.length = m.length) (h : ∀ a b, 0 ≤ a → a < b → b < (l.length : Int) → (seesP l a b ↔ seesP m a b)) : sightsOf l = sightsOf m := by
  have hb : ∀ a b, 0 ≤ a → a < b → b < (l.length : Int) → seesB l a b = seesB m a b := fun a b h0 h1 h2 => by
    cases e : seesB m a b with
    | true => exact seesB_iff.mpr ((h a b h0 h1 h2).mpr (seesB_iff.mp e))
    | false =>
      cases e2 : seesB l a b with
      | false => rfl
      | true =>
        have z := seesB_iff.mpr ((h a b h0 h1 h2).mp (seesB_iff.mp e2))
        rw [e] at z
        cases z
  unfold sightsOf flatP
  rw [← hl]
  have key : ∀ k ∈ List.range (((l.length : Nat) : Int)).toNat, aheadOf l (k : Int) = aheadOf m (k : Int) := by
    intro k hk
    have hk := List.mem_range.mp hk
    unfold aheadOf aheadN
    rw [← hl]
    refine List.filter_congr fun x hx => ?_
    obtain ⟨j, hj, rfl⟩ := List.mem_map.mp hx
    have hj := List.mem_range.mp hj
    exact hb _ _ (by omega) (by omega) (by omega)
  rw [List.flatMap_def, List.flatMap_def]
  congr 1
  exact List.map_congr_left fun k hk => by dsimp only; rw [key k hk]
theorem aheadOf_sorted (land : List Int) (a : Int) : (aheadOf land a).Pairwise (· < ·) := by
  unfold aheadOf aheadN
  refine List.Pairwise.filter _ ?_
  rw [List.pairwise_map]
  exact List.pairwise_lt_range.imp fun {x y} h => by omega
theorem sightsOf_sorted (land : List Int) : (sightsOf land).Pairwise ltq := by
  unfold sightsOf flatP
  rw [List.pairwise_flatMap]
  constructor
  · intro k _
    rw [List.pairwise_map]
    exact (aheadOf_sorted land k).imp fun {x y} h => .inr ⟨rfl, h⟩
  · refine List.pairwise_lt_range.imp fun {x y} h => ?_
    intro p hp q hq
    obtain ⟨b, _, rfl⟩ := List.mem_map.mp hp
    obtain ⟨c, _, rfl⟩ := List.mem_map.mp hq
    exact .inl (by show (x : Int) < (y : Int); omega)
theorem ltq_nodup {ps : List (Int × Int)} (h : ps.Pairwise ltq) : ps.Nodup := h.imp fun {x y} z e => by
  subst e
  unfold ltq at z
  omega
theorem cel_range {g : Nat → Int} {n : Nat} {i : Int} (h0 : 0 ≤ i) (h : i < (n : Int)) : cel ((List.range n).map g) i = g i.toNat := by
  unfold cel
  rw [List.getD_eq_getElem?_getD, List.getElem?_map, List.getElem?_range (by omega)]
  rfl
theorem cel_map {f : Int → Int} {l : List Int} {i : Int} (h0 : 0 ≤ i) (h : i < (l.length : Int)) : cel (l.map f) i = f (cel l i) := by
  unfold cel
  rw [List.getD_eq_getElem?_getD, List.getD_eq_getElem?_getD, List.getElem?_map, List.getElem?_eq_getElem (by omega)]
  rfl
def tiltedOf (land : List Int) (by_ more : Int) : List Int := (List.range land.length).map fun (k : Nat) => cel land (k : Int) + by_ * (k : Int) + more
def turnedOf (land : List Int) : List Int := (List.range land.length).map fun (k : Nat) => cel land ((land.length : Int) - 1 - (k : Int))
theorem sights_tilted (land : List Int) (b m : Int) : sightsOf (tiltedOf land b m) = sightsOf land := by
  have hl : (tiltedOf land b m).length = land.length := by unfold tiltedOf; rw [List.length_map, List.length_range]
  refine sightsOf_congr hl fun x y h0 h1 h2 => ?_
  rw [hl] at h2
  have hc : ∀ i, 0 ≤ i → i < (land.length : Int) → cel (tiltedOf land b m) i = cel land i + b * i + m := fun i h0 h => by
    unfold tiltedOf
    rw [cel_range h0 h]
    have e : ((i.toNat : Nat) : Int) = i := by omega
    rw [e]
  unfold seesP lowB
  constructor
  · intro h k k1 k2
    have z := h k k1 k2
    rw [hc k (by omega) (by omega), hc x (by omega) (by omega), hc y (by omega) (by omega)] at z
    grind
  · intro h k k1 k2
    have z := h k k1 k2
    rw [hc k (by omega) (by omega), hc x (by omega) (by omega), hc y (by omega) (by omega)]
    grind
theorem sights_stretched (land : List Int) (t : Int) (ht : 0 < t) : sightsOf (land.map (· * t)) = sightsOf land := by
  have hl : (land.map (· * t)).length = land.length := List.length_map ..
  refine sightsOf_congr hl fun x y h0 h1 h2 => ?_
  rw [hl] at h2
  unfold seesP lowB
  constructor
  · intro h k k1 k2
    have z := h k k1 k2
    rw [cel_map (by omega) (by omega), cel_map (by omega) (by omega), cel_map (by omega) (by omega)] at z
    have e1 : (cel land k * t - cel land x * t) * (y - x) = ((cel land k - cel land x) * (y - x)) * t := by grind
    have e2 : (cel land y * t - cel land x * t) * (k - x) = ((cel land y - cel land x) * (k - x)) * t := by grind
    rw [e1, e2] at z
    exact Int.lt_of_mul_lt_mul_right z (by omega)
  · intro h k k1 k2
    have z := h k k1 k2
    rw [cel_map (by omega) (by omega), cel_map (by omega) (by omega), cel_map (by omega) (by omega)]
    have e1 : (cel land k * t - cel land x * t) * (y - x) = ((cel land k - cel land x) * (y - x)) * t := by grind
    have e2 : (cel land y * t - cel land x * t) * (k - x) = ((cel land y - cel land x) * (k - x)) * t := by grind
    rw [e1, e2]
    exact Int.mul_lt_mul_of_pos_right z ht
theorem sees_turned (land : List Int) {a b : Int} (h0 : 0 ≤ a) (h1 : a < b) (h2 : b < (land.length : Int)) : seesP (turnedOf land) a b ↔ seesP land ((land.length : Int) - 1 - b) ((land.length : Int) - 1 - a) := by
  have hc : ∀ i, 0 ≤ i → i < (land.length : Int) → cel (turnedOf land) i = cel land ((land.length : Int) - 1 - i) := fun i h0 h => by
    unfold turnedOf
    rw [cel_range h0 h]
    have e : ((i.toNat : Nat) : Int) = i := by omega
    rw [e]
  unfold seesP lowB
  constructor
  · intro h k k1 k2
    have z := h ((land.length : Int) - 1 - k) (by omega) (by omega)
    rw [hc _ (by omega) (by omega), hc _ (by omega) (by omega), hc _ (by omega) (by omega)] at z
    have e : (land.length : Int) - 1 - ((land.length : Int) - 1 - k) = k := by omega
    rw [e] at z
    grind
  · intro h k k1 k2
    have z := h ((land.length : Int) - 1 - k) (by omega) (by omega)
    rw [hc _ (by omega) (by omega), hc _ (by omega) (by omega), hc _ (by omega) (by omega)]
    grind
theorem sights_turned (land : List Int) : (sightsOf (turnedOf land)).Perm ((sightsOf land).map fun q => ((land.length : Int) - 1 - q.2, (land.length : Int) - 1 - q.1)) := by
  have hl : (turnedOf land).length = land.length := by unfold turnedOf; rw [List.length_map, List.length_range]
  refine (List.perm_ext_iff_of_nodup (ltq_nodup (sightsOf_sorted _)) ?_).mpr fun q => ?_
  · refine List.pairwise_map.mpr ((ltq_nodup (sightsOf_sorted land)).imp fun {x y} h e => h ?_)
    have e1 := congrArg Prod.fst e
    have e2 := congrArg Prod.snd e
    simp only at e1 e2
    exact Prod.ext (by omega) (by omega)
  · obtain ⟨a, b⟩ := q
    rw [mem_sightsOf, hl, List.mem_map]
    constructor
    · rintro ⟨h0, h1, h2, h3⟩
      refine ⟨((land.length : Int) - 1 - b, (land.length : Int) - 1 - a), mem_sightsOf.mpr ⟨by omega, by omega, by omega, (sees_turned land h0 h1 h2).mp h3⟩, ?_⟩
      exact Prod.ext (by simp only; omega) (by simp only; omega)
    · rintro ⟨⟨c, d⟩, hm, e⟩
      obtain ⟨h0, h1, h2, h3⟩ := mem_sightsOf.mp hm
      have e1 : (land.length : Int) - 1 - d = a := congrArg Prod.fst e
      have e2 : (land.length : Int) - 1 - c = b := congrArg Prod.snd e
      have e3 : (land.length : Int) - 1 - b = c := by omega
      have e4 : (land.length : Int) - 1 - a = d := by omega
      refine ⟨by omega, by omega, by omega, (sees_turned land (by omega) (by omega) (by omega)).mpr ?_⟩
      rw [e3, e4]
      exact h3
end Hx
namespace Hx
open PySem PySem.Spec PyProof.Rows L2 Evl
theorem ep_sightsN {K : PySem.W.Frag} {σ : L2.St} {H : Hp} {tl : TE} {E : XK} {land : List Int} (h : EvL tl σ H (land.map V.int)) (h3 : land.length ≤ 1000) : EvP (tCall (spP (RSights K)) [] E (tCons tl tNil)) σ H (sightsOf land) :=
  fun H0 e0 Q q => h H0 e0 _ fun l H1 nl e1 h1 => ⟨sightsOf land, ⟨l, land, rfl, h3, sq_of h1, rfl⟩, fun p H2 as np e2 h2 t2 => q p H2 as (fresh_back e1 np) (e1.trans e2) h2 t2⟩
end Hx
namespace Hx
theorem flatP_len {row : Nat → List Int} {m : Nat} (h : ∀ k, (row k).length ≤ m) : ∀ n, (flatP row n).length ≤ n * m
  | 0 => Nat.zero_le _
  | n + 1 => by
    have z := flatP_len h n
    have y := h n
    rw [flatP_succ, List.length_append, List.length_map, Nat.succ_mul]
    omega
theorem aheadOf_len (land : List Int) (a : Nat) : (aheadOf land (a : Int)).length ≤ land.length := by
  have z := aheadN_len land (a : Int) ((land.length : Int) - ((a : Int) + 1)).toNat
  unfold aheadOf
  omega
theorem sightsOf_len (land : List Int) : (sightsOf land).length ≤ land.length * land.length := by
  have z := flatP_len (row := fun k => aheadOf land (k : Int)) (fun k => aheadOf_len land k) ((land.length : Nat) : Int).toNat
  have e : ((land.length : Nat) : Int).toNat = land.length := by omega
  unfold sightsOf
  rw [e] at z ⊢
  exact z
end Hx
/-! A list turned round; defs that refuse; the classes of refusals. -/
namespace Hx
open PySem PySem.Spec PyProof.Rows L2 Evl
theorem Vals.rev : ∀ {xs : List V} {us : List Value}, L2.Vals xs us → L2.Vals xs.reverse us.reverse
  | _, _, .nil => .nil
  | _, _, .cons r t => by
    rw [List.reverse_cons, List.reverse_cons]
    exact L2.Vals.append (Vals.rev t) (.cons r .nil)
section
variable {X : Cx}
/-- xs[::-1] -/
def tBack (K : PySem.W.Frag) (te : TE) : TE := fun σ H Q => te σ H fun x H1 => ∃ a xs, x = .ref a ∧ SqL K H1 a xs ∧ ∀ p, H1 p = none → Q (.ref p) (upd H1 p (.lst xs.reverse))
theorem pe_back {e : Expr} {te : TE} {p1 p2 p3 pos : Pos} {j : Nat} (he : PE X e te) : PE X (.Subscript e (.Slice none none (some (.UnaryOp .USub (.Constant (.int 1) j p1) p2)) p3) pos) (tBack X.K te) := by
  refine ⟨fun pins s σ H Q I h => ?_⟩
  refine Subscript_ (thn (he.run pins s σ H _ I h) fun v s1 ⟨x, H1, I1, r1, q1⟩ => ?_)
  obtain ⟨a, xs, rfl, hx, q⟩ := q1
  have hst : PO X (some (.UnaryOp .USub (.Constant (.int 1) j p1) p2)) (tPart (tUn (rU fun i => .int (-i)) (tC (.int 1)))) := po_some (pe_un un_neg pe_int)
  refine wpAny_Slice ?_
  rw [evalPart_none]
  refine wpAny_pure (wpAny_pure ?_)
  refine thn (hst.run pins s1 σ H1 (fun o H2 => o = some (-1) ∧ H2 = H1) I1 ⟨1, rfl, -1, rfl, rfl, rfl⟩) fun vk s2 ⟨o, H2, I2, pk, eo, eH⟩ => ?_
  subst eo eH
  have I4 : Inv X pins σ H2 { s2 with heap := s2.heap.push { cls := .type "slice", data := .fields #[.none, .none, vk] } } := I2.kept (t' := s2.toks) fun b ob q => Heap.get?_push_of_some _ q
  cases r1
  obtain ⟨its, r, ht, hz⟩ := I4.list hx
  have hlen := r.length
  show wpAny (model X.prog X.w) X.A (subscriptTail e (.Slice none none (some (.UnaryOp .USub (.Constant (.int 1) j p1) p2)) p3) (.ref a) (.ref s2.heap.objs.size)) (EP X pins σ Q) X.xe { s2 with heap := s2.heap.push { cls := .type "slice", data := .fields #[.none, .none, vk] } }
  refine tail_any (ops := [.ref a, .ref s2.heap.objs.size]) ht.isList.typeIs slot_list_getitem.lookup ?_ (by with_unfolding_all rfl)
  refine wpAny_getItem_list_slice ht.isList (Heap.IsSliceOf.new ..) .none .none pk (by decide) ?_ (by rw [List.size_toArray] <;> omega)
  rw [PySem.W.krv_pick]
  refine ⟨.ref _, _, I4.laid (t' := s2.toks) (o := .lst xs.reverse) (fun b ob q => Heap.get?_push_of_some _ q) (Nat.le_refl _) ?_, rfl, q _ (I4.hok.fresh (Nat.le_refl _))⟩
  exact ⟨by rw [List.length_reverse]; exact hz, _, 0, Vals.rev r, Heap.get?_push_size _ rfl⟩
end
end Hx
namespace Hx
open PySem PySem.Spec PyProof.Rows L2 Evl
/-- a class of refusals: one of the module's own over ValueError, without more -/
structure ExK (K : PySem.W.Frag) (mg : Str → Option Value) (x : Str) (C : Addr) : Prop where
  g : mg x = some (.ref C)
  x : PySem.W.excIn K C [.type "ValueError", .type "Exception", .type "BaseException", .type "object"] "ValueError.__new__" = true
  k : PySem.W.keepIn K (.ref C) = true
  b : PySem.W.subIn K (.ref C) (.type "BaseException") = some true
  t : PySem.W.typeIn K (.ref C) = some (.type "type")
  d : PySem.W.hasDictIn K C = true
  s : PySem.W.subIn K (.ref C) (.ref C) = some true
/-- a def of the module that keeps a promise, and may refuse -/
structure CalX (P : Program) (w : World) (K : PySem.W.Frag) (mg : Str → Option Value) (base : Heap) (x : Str) (k : Nat) (ps : List Str) (sp : Sp) : Prop where
  ex : ∃ f fd, FnOk P w K mg base (L2.CX P w) k f fd ps sp ∧ mg x = some (.ref f) ∧ PySem.W.keepIn K (.ref f) = true ∧ Binds K fd ps []
section
variable {X : Cx} {x : Str} {k j : Nat} {ps : List Str} {sp : Sp} {p pos : Pos} {e : Expr} {es : List Expr} {t : TA}
/-- called where a refusal is let through to W -/
theorem pe_calX {W : WX} (C : CalX X.prog X.w X.K X.mg X.base x k ps sp) (hr : Room j X.A) (tk : Takes X W) (ha : PA X (e :: es) t) (hk : k ≤ j := by decide) (hg : Gl X x := by rfl)
    (hdb : (x == ("__debug__" : Str)) = false := by decide) (he : starEach (e :: es) X.env = (false, eval e X.env) :: starEach es X.env := by rfl) (hpl : (backTo pos (starEach es X.env)).any (·.1) = false := by rfl) :
    PE X (.Call (.Name x p) (e :: es) [] pos) (tCallS sp (WE W) t) := by
  obtain ⟨f, fd, F, hm, kp, b⟩ := C.ex
  exact pe_callS F (hr.mono hk) hg hm kp b (fun σ => passAt tk σ) ha hdb he hpl
/-- called where it refuses nothing -/
theorem pe_cal0 (C : CalX X.prog X.w X.K X.mg X.base x k ps sp) (hr : Room j X.A) (ha : PA X (e :: es) t) (hk : k ≤ j := by decide) (hg : Gl X x := by rfl)
    (hdb : (x == ("__debug__" : Str)) = false := by decide) (he : starEach (e :: es) X.env = (false, eval e X.env) :: starEach es X.env := by rfl) (hpl : (backTo pos (starEach es X.env)).any (·.1) = false := by rfl) :
    PE X (.Call (.Name x p) (e :: es) [] pos) (tCall sp [] E0 t) := by
  obtain ⟨f, fd, F, hm, kp, b⟩ := C.ex
  exact pe_call F (hr.mono hk) hg hm kp b .nil passL ha hdb he hpl
end
/-- a value, or a refusal of the class at C -/
def spVX (RV : List V → Hp → V → Prop) (RE : List V → Hp → Addr → Prop) : Sp := fun vs H Q E => (∃ v, RV vs H v ∧ RetV v H Q) ∨ (∃ C, RE vs H C ∧ ∀ H', Ex H H' → E (.ref C) none H')
def spLX (RV : List V → Hp → List V → Prop) (RE : List V → Hp → Addr → Prop) : Sp := fun vs H Q E => (∃ v, RV vs H v ∧ RetL v H Q) ∨ (∃ C, RE vs H C ∧ ∀ H', Ex H H' → E (.ref C) none H')
section
variable {K : PySem.W.Frag} {σ : L2.St} {H : Hp} {ta : TA} {vs xs : List V} {z : V} {W : WX} {C : Addr} {Q : VK} {RE : List V → Hp → Addr → Prop} {RL : List V → Hp → List V → Prop} {RV : List V → Hp → V → Prop} {E : XK}
theorem ev_calX (h : EvA ta σ H vs) (hs : ∀ H1, Ex H H1 → RV vs H1 z) : Ev (tCallS (spVX RV RE) (WE W) ta) σ H z := fun H1 e Q q => h H1 e _ fun H2 e2 => .inl ⟨z, hs H2 (e.trans e2), fun H3 e3 => q H3 (e2.trans e3)⟩
theorem ev_cal0 (h : EvA ta σ H vs) (hs : ∀ H1, Ex H H1 → RV vs H1 z) : Ev (tCall (spVX RV RE) [] E ta) σ H z := fun H1 e Q q => h H1 e _ fun H2 e2 => .inl ⟨z, by rw [List.append_nil]; exact hs H2 (e.trans e2), fun H3 e3 => q H3 (e2.trans e3)⟩
theorem el_calX (h : EvA ta σ H vs) (hs : ∀ H1, Ex H H1 → RL vs H1 xs) : EvL (tCallS (spLX RL RE) (WE W) ta) σ H xs := fun H1 e Q q => h H1 e _ fun H2 e2 => .inl ⟨xs, hs H2 (e.trans e2), fun p H3 hp e3 h3 => q p H3 (fresh_back e2 hp) (e2.trans e3) h3⟩
theorem el_cal0 (h : EvA ta σ H vs) (hs : ∀ H1, Ex H H1 → RL vs H1 xs) : EvL (tCall (spLX RL RE) [] E ta) σ H xs := fun H1 e Q q => h H1 e _ fun H2 e2 => .inl ⟨xs, by rw [List.append_nil]; exact hs H2 (e.trans e2), fun p H3 hp e3 h3 => q p H3 (fresh_back e2 hp) (e2.trans e3) h3⟩
theorem rx_calV (h : EvA ta σ H vs) (hs : ∀ H1, Ex H H1 → RE vs H1 C) (k : ∀ H1, Ex H H1 → W (.ref C) none σ H1) : tCallS (spVX RV RE) (WE W) ta σ H Q := h H (Ex.refl H) _ fun H2 e2 => .inr ⟨C, hs H2 e2, fun H3 e3 => k H3 (e2.trans e3)⟩
theorem rx_calL (h : EvA ta σ H vs) (hs : ∀ H1, Ex H H1 → RE vs H1 C) (k : ∀ H1, Ex H H1 → W (.ref C) none σ H1) : tCallS (spLX RL RE) (WE W) ta σ H Q := h H (Ex.refl H) _ fun H2 e2 => .inr ⟨C, hs H2 e2, fun H3 e3 => k H3 (e2.trans e3)⟩
end
/-- no place of a land of n hills -/
inductive BadPl (H : Hp) (n : Nat) : V → Prop where
  | int (i : Int) (h : i < 0 ∨ (n : Int) ≤ i) : BadPl H n (.int i)
  | non : BadPl H n .non
  | bl (b : Bool) : BadPl H n (.bl b)
  | str (s : Str) : BadPl H n (.str s)
  | tup (a : Addr) (xs : List V) (h : H a = some (.tup xs)) : BadPl H n (.ref a)
  | lst (a : Addr) (xs : List V) (h : H a = some (.lst xs)) : BadPl H n (.ref a)
theorem BadPl.ex {H H' : Hp} {n : Nat} {v : V} (e : Ex H H') (h : BadPl H n v) : BadPl H' n v := by
  cases h with
  | int i h => exact .int i h
  | non => exact .non
  | bl b => exact .bl b
  | str s => exact .str s
  | tup a xs h => exact .tup a xs (e _ _ h)
  | lst a xs h => exact .lst a xs (e _ _ h)
def RPlace (K : PySem.W.Frag) (vs : List V) (H : Hp) (v : V) : Prop := ∃ (l : Addr) (land : List Int) (i : Int), vs = [.ref l, .int i] ∧ SqL K H l (land.map V.int) ∧ 0 ≤ i ∧ i < (land.length : Int) ∧ v = .non
def RNoPlace (K : PySem.W.Frag) (N : Addr) (vs : List V) (H : Hp) (C : Addr) : Prop := ∃ (l : Addr) (land : List Int) (x : V), vs = [.ref l, x] ∧ SqL K H l (land.map V.int) ∧ BadPl H land.length x ∧ C = N
end Hx

namespace Hx
open PySem PySem.Spec PyProof.Rows L2 Evl
/-- an except clause over that class meets its own refusals -/
theorem ExK.te {K : PySem.W.Frag} {mg : Str → Option Value} {x : Str} {C : Addr} (X : ExK K mg x C) : PySem.W.exmOne K (.ref C) (.ref C) = some true := PySem.W.exm_ref X.b X.d X.t X.s
section
variable {K : PySem.W.Frag} {σ : L2.St} {H : Hp} {te : TE} {tr ta : TA} {x : V} {xs : List V} {P : List V → Hp → Prop} {D : Ends} {tz : TS}
/-! ### arguments of which some are new tuples -/
def EvAX (ta : TA) (σ : L2.St) (H : Hp) (P : List V → Hp → Prop) : Prop := ∀ H1, Ex H H1 → ∀ Q : List V → Hp → Prop, (∀ vs H2, Ex H1 H2 → P vs H2 → Q vs H2) → ta σ H1 Q
theorem eax_cons (h : Ev te σ H x) (hr : EvAX tr σ H P) : EvAX (tCons te tr) σ H (fun vs H2 => ∃ r, vs = x :: r ∧ P r H2) := fun H1 e1 Q q =>
  h H1 e1 _ fun H2 e2 => hr H2 (e1.trans e2) _ fun r H3 e3 p => q (x :: r) H3 (e2.trans e3) ⟨r, rfl, p⟩
theorem eax_lastU (h : EvU te σ H xs) : EvAX (tCons te tNil) σ H (fun vs H2 => ∃ p, vs = [.ref p] ∧ H2 p = some (.tup xs)) := fun H1 e1 Q q =>
  h H1 e1 _ fun p H2 _ e2 hp => q [.ref p] H2 e2 ⟨p, rfl, hp⟩
theorem q_asgLX {i : Nat} (h : EvAX ta σ H P) (hl : ∀ vs H2, P vs H2 → vs.length ≤ 100000) (k : ∀ p vs H1 H2, P vs H1 → Ex H H2 → Ex H1 H2 → H2 p = some (.lst vs) → tz D (σ.set i (some (.ref p))) H2) : tSeq (tAsg (tLst ta) (gName i)) tz D σ H :=
  h H (Ex.refl H) _ fun vs H1 e1 p => ⟨sz_of (hl vs H1 p), fun l nl => k l vs H1 _ p (e1.trans (Ex.new nl)) (Ex.new nl) upd_same⟩
theorem atI_in {vs : List V} {i : Int} (h0 : 0 ≤ i) (h : i < (vs.length : Int)) : ∃ v, atI vs i = some v ∧ v ∈ vs := by
  have h1 : i.toNat < vs.length := by omega
  have e : i = ((i.toNat : Nat) : Int) := by omega
  refine ⟨vs[i.toNat], ?_, List.getElem_mem h1⟩
  have z := atI_nat (List.getElem?_eq_getElem h1)
  rw [← e] at z
  exact z
theorem ev_all {bs : List Bool} (h : EvL te σ H (bs.map V.bl)) : Ev (tCB (rAll K) (tCons te tNil)) σ H (.bl (bs.all id)) := fun H1 e1 Q q =>
  h H1 e1 _ fun p H2 _ e2 hp => ⟨p, bs, rfl, sq_of hp, q H2 e2⟩
end
end Hx
namespace Hx
open PySem PySem.Spec PyProof.Rows L2 Evl
theorem el_catV {σ : L2.St} {H : Hp} {ta tb : TE} {p : Addr} {xs ys zs : List V} (ha : Ev ta σ H (.ref p)) (hp : H p = some (.lst xs)) (hb : EvL tb σ H ys) (e : zs = xs ++ ys) (hz : xs.length + ys.length ≤ 100000) : EvL (tOp rCat ta tb) σ H zs := fun H1 e1 Q q =>
  ha H1 e1 _ fun H2 e2 => hb H2 (e1.trans e2) _ fun r H3 nr e3 hr => ⟨p, r, xs, ys, rfl, rfl, e3 _ _ (e2 _ _ (e1 _ _ hp)), hr, sz_of hz, fun l hl => e ▸ q l _ (fresh_back (e2.trans e3) hl) ((e2.trans e3).trans (Ex.new hl)) (e ▸ upd_same)⟩
end Hx

namespace Hx
open PySem PySem.Spec PyProof.Rows L2 Evl
/-- no whole number -/
inductive NoInt (H : Hp) : V → Prop where
  | non : NoInt H .non
  | bl (b : Bool) : NoInt H (.bl b)
  | str (s : Str) : NoInt H (.str s)
  | tup (a : Addr) (xs : List V) (h : H a = some (.tup xs)) : NoInt H (.ref a)
  | lst (a : Addr) (xs : List V) (h : H a = some (.lst xs)) : NoInt H (.ref a)
theorem NoInt.ex {H H' : Hp} {v : V} (e : Ex H H') (h : NoInt H v) : NoInt H' v := by
  cases h with
  | non => exact .non
  | bl b => exact .bl b
  | str s => exact .str s
  | tup a xs h => exact .tup a xs (e _ _ h)
  | lst a xs h => exact .lst a xs (e _ _ h)
theorem BadPl.int_or {H : Hp} {n : Nat} {v : V} (h : BadPl H n v) : (∃ i : Int, v = .int i ∧ (i < 0 ∨ (n : Int) ≤ i)) ∨ NoInt H v := by
  cases h with
  | int i h => exact .inl ⟨i, rfl, h⟩
  | non => exact .inr .non
  | bl b => exact .inr (.bl b)
  | str s => exact .inr (.str s)
  | tup a xs h => exact .inr (.tup a xs h)
  | lst a xs h => exact .inr (.lst a xs h)
def RWholeV (vs : List V) (H : Hp) (v : V) : Prop := ∃ x, vs = [x] ∧ ((∃ i, x = .int i ∧ v = .bl true) ∨ (NoInt H x ∧ v = .bl false))
section
variable {K : PySem.W.Frag} {σ : L2.St} {H : Hp} {ta : TA} {x : V} {E : XK}
theorem ev_isW {i : Int} (h : EvA ta σ H [.int i]) : Ev (tCall (spV RWholeV) [] E ta) σ H (.bl true) := ev_cal h fun _ _ => ⟨_, rfl, .inl ⟨i, rfl, rfl⟩⟩
theorem ev_isN (h : EvA ta σ H [x]) (hx : NoInt H x) : Ev (tCall (spV RWholeV) [] E ta) σ H (.bl false) := ev_cal h fun _ e => ⟨_, rfl, .inr ⟨hx.ex e, rfl⟩⟩
end
end Hx
/-! What is seen behind, and the view of a hill. -/
namespace Hx
/-- of the places a - i .. a - 1 the one from which the slope to a is least -/
def Flat (land : List Int) (a : Int) (i : Nat) (best : Int) : Prop := best < a ∧ a - i ≤ best ∧ ∀ k, k < a → a - i ≤ k → (cel land a - cel land best) * (a - k) ≤ (cel land a - cel land k) * (a - best)
theorem lt_of_flat {x y z n1 n2 n3 : Int} (h2 : 0 < n2) (h3 : 0 < n3) (h1 : 0 < n1) (a : y * n1 ≤ x * n2) (b : z * n2 < y * n3) : z * n1 < x * n3 := by
  have k1 : z * n2 * n1 < y * n3 * n1 := Int.mul_lt_mul_of_pos_right b h1
  have k2 : y * n1 * n3 ≤ x * n2 * n3 := Int.mul_le_mul_of_nonneg_right a (by omega)
  have k3 : (z * n1) * n2 < (x * n3) * n2 := by grind
  exact Int.lt_of_mul_lt_mul_right k3 (by omega)
theorem low_back {land : List Int} {p a k : Int} : lowB land p a k ↔ (cel land a - cel land p) * (a - k) < (cel land a - cel land k) * (a - p) := by
  unfold lowB
  constructor <;> intro h <;> grind
theorem flat_one (land : List Int) (a : Int) : Flat land a 1 (a - 1) := by
  refine ⟨by omega, by omega, fun k h1 h2 => ?_⟩
  have e : k = a - 1 := by omega
  rw [e]
  omega
theorem flat_yes {land : List Int} {a best p : Int} {i : Nat} (ep : p = a - 1 - i) (h : Flat land a i best) (hs : (cel land a - cel land p) * (a - best) < (cel land a - cel land best) * (a - p)) :
    Flat land a (i + 1) p ∧ seesB land p a = true := by
  obtain ⟨h1, h2, h3⟩ := h
  refine ⟨⟨by omega, by omega, fun k k1 k2 => ?_⟩, seesB_iff.mpr fun k k1 k2 => low_back.mpr ?_⟩
  · by_cases e : k = p
    · rw [e]
      omega
    · exact Int.le_of_lt (lt_of_flat (n2 := a - best) (by omega) (by omega) (by omega) (h3 k k1 (by omega)) hs)
  · exact lt_of_flat (n2 := a - best) (by omega) (by omega) (by omega) (h3 k k2 (by omega)) hs
theorem flat_no {land : List Int} {a best p : Int} {i : Nat} (ep : p = a - 1 - i) (h : Flat land a i best) (hs : ¬ (cel land a - cel land p) * (a - best) < (cel land a - cel land best) * (a - p)) :
    Flat land a (i + 1) best ∧ seesB land p a = false := by
  obtain ⟨h1, h2, h3⟩ := h
  refine ⟨⟨by omega, by omega, fun k k1 k2 => ?_⟩, seesB_false (k := best) (by omega) (by omega) fun z => hs (low_back.mp z)⟩
  by_cases e : k = p
  · rw [e]
    omega
  · exact h3 k k1 (by omega)
theorem sees_prev (land : List Int) (a : Int) : seesB land (a - 1) a = true := seesB_iff.mpr fun k h1 h2 => by omega
def behindN (land : List Int) (a : Int) (i : Nat) : List Int := ((List.range i).map fun (j : Nat) => a - 1 - (j : Int)).filter fun p => seesB land p a
theorem behindN_yes {land : List Int} {a : Int} {i : Nat} (h : seesB land (a - 1 - i) a = true) : behindN land a (i + 1) = behindN land a i ++ [a - 1 - (i : Int)] := by
  unfold behindN
  rw [List.range_succ, List.map_append, List.filter_append]
  simp [h]
theorem behindN_no {land : List Int} {a : Int} {i : Nat} (h : seesB land (a - 1 - i) a = false) : behindN land a (i + 1) = behindN land a i := by
  unfold behindN
  rw [List.range_succ, List.map_append, List.filter_append]
  simp [h]
theorem behindN_len (land : List Int) (a : Int) (i : Nat) : (behindN land a i).length ≤ i := by
  unfold behindN
  have h := List.length_filter_le (fun p => seesB land p a) ((List.range i).map fun (j : Nat) => a - 1 - (j : Int))
  rw [List.length_map, List.length_range] at h
  exact h
def behindOf (land : List Int) (a : Int) : List Int := ((List.range a.toNat).map fun (j : Nat) => (j : Int)).filter fun p => seesB land p a
theorem behind_rev (land : List Int) {a : Int} (h : 0 ≤ a) : (behindN land a a.toNat).reverse = behindOf land a := by
  unfold behindN behindOf
  rw [← List.filter_reverse]
  congr 1
  refine List.ext_getElem (by simp) fun i h1 h2 => ?_
  have hi : i < a.toNat := by simpa using h2
  rw [List.getElem_reverse, List.getElem_map, List.getElem_map, List.getElem_range, List.getElem_range]
  simp only [List.length_map, List.length_range]
  omega
def viewOf (land : List Int) (a : Int) : List Int := behindOf land a ++ aheadOf land a
/-- as a plain looking through tells -/
def dueN (land : List Int) (a : Int) (n : Nat) : List Int := ((List.range n).map fun (j : Nat) => (j : Int)).filter fun b => decide (b ≠ a) && seesB land (min a b) (max a b)
theorem dueN_yes {land : List Int} {a : Int} {i : Nat} (h : (decide ((i : Int) ≠ a) && seesB land (min a (i : Int)) (max a (i : Int))) = true) : dueN land a (i + 1) = dueN land a i ++ [(i : Int)] := by
  unfold dueN
  rw [List.range_succ, List.map_append, List.filter_append, List.map_singleton, List.filter_cons, if_pos h]
  rfl
theorem dueN_no {land : List Int} {a : Int} {i : Nat} (h : (decide ((i : Int) ≠ a) && seesB land (min a (i : Int)) (max a (i : Int))) = false) : dueN land a (i + 1) = dueN land a i := by
  unfold dueN
  rw [List.range_succ, List.map_append, List.filter_append, List.map_singleton, List.filter_cons, if_neg (by rw [h]; decide)]
  simp
theorem dueN_len (land : List Int) (a : Int) (i : Nat) : (dueN land a i).length ≤ i := by
  unfold dueN
  refine Nat.le_trans (List.length_filter_le _ _) ?_
  rw [List.length_map, List.length_range]
  exact Nat.le_refl _
theorem view_due (land : List Int) {a : Int} (h0 : 0 ≤ a) (h1 : a < (land.length : Int)) : viewOf land a = dueN land a land.length := by
  unfold viewOf dueN
  have hn : land.length = a.toNat + (1 + (land.length - a.toNat - 1)) := by omega
  rw [hn, List.range_add, List.map_append, List.filter_append]
  congr 1
  · unfold behindOf
    refine List.filter_congr fun x hx => ?_
    obtain ⟨j, hj, rfl⟩ := List.mem_map.mp hx
    have hj := List.mem_range.mp hj
    rw [decide_eq_true (show ((j : Int) ≠ a) by omega), Bool.true_and, Int.min_eq_right (by omega), Int.max_eq_left (by omega)]
  · rw [List.range_add, List.map_append, List.map_append, List.filter_append]
    have e0 : List.filter (fun b => decide (b ≠ a) && seesB land (min a b) (max a b)) (List.map (fun (j : Nat) => (j : Int)) (List.map (fun x => a.toNat + x) (List.range 1))) = [] := by
      refine List.filter_eq_nil_iff.mpr fun x hx => ?_
      have ex : x = a := by
        obtain ⟨j, hj, rfl⟩ := List.mem_map.mp hx
        obtain ⟨k, hk, rfl⟩ := List.mem_map.mp hj
        have hk := List.mem_range.mp hk
        omega
      rw [decide_eq_false (fun z => z ex), Bool.false_and]
      decide
    rw [e0, List.nil_append]
    unfold aheadOf aheadN
    have em : List.map (fun (j : Nat) => (j : Int)) (List.map (fun x => a.toNat + x) (List.map (fun x => 1 + x) (List.range (land.length - a.toNat - 1)))) = (List.range ((land.length : Int) - (a + 1)).toNat).map fun (j : Nat) => a + 1 + (j : Int) := by
      rw [List.map_map, List.map_map]
      have er : ((land.length : Int) - (a + 1)).toNat = land.length - a.toNat - 1 := by omega
      rw [er]
      refine List.map_congr_left fun j _ => ?_
      simp only [Function.comp]
      omega
    rw [em]
    refine List.filter_congr fun x hx => ?_
    obtain ⟨j, hj, rfl⟩ := List.mem_map.mp hx
    rw [decide_eq_true (show (a + 1 + (j : Int) ≠ a) by omega), Bool.true_and, Int.min_eq_left (by omega), Int.max_eq_right (by omega)]
end Hx

namespace Hx
open PySem PySem.Spec PyProof.Rows L2 Evl
def RBehind (K : PySem.W.Frag) (vs : List V) (H : Hp) (xs : List V) : Prop := ∃ (l : Addr) (land : List Int) (a : Int), vs = [.ref l, .int a] ∧ 0 ≤ a ∧ a < (land.length : Int) ∧ land.length ≤ 1000 ∧ SqL K H l (land.map V.int) ∧ xs = (behindOf land a).map V.int
section
variable {K : PySem.W.Frag} {σ : L2.St} {H : Hp} {ta : TA} {te : TE} {E : XK} {D : Ends} {tu tz : TS}
theorem el_behind {l : Addr} {land : List Int} {a : Int} (h : EvA ta σ H [.ref l, .int a]) (hs : SqL K H l (land.map V.int)) (h1 : 0 ≤ a) (h2 : a < (land.length : Int)) (h3 : land.length ≤ 1000) : EvL (tCall (spL (RBehind K)) [] E ta) σ H ((behindOf land a).map V.int) :=
  el_cal h fun _ e => ⟨l, land, a, rfl, h1, h2, h3, ex_l e hs, rfl⟩
theorem el_back {a : Addr} {xs : List V} (h : Ev te σ H (.ref a)) (hs : SqL K H a xs) : EvL (tBack K te) σ H xs.reverse := fun H1 e Q q => h H1 e _ fun H2 e2 => ⟨a, xs, rfl, ex_l (e.trans e2) hs, fun p hp => q p _ (fresh_back e2 hp) (e2.trans (Ex.new hp)) upd_same⟩
/-- for x in range(lo, -1, -1) -/
theorem q_forDown {j : Nat} {lo : Int} (h : EvA ta σ H [.int lo, .int (-1), .int (-1)]) (hn : -1 ≤ lo ∧ lo ≤ 100000) (Pv : Nat → L2.St → Hp → Prop) (h0 : ∀ H1, Ex H H1 → Pv 0 σ H1)
    (hs : ∀ (i : Nat) σ' H', (i : Int) ≤ lo → Pv i σ' H' → tu { D with nx := Pv (i + 1), ct := Pv (i + 1), bk := tz D } (σ'.set j (some (.int (lo - (i : Int))))) H') (hd : ∀ σ' H', Pv (lo + 1).toNat σ' H' → tz D σ' H') : tSeq (tFor (iRng3 ta) (gName j) tu) tz D σ H :=
  h H (Ex.refl H) _ fun H1 e => ⟨lo, -1, -1, (lo - -1).toNat, rfl, RgC.neg (by omega) (by omega) (by omega) (by omega), for_rangeC (lo := lo) (c := -1) (n := (lo - -1).toNat) Pv (h0 H1 e) (fun i σ' H' hi p => by
    have e0 : lo + (i : Int) * (-1) = lo - (i : Int) := by omega
    show tu { D with nx := Pv (i + 1), ct := Pv (i + 1), bk := tz D } (σ'.set j (some (.int (lo + (i : Int) * (-1))))) H'
    rw [e0]
    exact hs i σ' H' (by omega) p) (fun σ' H' p => hd σ' H' (by have z : (lo - -1).toNat = (lo + 1).toNat := by omega
                                                                rw [z] at p; exact p))⟩
end
end Hx
namespace Hx
open PySem PySem.Spec PyProof.Rows L2 Evl
def RView (K : PySem.W.Frag) (vs : List V) (H : Hp) (xs : List V) : Prop := ∃ (l : Addr) (land : List Int) (a : Int), vs = [.ref l, .int a] ∧ 0 ≤ a ∧ a < (land.length : Int) ∧ land.length ≤ 1000 ∧ SqL K H l (land.map V.int) ∧ xs = (viewOf land a).map V.int
theorem el_catN {σ : L2.St} {H : Hp} {ta tb : TE} {xs ys zs : List V} (ha : EvL ta σ H xs) (hb : EvL tb σ H ys) (e : zs = xs ++ ys) (hz : xs.length + ys.length ≤ 100000) : EvL (tOp rCat ta tb) σ H zs := fun H1 e1 Q q =>
  ha H1 e1 _ fun p H2 np e2 hp => hb H2 (e1.trans e2) _ fun r H3 nr e3 hr => ⟨p, r, xs, ys, rfl, rfl, e3 _ _ hp, hr, sz_of hz, fun l hl => e ▸ q l _ (fresh_back (e2.trans e3) hl) ((e2.trans e3).trans (Ex.new hl)) (e ▸ upd_same)⟩
end Hx
namespace Hx
open PySem PySem.Spec PyProof.Rows L2 Evl
def RSeenBy (K : PySem.W.Frag) (vs : List V) (H : Hp) (v : V) : Prop := ∃ (l : Addr) (land : List Int) (a b : Int), vs = [.ref l, .int a, .int b] ∧ 0 ≤ a ∧ a < b ∧ b < (land.length : Int) ∧ land.length ≤ 1000 ∧ SqL K H l (land.map V.int) ∧ v = .bl (seesB land a b)
section
variable {K : PySem.W.Frag} {σ : L2.St} {H : Hp} {ta : TA} {E : XK}
theorem ev_seen_by {l : Addr} {land : List Int} {a b : Int} (h : EvA ta σ H [.ref l, .int a, .int b]) (hs : SqL K H l (land.map V.int)) (h0 : 0 ≤ a) (h1 : a < b) (h2 : b < (land.length : Int)) (h3 : land.length ≤ 1000) : Ev (tCall (spV (RSeenBy K)) [] E ta) σ H (.bl (seesB land a b)) :=
  ev_cal h fun _ e => ⟨l, land, a, b, rfl, h0, h1, h2, h3, ex_l e hs, rfl⟩
theorem el_view {N l : Addr} {land : List Int} {a : Int} (h : EvA ta σ H [.ref l, .int a]) (hs : SqL K H l (land.map V.int)) (h1 : 0 ≤ a) (h2 : a < (land.length : Int)) (h3 : land.length ≤ 1000) : EvL (tCall (spLX (RView K) (RNoPlace K N)) [] E ta) σ H ((viewOf land a).map V.int) :=
  el_cal0 h fun _ e => ⟨l, land, a, rfl, h1, h2, h3, ex_l e hs, rfl⟩
end
end Hx
/-! Which hill hides two others. -/
namespace Hx
def stepB (land : List Int) (a best place : Int) : Int := if (cel land best - cel land a) * (place - a) < (cel land place - cel land a) * (best - a) then place else best
/-- the first of the steepest of the places a + 1 .. a + 1 + i -/
def steepN (land : List Int) (a : Int) : Nat → Int
  | 0 => a + 1
  | i + 1 => stepB land a (steepN land a i) (a + 2 + (i : Int))
def steepOf (land : List Int) (a b : Int) : Int := steepN land a (b - a - 1).toNat
theorem steepN_best (land : List Int) (a : Int) : ∀ i : Nat, Best land a (i + 1) (steepN land a i)
  | 0 => best_one land a
  | i + 1 => by
    have ih := steepN_best land a i
    have ep : a + 1 + ((i + 1 : Nat) : Int) = a + 2 + (i : Int) := by omega
    show Best land a (i + 1 + 1) (stepB land a (steepN land a i) (a + 2 + (i : Int)))
    unfold stepB
    by_cases h : (cel land (steepN land a i) - cel land a) * (a + 2 + (i : Int) - a) < (cel land (a + 2 + (i : Int)) - cel land a) * (steepN land a i - a)
    · rw [if_pos h]
      have z := best_yes ih (by rw [ep]; exact h)
      rw [ep] at z
      exact z.1
    · rw [if_neg h]
      exact (best_no ih (by rw [ep]; exact h)).1
theorem steepOf_best (land : List Int) {a b : Int} (h : a < b) : Best land a (b - a).toNat (steepOf land a b) := by
  have z := steepN_best land a (b - a - 1).toNat
  have e : (b - a - 1).toNat + 1 = (b - a).toNat := by omega
  rw [e] at z
  exact z
theorem steep_at (land : List Int) {a b : Int} (h : a < b) : a < steepOf land a b ∧ steepOf land a b ≤ b := by
  obtain ⟨h1, h2, _⟩ := steepOf_best land h
  exact ⟨h1, by omega⟩
/-- another than the later one is the steepest: it lies between, and not below the line -/
theorem steep_hides (land : List Int) {a b : Int} (h : a < b) (hn : steepOf land a b ≠ b) : a < steepOf land a b ∧ steepOf land a b < b ∧ ¬ lowB land a b (steepOf land a b) := by
  obtain ⟨h1, h2, h3⟩ := steepOf_best land h
  refine ⟨h1, by omega, fun z => ?_⟩
  have y := h3 b h (by omega)
  unfold lowB at z
  omega
theorem steep_sees (land : List Int) {a b : Int} (h : a < b) : steepOf land a b = b ↔ seesP land a b := by
  constructor
  · intro e
    by_cases h1 : b = a + 1
    · subst h1
      exact fun k k1 k2 => by omega
    · have hn : (b - a - 1).toNat = (b - a - 2).toNat + 1 := by omega
      have ep : a + 2 + (((b - a - 2).toNat : Nat) : Int) = b := by omega
      unfold steepOf at e
      rw [hn] at e
      have e : stepB land a (steepN land a (b - a - 2).toNat) (a + 2 + (((b - a - 2).toNat : Nat) : Int)) = b := e
      rw [ep] at e
      have ih := steepN_best land a (b - a - 2).toNat
      have ep2 : a + 1 + (((b - a - 2).toNat + 1 : Nat) : Int) = b := by omega
      unfold stepB at e
      by_cases hc : (cel land (steepN land a (b - a - 2).toNat) - cel land a) * (b - a) < (cel land b - cel land a) * (steepN land a (b - a - 2).toNat - a)
      · have z := best_yes ih (by rw [ep2]; exact hc)
        rw [ep2] at z
        exact seesB_iff.mp z.2
      · rw [if_neg hc] at e
        obtain ⟨_, k2, _⟩ := ih
        omega
  · intro hs
    by_cases e : steepOf land a b = b
    · exact e
    · obtain ⟨h1, h2, h3⟩ := steep_hides land h e
      exact absurd (hs _ h1 h2) h3
theorem steep_near (land : List Int) (a : Int) : steepOf land a (a + 1) = a + 1 := by
  unfold steepOf
  have e : (a + 1 - a - 1).toNat = 0 := by omega
  rw [e]
  rfl
end Hx
namespace Hx
open PySem PySem.Spec PyProof.Rows L2 Evl
def hidV (land : List Int) (a b : Int) : V := if steepOf land (min a b) (max a b) = max a b then .non else .int (steepOf land (min a b) (max a b))
def RSteepest (K : PySem.W.Frag) (vs : List V) (H : Hp) (v : V) : Prop := ∃ (l : Addr) (land : List Int) (a b : Int), vs = [.ref l, .int a, .int b] ∧ 0 ≤ a ∧ a < b ∧ b < (land.length : Int) ∧ land.length ≤ 1000 ∧ SqL K H l (land.map V.int) ∧ v = .int (steepOf land a b)
def RTwo (K : PySem.W.Frag) (vs : List V) (H : Hp) (v : V) : Prop := ∃ (l : Addr) (land : List Int) (a b : Int), vs = [.ref l, .int a, .int b] ∧ SqL K H l (land.map V.int) ∧ 0 ≤ a ∧ a < (land.length : Int) ∧ 0 ≤ b ∧ b < (land.length : Int) ∧ a ≠ b ∧ v = .non
/-- why two places are refused: the first, the second is none, both are one -/
inductive NoTwo (H : Hp) (n : Nat) (N S : Addr) : V → V → Addr → Prop where
  | first (x y : V) (h : BadPl H n x) : NoTwo H n N S x y N
  | second (i : Int) (y : V) (h0 : 0 ≤ i) (h1 : i < (n : Int)) (h : BadPl H n y) : NoTwo H n N S (.int i) y N
  | same (i : Int) (h0 : 0 ≤ i) (h1 : i < (n : Int)) : NoTwo H n N S (.int i) (.int i) S
theorem NoTwo.ex {H H' : Hp} {n : Nat} {N S : Addr} {x y : V} {C : Addr} (e : Ex H H') (h : NoTwo H n N S x y C) : NoTwo H' n N S x y C := by
  cases h with
  | first x y h => exact .first x y (h.ex e)
  | second i y h0 h1 h => exact .second i y h0 h1 (h.ex e)
  | same i h0 h1 => exact .same i h0 h1
def RNoTwo (K : PySem.W.Frag) (N S : Addr) (vs : List V) (H : Hp) (C : Addr) : Prop := ∃ (l : Addr) (land : List Int) (x y : V), vs = [.ref l, x, y] ∧ SqL K H l (land.map V.int) ∧ land.length ≤ 1000 ∧ NoTwo H land.length N S x y C
def RHider (K : PySem.W.Frag) (vs : List V) (H : Hp) (v : V) : Prop := ∃ (l : Addr) (land : List Int) (a b : Int), vs = [.ref l, .int a, .int b] ∧ SqL K H l (land.map V.int) ∧ land.length ≤ 1000 ∧ 0 ≤ a ∧ a < (land.length : Int) ∧ 0 ≤ b ∧ b < (land.length : Int) ∧ a ≠ b ∧ v = hidV land a b
def RSees (K : PySem.W.Frag) (vs : List V) (H : Hp) (v : V) : Prop := ∃ (l : Addr) (land : List Int) (a b : Int), vs = [.ref l, .int a, .int b] ∧ SqL K H l (land.map V.int) ∧ land.length ≤ 1000 ∧ 0 ≤ a ∧ a < (land.length : Int) ∧ 0 ≤ b ∧ b < (land.length : Int) ∧ a ≠ b ∧ v = .bl (decide (hidV land a b = .non))
section
variable {K : PySem.W.Frag} {σ : L2.St} {H : Hp} {ta : TA} {t1 t2 : TE} {E : XK}
theorem ev_steeperU {r1 n1 r2 n2 : Int} (h1 : EvU t1 σ H [.int r1, .int n1]) (h2 : EvU t2 σ H [.int r2, .int n2]) (b1 : -(2 ^ 64) < n1) (b2 : n1 < 2 ^ 64) (b3 : -(2 ^ 64) < n2) (b4 : n2 < 2 ^ 64) :
    Ev (tCall (spV (RSteeper K)) [] E (tCons t1 (tCons t2 tNil))) σ H (.bl (decide (r2 * n1 < r1 * n2))) := fun H1 e1 Q q =>
  h1 H1 e1 _ fun p1 H2 _ e2 hp1 => h2 H2 (e1.trans e2) _ fun p2 H3 _ e3 hp2 => ⟨_, ⟨p1, p2, r1, n1, r2, n2, rfl, st_of (e3 _ _ hp1), st_of hp2, b1, b2, b3, b4, rfl⟩, fun H4 e4 => q H4 ((e2.trans e3).trans e4)⟩
theorem ev_steepest {l : Addr} {land : List Int} {a b : Int} (h : EvA ta σ H [.ref l, .int a, .int b]) (hs : SqL K H l (land.map V.int)) (h0 : 0 ≤ a) (h1 : a < b) (h2 : b < (land.length : Int)) (h3 : land.length ≤ 1000) : Ev (tCall (spV (RSteepest K)) [] E ta) σ H (.int (steepOf land a b)) :=
  ev_cal h fun _ e => ⟨l, land, a, b, rfl, h0, h1, h2, h3, ex_l e hs, rfl⟩
theorem ev_hider {N S l : Addr} {land : List Int} {a b : Int} (h : EvA ta σ H [.ref l, .int a, .int b]) (hs : SqL K H l (land.map V.int)) (h3 : land.length ≤ 1000) (a0 : 0 ≤ a) (a1 : a < (land.length : Int)) (b0 : 0 ≤ b) (b1 : b < (land.length : Int)) (hn : a ≠ b) :
    Ev (tCall (spVX (RHider K) (RNoTwo K N S)) [] E ta) σ H (hidV land a b) := ev_cal0 h fun _ e => ⟨l, land, a, b, rfl, ex_l e hs, h3, a0, a1, b0, b1, hn, rfl⟩
theorem ev_sees {N S l : Addr} {land : List Int} {a b : Int} (h : EvA ta σ H [.ref l, .int a, .int b]) (hs : SqL K H l (land.map V.int)) (h3 : land.length ≤ 1000) (a0 : 0 ≤ a) (a1 : a < (land.length : Int)) (b0 : 0 ≤ b) (b1 : b < (land.length : Int)) (hn : a ≠ b) :
    Ev (tCall (spVX (RSees K) (RNoTwo K N S)) [] E ta) σ H (.bl (decide (hidV land a b = .non))) := ev_cal0 h fun _ e => ⟨l, land, a, b, rfl, ex_l e hs, h3, a0, a1, b0, b1, hn, rfl⟩
end
end Hx
/-! For the law over whole sights: a chain of three comparisons, a dict of pairs, lands on a line and on a curve. -/
namespace Hx
open PySem PySem.Spec PyProof.Rows L2 Evl
section
variable {X : Cx} {a b c d : Expr} {ta tb tc td : TE} {pos : Pos}
def tChain3 (r1 r2 r3 : R2) (ta tb tc td : TE) : TT := fun σ H Q => ta σ H fun x H1 => tb σ H1 fun y H2 => r1 x y H2 fun z H3 => ∃ k, z = .bl k ∧ (if k = true then tc σ H3 fun w H4 => r2 y w H4 fun z2 H5 => ∃ k2, z2 = .bl k2 ∧
  (if k2 = true then td σ H5 fun u H6 => r3 w u H6 fun z3 H7 => ∃ k3, z3 = .bl k3 ∧ Q k3 H7 else Q false H5) else Q false H3)
theorem pt_chain3 {o1 o2 o3 : CmpOp} {r1 r2 r3 : R2} (h1 : OpR X (compareOp o1) r1) (h2 : OpR X (compareOp o2) r2) (h3 : OpR X (compareOp o3) r3) (ha : PE X a ta) (hb : PE X b tb) (hc : PE X c tc) (hd : PE X d td)
    (hm : lastMarks [o1, o2, o3] [b, c, d] = false := by with_unfolding_all rfl) : PT X (.Compare a [o1, o2, o3] [b, c, d] pos) (tChain3 r1 r2 r3 ta tb tc td) := by
  refine ⟨fun pins s σ H Q I q0 => ?_⟩
  refine isTrue_chain (thn (ha.run pins s σ H _ I q0) fun va sa ⟨xa, Ha, Ia, ra, qa⟩ => test_link (thn (hb.run pins sa σ Ha _ Ia qa) fun vb sb ⟨xb, Hb, Ib, rb, qb⟩ => thn (h1 pins sb σ Hb xa xb va vb _ Ib ra rb qb) fun v1 s1 ⟨z1, H1, I1, e1, k1, ek1, q1⟩ => ?_)) hm
  subst ek1
  cases e1
  refine wpAny_truthy_bool ?_
  cases k1 with
  | false => exact ⟨H1, I1, q1⟩
  | true =>
    refine test_link (thn (hc.run pins s1 σ H1 _ I1 q1) fun vc sc ⟨xc, Hc, Ic, rc, qc⟩ => thn (h2 pins sc σ Hc xb xc vb vc _ Ic rb rc qc) fun v2 s2 ⟨z2, H2, I2, e2, k2, ek2, q2⟩ => ?_)
    subst ek2
    cases e2
    refine wpAny_truthy_bool ?_
    cases k2 with
    | false => exact ⟨H2, I2, q2⟩
    | true =>
      refine test_last (thn (hd.run pins s2 σ H2 _ I2 q2) fun vd sd ⟨xd, Hd, Id, rd, qd⟩ => thn (h3 pins sd σ Hd xc xd vc vd _ Id rc rd qd) fun v3 s3 ⟨z3, H3, I3, e3, k3, ek3, q3⟩ => ?_)
      subst ek3
      cases e3
      exact wpAny_truthy_bool ⟨H3, I3, q3⟩
end
section
variable {K : PySem.W.Frag} {σ : L2.St} {H : Hp} {ta tb tc td te tl : TE} {D : Ends} {tz : TS} {ps : List (Int × Int)}
theorem et_chain3 {r1 r2 r3 : R2} {x y w u : V} {k1 k2 k3 : Bool} (ha : Ev ta σ H x) (hb : Ev tb σ H y) (hc : Ev tc σ H w) (hd : Ev td σ H u) (h1 : RV r1 x y H (.bl k1)) (h2 : RV r2 y w H (.bl k2)) (h3 : RV r3 w u H (.bl k3)) : EvT (tChain3 r1 r2 r3 ta tb tc td) σ H (k1 && (k2 && k3)) := fun H1 e1 Q q =>
  ha H1 e1 _ fun H2 e2 => hb H2 (e1.trans e2) _ fun H3 e3 => h1 H3 ((e1.trans e2).trans e3) _ fun H4 e4 => ⟨k1, rfl, by
    have f4 := ((e1.trans e2).trans e3).trans e4
    have g4 := (e2.trans e3).trans e4
    cases k1 with
    | false => exact q H4 g4
    | true => exact hc H4 f4 _ fun H5 e5 => h2 H5 (f4.trans e5) _ fun H6 e6 => ⟨k2, rfl, by
        have f6 := (f4.trans e5).trans e6
        have g6 := (g4.trans e5).trans e6
        cases k2 with
        | false => exact q H6 g6
        | true => exact hd H6 f6 _ fun H7 e7 => h3 H7 (f6.trans e7) _ fun H8 e8 => ⟨k3, rfl, q H8 ((g6.trans e7).trans e8)⟩⟩⟩
theorem rv_ltP {p q : Addr} {a b : Int × Int} (h1 : SqT K H p [.int a.1, .int a.2]) (h2 : SqT K H q [.int b.1, .int b.2]) (h : ltq a b) : RV (rLtT K) (.ref p) (.ref q) H (.bl true) := fun H1 e Q k => by
  refine ⟨p, q, [a.1, a.2], [b.1, b.2], rfl, rfl, ex_t e h1, ex_t e h2, ?_⟩
  have z : HT.lexLt [a.1, a.2] [b.1, b.2] = true := by
    unfold ltq at h
    simp only [HT.lexLt]
    rcases h with h | ⟨h, h'⟩
    · simp [h]
      omega
    · simp [h, h']
      omega
  rw [z]
  exact k H1 (Ex.refl H1)
/-! ### a dict of pairs -/
def kk (q : Int × Int) : List Key := [.inl q.1, .inl q.2]
theorem kk_inj {p q : Int × Int} (h : kk p = kk q) : p = q := by
  have h1 := List.cons.inj h
  have h2 := List.cons.inj h1.2
  exact Prod.ext (Sum.inl.inj h1.1) (Sum.inl.inj h2.1)
def dicF (d : List (List Key × V)) (ps : List (Int × Int)) : List (List Key × V) := ps.foldl (fun d q => putK d (kk q) (.bl true)) d
theorem dicF_has (q : Int × Int) : ∀ (ps : List (Int × Int)) (d : List (List Key × V)), (valV (dicF d ps) (kk q)).isSome = (decide (q ∈ ps) || (valV d (kk q)).isSome)
  | [], d => by simp [dicF]
  | p :: r, d => by
    have ih := dicF_has q r (putK d (kk p) (.bl true))
    show (valV (dicF (putK d (kk p) (.bl true)) r) (kk q)).isSome = _
    rw [ih, valV_put]
    by_cases e : q = p
    · subst e
      simp
    · rw [if_neg (fun z => e (kk_inj z))]
      simp [e]
theorem dicF_len : ∀ (ps : List (Int × Int)) (d : List (List Key × V)), (dicF d ps).length ≤ d.length + ps.length
  | [], d => Nat.le_refl _
  | p :: r, d => by
    have ih := dicF_len r (putK d (kk p) (.bl true))
    have z := length_putK d (kk p) (.bl true)
    show (dicF (putK d (kk p) (.bl true)) r).length ≤ d.length + (r.length + 1)
    omega
theorem dicF_snoc (d : List (List Key × V)) (ps : List (Int × Int)) (q : Int × Int) : dicF d (ps ++ [q]) = putK (dicF d ps) (kk q) (.bl true) := by
  unfold dicF
  rw [List.foldl_append]
  rfl
theorem s_dput {td ty tv : TE} {a t : Addr} {kvs : List (List Key × V)} {q : Int × Int} {v : V} (hv : Ev tv σ H v) (hd : Ev td σ H (.ref a)) (hy : Ev ty σ H (.ref t)) (h : H a = some (.dT kvs)) (ht : H t = some (.tup [.int q.1, .int q.2])) (hz : kvs.length < 100000)
    (k : ∀ H1, Ex H H1 → D.nx σ (upd H1 a (.dT (putK kvs (kk q) v)))) : sDPut td ty tv D σ H := hv H (Ex.refl H) _ fun H1 e1 => hd H1 e1 _ fun H2 e2 => hy H2 (e1.trans e2) _ fun H3 e3 =>
  ⟨a, _, rfl, .t (k := kk q) (((e1.trans e2).trans e3) _ _ h) (((e1.trans e2).trans e3) _ _ ht) (sz_lt hz), k H3 ((e1.trans e2).trans e3)⟩
theorem et_din {ty td : TE} {a : Addr} {kvs : List (List Key × V)} {q : Int × Int} (hy : EvU ty σ H [.int q.1, .int q.2]) (hd : Ev td σ H (.ref a)) (h : H a = some (.dT kvs)) : EvT (tB (tDIn ty td)) σ H (valV kvs (kk q)).isSome := fun H1 e1 Q k =>
  hy H1 e1 _ fun t H2 _ e2 ht => hd H2 (e1.trans e2) _ fun H3 e3 => ⟨a, _, rfl, .t (k := kk q) (((e1.trans e2).trans e3) _ _ h) (e3 _ _ ht), _, rfl, k H3 (e2.trans e3)⟩
/-! ### pairs out of a range; a list of pairs and one more -/
theorem ep_lcR {ta ta2 : TA} {j : Nat} {vs : List Nat} {n : Int} (f : Nat → Int × Int) (h : EvA ta σ H [.int n]) (hn : 0 ≤ n ∧ n ≤ 40000) (hw : ∀ x, wipe ((wipe σ vs).set j (some x)) vs = wipe σ vs)
    (he : ∀ (k : Nat) H1, Ex H H1 → (k : Int) < n → EvA ta2 ((wipe σ vs).set j (some (.int (k : Int)))) H1 [.int (f k).1, .int (f k).2]) : EvP (tLc (iRng1 ta) (gName j) tYes (tTup ta2) vs) σ H ((List.range n.toNat).map f) := fun H0 e0 Q k => h H0 e0 _ fun H1 e1 => ⟨n, rfl, by omega, by omega, fun Dl hD => by
  refine lc_range (lo := 0) (n := n.toNat) (fun m H' => Ex H1 H' ∧ ∃ bs, H' Dl = some (.lst (bs.map V.ref)) ∧ Tups H' bs ((List.range m).map f)) ⟨Ex.new hD, [], upd_same, Tups.nil _⟩ ?_ ?_
  · rintro m H' hm ⟨e2, bs, hb, tb⟩
    have ez : (0 : Int) + (m : Int) = (m : Int) := Int.zero_add _
    show wipe ((wipe σ vs).set j (some (.int ((0 : Int) + (m : Int))))) vs = wipe σ vs ∧ _
    rw [ez]
    refine ⟨hw _, t_yes ?_⟩
    refine he m H' ((e0.trans e1).trans e2) (by omega) H' (Ex.refl _) _ fun H3 e3 => ⟨sz_of (Nat.le_of_ble_eq_true rfl), fun c nc => ?_⟩
    have e4 : Ex H3 (upd H3 c (.tup [.int (f m).1, .int (f m).2])) := Ex.new nc
    have hb4 := e4 _ _ (e3 _ _ hb)
    have lb : bs.length ≤ 40000 := by rw [tb.1, List.length_map, List.length_range]; omega
    refine ⟨_, hb4, by rw [List.length_map, sizeLine_eq]; omega, Ex.mut ((e2.trans e3).trans e4) hD, bs ++ [c], ?_, ?_⟩
    · rw [upd_same, List.map_append]
      rfl
    · have z := (((tb.ex e3).ex e4).snoc (p := c) (q := f m) upd_same).upd (ys := bs.map V.ref ++ [.ref c]) hb4
      rw [List.range_succ, List.map_append]
      exact z
  · rintro H' ⟨e2, bs, hb, tb⟩
    exact k Dl H' bs (fresh_back e1 hD) (e1.trans e2) hb tb⟩
theorem ep_catS {p : Addr} {te2 : TE} {a b : Int} (ha : Ev ta σ H (.ref p)) (hp : PrL H p ps) (hb : EvU te2 σ H [.int a, .int b]) (hz : ps.length ≤ 90000) : EvP (tOp rCat ta (tLst (tCons te2 tNil))) σ H (ps ++ [(a, b)]) := fun H1 e1 Q q =>
  ha H1 e1 _ fun H2 e2 => hb H2 (e1.trans e2) _ fun t H3 nt e3 ht => ⟨sz_of (Nat.le_of_ble_eq_true rfl), fun r nr => by
    obtain ⟨as, h1, h2⟩ := hp
    have f3 := (e1.trans e2).trans e3
    have e4 : Ex H3 (upd H3 r (.lst [.ref t])) := Ex.new nr
    refine ⟨p, r, as.map V.ref, [.ref t], rfl, rfl, e4 _ _ (f3 _ _ h1), upd_same, sz_of (by rw [List.length_map, h2.1, List.length_cons, List.length_nil]; omega), fun l nl => ?_⟩
    have e5 : Ex (upd H3 r (.lst [.ref t])) (upd (upd H3 r (.lst [.ref t])) l (.lst (as.map V.ref ++ [.ref t]))) := Ex.new nl
    refine q l _ (as ++ [t]) (fresh_back ((e2.trans e3).trans e4) nl) (((e2.trans e3).trans e4).trans e5) (by rw [upd_same, List.map_append]; rfl) ?_
    exact (((h2.ex f3).ex e4).ex e5).snoc (e5 _ _ (e4 _ _ ht))⟩
theorem el_copyP {p : Addr} {as : List Addr} (h : Ev te σ H (.ref p)) (hp : H p = some (.lst (as.map V.ref))) : EvL (tCB (fun xs H Q => ∃ p ys, xs = [V.ref p] ∧ (SqL K H p ys ∨ SqT K H p ys) ∧ ∀ l, H l = none → Q (.ref l) (upd H l (.lst ys))) (tCons te tNil)) σ H (as.map V.ref) :=
  el_cb (ea_cons h ea_nil) (rcl_list (sq_of hp))
end
/-! ### lands on a line and on a curve -/
def lineOf (t : Int) (n : Nat) : List Int := (List.range n).map fun (k : Nat) => t * (k : Int) + 7
def curveOf (t : Int) (n : Nat) : List Int := (List.range n).map fun (k : Nat) => (k : Int) * (k : Int) + t * (k : Int)
theorem cel_line {t : Int} {n : Nat} {i : Int} (h0 : 0 ≤ i) (h : i < (n : Int)) : cel (lineOf t n) i = t * i + 7 := by
  unfold lineOf
  rw [cel_range h0 h]
  have e : ((i.toNat : Nat) : Int) = i := by omega
  rw [e]
theorem cel_curve {t : Int} {n : Nat} {i : Int} (h0 : 0 ≤ i) (h : i < (n : Int)) : cel (curveOf t n) i = i * i + t * i := by
  unfold curveOf
  rw [cel_range h0 h]
  have e : ((i.toNat : Nat) : Int) = i := by omega
  rw [e]
theorem line_ahead (t : Int) (n : Nat) {a : Int} (h0 : 0 ≤ a) : ∀ m : Nat, a + 1 + (m : Int) ≤ (n : Int) → aheadN (lineOf t n) a m = if m = 0 then [] else [a + 1]
  | 0, _ => rfl
  | 1, _ => by
    have z := aheadN_yes (i := 0) (land := lineOf t n) (a := a) (by have := sees_next (lineOf t n) a; simpa using this)
    rw [z]
    simp [aheadN]
  | m + 2, h => by
    have ih := line_ahead t n h0 (m + 1) (by omega)
    have hl : ((lineOf t n).length : Int) = (n : Int) := by unfold lineOf; rw [List.length_map, List.length_range]
    have z : seesB (lineOf t n) a (a + 1 + ((m + 1 : Nat) : Int)) = false := by
      refine seesB_false (k := a + 1) (by omega) (by omega) ?_
      unfold lowB
      rw [cel_line (by omega) (by omega), cel_line (by omega) (by omega), cel_line (by omega) (by omega)]
      intro y
      grind
    rw [aheadN_no z, ih]
    simp
theorem curve_ahead (t : Int) (n : Nat) {a : Int} (h0 : 0 ≤ a) : ∀ m : Nat, a + 1 + (m : Int) ≤ (n : Int) → aheadN (curveOf t n) a m = (List.range m).map fun (j : Nat) => a + 1 + (j : Int)
  | 0, _ => rfl
  | m + 1, h => by
    have ih := curve_ahead t n h0 m (by omega)
    have z : seesB (curveOf t n) a (a + 1 + (m : Int)) = true := seesB_iff.mpr fun k k1 k2 => by
      unfold lowB
      rw [cel_curve (by omega) (by omega), cel_curve (by omega) (by omega), cel_curve (by omega) (by omega)]
      generalize hb : a + 1 + (m : Int) = b at k2
      have p1 : 0 < (k - a) * (b - a) := Int.mul_pos (by omega) (by omega)
      have p2 : 0 < (k - a) * (b - a) * (b - k) := Int.mul_pos p1 (by omega)
      grind
    rw [aheadN_yes z, ih, List.range_succ, List.map_append]
    rfl
theorem flatP_congr {r1 r2 : Nat → List Int} {n : Nat} (h : ∀ k, k < n → r1 k = r2 k) : flatP r1 n = flatP r2 n := by
  unfold flatP
  rw [List.flatMap_def, List.flatMap_def]
  congr 1
  exact List.map_congr_left fun k hk => by rw [h k (List.mem_range.mp hk)]
theorem sights_line (t : Int) (n : Nat) (hn : 1 ≤ n) : sightsOf (lineOf t n) = (List.range (n - 1)).map fun (k : Nat) => ((k : Int), (k : Int) + 1) := by
  have hl : (lineOf t n).length = n := by unfold lineOf; rw [List.length_map, List.length_range]
  have row : ∀ k, k < n → aheadOf (lineOf t n) (k : Int) = if k + 1 < n then [(k : Int) + 1] else [] := fun k hk => by
    unfold aheadOf
    rw [hl, line_ahead t n (by omega) _ (by omega)]
    by_cases e : k + 1 < n
    · rw [if_neg (by omega), if_pos e]
    · rw [if_pos (by omega), if_neg e]
  unfold sightsOf
  have en : (((lineOf t n).length : Nat) : Int).toNat = n := by rw [hl]; omega
  rw [en, flatP_congr row]
  have part : ∀ i, i ≤ n - 1 → flatP (fun k => if k + 1 < n then [(k : Int) + 1] else []) i = (List.range i).map fun (k : Nat) => ((k : Int), (k : Int) + 1) := by
    intro i
    induction i with
    | zero => intro _; rfl
    | succ i ih =>
      intro hi
      rw [flatP_succ, ih (by omega), if_pos (by omega), List.range_succ, List.map_append]
      rfl
  obtain ⟨m, rfl⟩ : ∃ m, n = m + 1 := ⟨n - 1, by omega⟩
  rw [flatP_succ, part m (by omega), if_neg (by omega)]
  simp
theorem sights_curve (t : Int) (n : Nat) : sightsOf (curveOf t n) = flatP (fun k => (List.range (n - k - 1)).map fun (j : Nat) => (k : Int) + 1 + (j : Int)) n := by
  have hl : (curveOf t n).length = n := by unfold curveOf; rw [List.length_map, List.length_range]
  unfold sightsOf
  have en : (((curveOf t n).length : Nat) : Int).toNat = n := by rw [hl]; omega
  rw [en]
  refine flatP_congr fun k hk => ?_
  unfold aheadOf
  rw [hl, curve_ahead t n (by omega) _ (by omega)]
  have e : ((n : Int) - ((k : Int) + 1)).toNat = n - k - 1 := by omega
  rw [e]
end Hx
namespace Hx
open PySem PySem.Spec PyProof.Rows L2 Evl
def RBelow (K : PySem.W.Frag) (vs : List V) (H : Hp) (v : V) : Prop := ∃ (l : Addr) (land : List Int) (a b k : Int), vs = [.ref l, .int a, .int b, .int k] ∧ 0 ≤ a ∧ a < (land.length : Int) ∧ 0 ≤ b ∧ b < (land.length : Int) ∧ 0 ≤ k ∧ k < (land.length : Int) ∧ land.length ≤ 1000 ∧ SqL K H l (land.map V.int) ∧ v = .bl (decide (lowB land a b k))
def RPairs (vs : List V) (H : Hp) (v : V) : Prop := ∃ (p : Addr) (n : Int) (ps : List (Int × Int)), vs = [.ref p, .int n] ∧ PrL H p ps ∧ ps.Pairwise ltq ∧ (∀ q ∈ ps, 0 ≤ q.1 ∧ q.1 < q.2 ∧ q.2 < n) ∧ v = .bl true
def RKnown (K : PySem.W.Frag) (vs : List V) (H : Hp) (v : V) : Prop := ∃ (l : Addr) (ns : List Int), vs = [.ref l] ∧ SqL K H l (ns.map V.int) ∧ v = .bl true
section
variable {K : PySem.W.Frag} {σ : L2.St} {H : Hp} {ta : TA} {E : XK}
theorem ev_below {l : Addr} {land : List Int} {a b k : Int} (h : EvA ta σ H [.ref l, .int a, .int b, .int k]) (hs : SqL K H l (land.map V.int)) (a0 : 0 ≤ a) (a1 : a < (land.length : Int)) (b0 : 0 ≤ b) (b1 : b < (land.length : Int)) (k0 : 0 ≤ k) (k1 : k < (land.length : Int)) (h3 : land.length ≤ 1000) :
    Ev (tCall (spV (RBelow K)) [] E ta) σ H (.bl (decide (lowB land a b k))) := ev_cal h fun _ e => ⟨l, land, a, b, k, rfl, a0, a1, b0, b1, k0, k1, h3, ex_l e hs, rfl⟩
theorem ev_pairs {p : Addr} {n : Int} {ps : List (Int × Int)} (h : EvA ta σ H [.ref p, .int n]) (hp : PrL H p ps) (h1 : ps.Pairwise ltq) (h2 : ∀ q ∈ ps, 0 ≤ q.1 ∧ q.1 < q.2 ∧ q.2 < n) : Ev (tCall (spV RPairs) [] E ta) σ H (.bl true) :=
  ev_cal h fun _ e => ⟨p, n, ps, rfl, hp.ex e, h1, h2, rfl⟩
end
end Hx
namespace Hx
open PySem PySem.Spec PyProof.Rows L2 Evl
section
variable {K : PySem.W.Frag} {σ : L2.St} {H : Hp} {te : TE} {ta : TA} {D : Ends} {tz : TS}
theorem q_asgD {i : Nat} (k : ∀ p H1, H p = none → Ex H H1 → H1 p = some (.dT []) → tz D (σ.set i (some (.ref p))) H1) : tSeq (tAsg tDNewT (gName i)) tz D σ H := fun p hp => k p _ hp (Ex.new hp) upd_same
/-- [True for k in range(lo, n)] -/
theorem el_lcT {lo n : Int} {j : Nat} {vs : List Nat} (h : EvA ta σ H [.int lo, .int n]) (hn : 0 ≤ lo ∧ lo ≤ 40000 ∧ -40000 ≤ n ∧ n ≤ 40000) (hw : ∀ x, wipe ((wipe σ vs).set j (some x)) vs = wipe σ vs)
    (he : ∀ (k : Nat) H1, Ex H H1 → lo + (k : Int) < n → Ev te ((wipe σ vs).set j (some (.int (lo + (k : Int))))) H1 (.bl true)) : EvL (tLc (iRng2 ta) (gName j) tYes te vs) σ H ((List.replicate (n - lo).toNat true).map V.bl) := fun H0 e0 Q q => h H0 e0 _ fun H1 e1 =>
  ⟨lo, n, rfl, ⟨by omega, by omega, by omega, by omega⟩, fun Dl hD => by
  refine lc_range (lo := lo) (n := (n - lo).toNat) (fun m H' => Ex H1 H' ∧ H' Dl = some (.lst ((List.replicate m true).map V.bl))) ⟨Ex.new hD, upd_same⟩ ?_ ?_
  · rintro m H' hm ⟨e2, hb⟩
    refine ⟨hw _, t_yes ?_⟩
    refine he m H' ((e0.trans e1).trans e2) (by omega) H' (Ex.refl _) _ fun H3 e3 => ?_
    refine ⟨_, e3 _ _ hb, by rw [List.length_map, List.length_replicate, sizeLine_eq]; omega, Ex.mut (e2.trans e3) hD, ?_⟩
    rw [upd_same, List.replicate_succ', List.map_append]
    rfl
  · rintro H' ⟨e2, hb⟩
    exact q Dl H' (fresh_back e1 hD) (e1.trans e2) hb⟩
end
end Hx
/-! A try with several clauses that bear names; a def that looks at a caught error. -/
namespace Hx
open PySem PySem.Spec PyProof.Rows L2 Evl
/-- one clause: the class, the slot of its name, what its suite does -/
structure Cl where
  c : Value
  i : Nat
  ts : Addr → Value → Option Addr → TS
/-- the ends of a suite behind which the name is gone -/
def goneE (i : Nat) (D : Ends) : Ends where
  nx := fun τ G => D.nx (τ.set i none) G
  rt := D.rt
  bk := fun τ G => D.bk (τ.set i none) G
  ct := fun τ G => D.ct (τ.set i none) G
/-- what the clauses want, in their order; none may be left -/
def wCls (K : PySem.W.Frag) (D : Ends) : List Cl → WX
  | [] => fun _ _ _ _ => False
  | q :: r => fun cls d τ G => ∃ b, PySem.W.exmOne K cls q.c = some b ∧
      (b = true → ∀ x, G x = none → q.ts x cls d (goneE q.i D) (τ.set q.i (some (.ref x))) G) ∧ (b = false → wCls K D r cls d τ G)
inductive ClsOk (X : Cx) : List ExceptHandler → List Cl → Prop
  | nil : ClsOk X [] []
  | cons {y n : Str} {c : Value} {i : Nat} {ts : Addr → Value → Option Addr → TS} {b1 : Stmt} {bs : List Stmt} {p1 p2 : Pos} {hs : List ExceptHandler} {l : List Cl}
      (slot : X.N[i]? = some n) (loc : X.env.kindOf n = some .local) (nm : Names X y c)
      (suite : ∀ (x : Addr) (o : Obj) (cls : Value) (d : Option Addr) (pn : List (Addr × Obj)), Zc cls d o → (∃ fs, o.data = .fields fs) → PSs (X.suite x ((x, o) :: pn)) (b1 :: bs) (ts x cls d))
      (rest : ClsOk X hs l) : ClsOk X (.ExceptHandler (some (.Name y p1)) (some n) (b1 :: bs) p2 :: hs) (⟨c, i, ts⟩ :: l)
  /-- one without a name that is never met -/
  | bare {y : Str} {c : Value} {b1 : Stmt} {bs : List Stmt} {p1 p2 : Pos} {hs : List ExceptHandler} {l : List Cl} (nm : Names X y c) (rest : ClsOk X hs l) :
      ClsOk X (.ExceptHandler (some (.Name y p1)) none (b1 :: bs) p2 :: hs) (⟨c, 0, fun _ _ _ _ _ _ => False⟩ :: l)
section
variable {X : Cx} {pins : List (Addr × Obj)} {D : Ends} {B : Heap} {x : Addr} {s1 : Shared} {sI : Shared} {τ : L2.St} {G : Hp} {cls : Value} {d : Option Addr} {h3 : Heap}
/-- an error that has landed, looked at by the clauses -/
theorem clauses (ok : X.Ok) (nd : X.N.Nodup) (J : Inv X pins τ G sI) (nb : ∀ b o, sI.heap.get? b = some o → b ∉ frs X.stack → B.get? b = some o) (up : sI.heap.UpToSlots h3) (free : G x = none)
    (eo : s1.os = sI.os) (bare : AllBare s1.gens) (stk : X.stack = X.env :: X.outer) (fr : X.env.frame = some X.env.locals) (fl : HandSPX.FlyingZ B (X.env :: X.outer) x (Zc cls d) h3) :
    ∀ {hs : List ExceptHandler} {l : List Cl}, ClsOk X hs l → wCls X.K D l cls d τ G → wpAny (model X.prog X.w) X.A (handleBy (.ref x) X.env hs) (SP X pins D) X.xe { s1 with heap := h3 } := by
  have awayAt : ∀ {h : Heap} {o : Obj} {fs : Array Value}, h.FunFrames B (X.env :: X.outer) → h.get? x = some o → o.data = .fields fs → x ∉ frs (X.env :: X.outer) := by
    intro h o fs ff e dd hm
    obtain ⟨_, o2, e2, no⟩ := ff.mem hm
    rw [e2] at e
    cases e
    exact no _ dd
  obtain ⟨o3, f3, g3, z3, d3⟩ := fl.there
  have away := awayAt fl.2.2.1 g3 d3
  have aL : x ≠ X.env.locals := by
    intro z
    refine away (List.mem_filterMap.mpr ⟨X.env, List.mem_cons_self, ?_⟩)
    rw [fr, z]
  have aF : x ∉ X.fs := by
    intro hm
    obtain ⟨e, he, q⟩ := List.mem_filterMap.mp hm
    exact away (List.mem_filterMap.mpr ⟨e, List.mem_cons_of_mem _ he, q⟩)
  have back : ∀ {h : Heap}, sI.heap.UpToSlots h → HandSPX.FlyingZ B (X.env :: X.outer) x (Zc cls d) h → Inv X pins τ G { s1 with heap := h } := fun {h} u f => J.landed nb f.1 u eo bare
  have S3 := (back up fl).suite g3 d3 free aL aF
  have asks : PySem.W.Looks (model X.prog X.w) h3 (typeOf (.ref x)) cls := fun A Q E s k q => wpAny_typeOf_ref (k _ _ g3) (by rw [z3.1]; exact q)
  intro hs l ok2
  induction ok2 with
  | nil => exact fun w => w.elim
  | @bare y c b1 bs p1 p2 hs2 l2 nm rest ih =>
    rintro ⟨b, hb, yes, no⟩
    have M := PySem.W.exm_one (M := model X.prog X.w) (back up fl).kIn asks hb
    have named : ∀ {Q E : Value → Shared → Prop}, Q c { s1 with heap := h3 } → wpAny (model X.prog X.w) (X.A.mark (some (.ref x))) (eval (.Name y p1) X.env) Q E { s1 with heap := h3 } := by
      intro Q E q
      obtain ⟨g, db, m | ⟨m, v, nn⟩⟩ := nm
      · exact ld_glob (X := X.suite x ((x, o3) :: (X.pn ++ pins))) S3 g m q db
      · exact ld_blt (X := X.suite x ((x, o3) :: (X.pn ++ pins))) S3 g m v q nn db
    refine wpAny_handleBy_cons (codeAny_handlers_test (named (M.here ?_))) (fun q => nomatch q)
    cases b with
    | false => exact ih (no rfl)
    | true => exact (yes rfl x free).elim
  | @cons y n c i ts b1 bs p1 p2 hs2 l2 slot loc nm suite rest ih =>
    rintro ⟨b, hb, yes, no⟩
    have M := PySem.W.exm_one (M := model X.prog X.w) (back up fl).kIn asks hb
    have named : ∀ {Q E : Value → Shared → Prop}, Q c { s1 with heap := h3 } → wpAny (model X.prog X.w) (X.A.mark (some (.ref x))) (eval (.Name y p1) X.env) Q E { s1 with heap := h3 } := by
      intro Q E q
      obtain ⟨g, db, m | ⟨m, v, nn⟩⟩ := nm
      · exact ld_glob (X := X.suite x ((x, o3) :: (X.pn ++ pins))) S3 g m q db
      · exact ld_blt (X := X.suite x ((x, o3) :: (X.pn ++ pins))) S3 g m v q nn db
    refine wpAny_handleBy_cons (codeAny_handlers_test (named (M.here ?_))) (fun q => nomatch q)
    cases b with
    | false => exact ih (no rfl)
    | true =>
      refine codeAny_handlers_suite_as (HandSPX.lands_againZ fl fun h4 fl4 up4 => ?_)
      obtain ⟨o4, f4, g4, z4, d4⟩ := fl4.there
      have S4 := (back (up.trans up4) fl4).suite g4 d4 free aL aF
      refine store_ok (X := X.suite x ((x, o4) :: (X.pn ++ pins))) (v := .ref x) S4 nd slot (.inl loc) rfl (fun s5 S5 => ?_) (.inr loc)
      refine wpAny_mono ((suite x o4 cls d (X.pn ++ pins) z4 ⟨_, d4⟩).run [] s5 _ G _ S5 (yes rfl x free)) (fun f s6 e6 => ?_) (fun _ _ z => z.elim)
      have gone : ∀ {τ6 : L2.St} {G6 : Hp} {Q : Shared → Prop}, Inv (X.suite x ((x, o4) :: (X.pn ++ pins))) [] τ6 G6 s6 → (∀ s7, Inv X pins (τ6.set i none) G6 s7 → Q s7) →
          wpAny (model X.prog X.w) X.A (do bindName X.env n .none; unbindBehindTheSuite X.env n p2) (fun _ s7 => Q s7) X.xe s6 := by
        intro τ6 G6 Q S6 k
        exact gone_ok (S6.unsuite ok) nd slot loc k
      cases f with
      | ret u =>
        obtain ⟨v6, τ6, G6, S6, r6, q6⟩ := e6
        exact gone S6 fun _ J7 => ⟨v6, _, G6, J7, r6, q6⟩
      | next =>
        obtain ⟨τ6, G6, S6, q6⟩ := e6
        exact gone S6 fun _ J7 => ⟨_, G6, J7, q6⟩
      | cont =>
        obtain ⟨τ6, G6, S6, q6⟩ := e6
        exact gone S6 fun _ J7 => ⟨_, G6, J7, q6⟩
      | brk =>
        obtain ⟨τ6, G6, S6, q6⟩ := e6
        exact gone S6 fun _ J7 => ⟨_, G6, J7, q6⟩
end
section
variable {X : Cx} {body : List Stmt} {h1 : ExceptHandler} {hs : List ExceptHandler} {l : List Cl} {p0 : Pos} {tb : WX → TS}
/-- try: body / except C1 as n: .. / except C2 as m: .. -/
theorem ps_catch (stk : X.stack = X.env :: X.outer) (fr : X.env.frame = some X.env.locals) (nd : X.N.Nodup)
    (hb : ∀ (W : WX) (pn : List (Addr × Obj)) (xe : Value → Shared → Prop), Takes (X.tr pn xe) W → PSs (X.tr pn xe) body (tb W)) (hc : ClsOk X (h1 :: hs) l) :
    PS X (.Try body (h1 :: hs) [] [] p0) (fun D τ G => tb (wCls X.K D l) D τ G) := by
  refine ⟨fun pins s τ G D I w => wpAny_Try_except ?_⟩
  have ok := I.ok
  have frA : X.A.frames = some (X.env :: X.outer) := by
    rw [ok.frames, stk]
  refine wpAny_mono ((hb (wCls X.K D l) (X.pn ++ pins) _ ?caught).run [] s τ G D (I.toTry _) w) (fun f s2 e2 => ?_) (fun _ _ z => z)
  case caught =>
    rintro u s2 ⟨x, B, sI, pins2, τ2, G2, cls, d, rfl, J2, nb, up, sky, free, eo, bare, w2⟩
    have J : Inv X pins τ2 G2 sI := J2.ofTry ok
    have air : Sky B (X.env :: X.outer) x (Zc cls d) X.env.locals s2.heap := by
      rw [← stk]
      exact sky
    exact Sky.land Zc.steady frA fr air fun h3 fl3 up3 => clauses ok nd J nb (up.trans up3) free eo bare stk fr fl3 hc w2
  cases f with
  | ret u =>
    obtain ⟨v, τ2, G2, J2, r, q⟩ := e2
    exact ⟨v, τ2, G2, J2.ofTry ok, r, q⟩
  | next =>
    obtain ⟨τ2, G2, J2, q⟩ := e2
    exact wpAny_execs_nil ⟨τ2, G2, J2.ofTry ok, q⟩
  | cont =>
    obtain ⟨τ2, G2, J2, q⟩ := e2
    exact ⟨τ2, G2, J2.ofTry ok, q⟩
  | brk =>
    obtain ⟨τ2, G2, J2, q⟩ := e2
    exact ⟨τ2, G2, J2.ofTry ok, q⟩
end
/-- xs.append(e), the fragment told ahead (within a try, where the reading may not name the body's own context) -/
theorem pe_appK {X : Cx} {K : PySem.W.Frag} {o e : Expr} {ap cp : Pos} {to : TE} {t : TA} (ho : PE X o to) (ha : PA X [e] t) (hK : X.K = K := by rfl) (hbase : attributeBase o "append" X.env (eval o X.env) = eval o X.env := by rfl)
    (hfew : ((backTo cp (starEach [e] X.env)).all (fun x => !x.1) && (backToKw cp (keywordEach [] X.env)).all (fun x => x.1.isSome) && decide ([e].length + ([] : List Keyword).length + (if ([] : List Keyword).isEmpty then 0 else 1) < 30)) = true := by rfl)
    (hline : (ap.endLine == cp.line) = true := by rfl) (hs : starEach [e] X.env = (false, eval e X.env) :: starEach [] X.env := by rfl) (hplain : (backTo cp (starEach [] X.env)).any (·.1) = false := by rfl) :
    PE X (.Call (.Attribute o "append" ap) [e] [] cp) (tBM K "list" rAppend to t) := by
  subst hK
  exact pe_bm PySem.F.plainAttrs_list PySem.F.slot_list_append PySem.F.type_list_append mt_append ho ha hbase hfew hline hs hplain
end Hx
namespace Hx
open PySem PySem.Spec PyProof.Rows L2 Evl
/-- a def of one parameter, asked for a caught error of the class at C: it tells v, and no more than new things come -/
structure FnZ (P : Program) (w : World) (K : PySem.W.Frag) (mg : Str → Option Value) (base : Heap) (k : Nat) (f : Addr) (fd : FuncData) (y : Str) (C : Addr) (v : V) : Prop where
  run : ∀ (A : Around) (out : List Env) (s : Shared) (G : Hp) (as : Args) (q : Addr × Obj), L2H.RoomH k A → Zc (.ref C) none q.2 → (∃ fs, q.2.data = .fields fs) → L2H.PinOk out G s q →
    Env0 P w K mg base A out s G → BindsTo s fd as [(y, .ref q.1)] → codeAny (model P w) A (.call (.ref f) as) (CR CX0 out P w G s (fun u G' => u = v ∧ Ex G G') E0) s
/-- by its body -/
theorem Fun.okZ {P : Program} {w : World} {K : PySem.W.Frag} {mg : Str → Option Value} {base : Heap} {x qual y : Str} {st : Stmt} {f : Addr} {fd : FuncData} {N : List Str} {k : Nat} {C : Addr} {v : V} (F : Fun K x qual st f fd) (S : FnScope N [y] (defScope st))
    (h : ∀ (cdv : Value) (A : Around) (out : List Env) (s : Shared) (G : Hp) (q : Addr × Obj), L2H.RoomH k (A.deeper (envOfC qual (defScope st) s.heap.objs.size f cdv)) → Zc (.ref C) none q.2 → (∃ fs, q.2.data = .fields fs) →
      ∃ t, PSs (L2H.cxH CX0 P w K mg base N qual (defScope st) f cdv A out s G E0 q) (defBody st) t ∧ t { nx := fun _ _ => False, rt := fun u G' => u = v ∧ Ex G G' } (L2.start N [.ref q.1]) G) : FnZ P w K mg base (k + 1) f fd y C v := by
  obtain ⟨oc, od, kV, doc, pm, an, cdv, ct, osl, rfl, lk, code⟩ := F.ex
  refine ⟨fun A out s G as q room z hf pin e0 hb => ?_⟩
  have grow : ∀ b o, base.get? b = some o → s.heap.get? b = some o := fun b o e => (e0.bs b o e).1
  have there : K.In s.heap := e0.mod.kin.keeps grow
  have kinds : ∀ z ∈ [(y, Value.ref q.1)], (defScope st).names.lookup z.1 = some .local ∨ ((defScope st).names.lookup z.1 = some .cell ∧ ((cellsFrom (s.heap.objs.size + 1) (defScope st).names []).lookup z.1).isSome = true) := by
    intro z hz
    cases List.mem_singleton.mp hz
    rcases S.par y List.mem_cons_self with k | k
    · exact .inl k
    · exact .inr ⟨k, PySem.W.cellsFrom_some _ _ _ (.inl k)⟩
  refine codeAny_call_function room.depth (there _ _ lk) rfl S.co S.gen rfl (PySem.W.codeRec_of there code) (hb _ _ _ _ (wpAny_newFunctionEnv_cells S.kind kinds fun env he s1 x1 => ?_))
  subst he
  refine ⟨(e0.mod.nolimit.keeps grow).keeps x1.toInCall.keep, codeAny_func ?_⟩
  obtain ⟨t, ht, hq⟩ := h cdv A out s G q (room.deeper _) z hf
  have I := L2H.inv_startH (CX := CX0) (E := E0) (cd := cdv) (us := [.ref q.1]) (vs := [.ref q.1]) S pin e0 rfl (.cons rfl .nil) x1
  refine wpAny_mono (ht.run [] s1 _ G _ I hq) (fun fl s2 e2 => ?_) fun _ _ e => e
  cases fl with
  | ret u =>
    obtain ⟨v2, _, G2, J, r, e⟩ := e2
    exact ⟨v2, G2, J.os, J.bare, J.base, J.hok, r, e⟩
  | next =>
    obtain ⟨_, _, _, z⟩ := e2
    exact z.elim
  | cont =>
    obtain ⟨_, _, _, z⟩ := e2
    exact False.elim z
  | brk =>
    obtain ⟨_, _, _, z⟩ := e2
    exact False.elim z
/-- such a def under its name -/
structure CalZ (P : Program) (w : World) (K : PySem.W.Frag) (mg : Str → Option Value) (base : Heap) (x : Str) (k : Nat) (y : Str) (R : Addr → V → Prop) : Prop where
  ex : ∃ f fd, (∀ C v, R C v → FnZ P w K mg base k f fd y C v) ∧ mg x = some (.ref f) ∧ PySem.W.keepIn K (.ref f) = true ∧ Binds K fd [y] []
/-- the call, within the suite -/
def tZ (R : Addr → V → Prop) (cls : Value) (d : Option Addr) (a : Addr) (t : TA) : TE := fun σ H Q => t σ H fun vs H1 => vs = [.ref a] ∧ ∃ C v, cls = .ref C ∧ d = none ∧ R C v ∧ ∀ H2, Ex H1 H2 → Q v H2
section
variable {X : Cx} {x y : Str} {k j : Nat} {R : Addr → V → Prop} {p pos : Pos} {e : Expr} {t : TA} {a C : Addr} {o : Obj} {v : V}
theorem pe_calZ {cls : Value} {d : Option Addr} (c : CalZ X.prog X.w X.K X.mg X.base x k y R) (hr : L2H.RoomH j X.A) (hz : Zc cls d o) (hf : ∃ fs, o.data = .fields fs) (hm : (a, o) ∈ X.pn) (ha : PA X [e] t) (hk : k ≤ j := by decide) (hg : Gl X x := by rfl)
    (hdb : (x == ("__debug__" : Str)) = false := by decide) (he : starEach [e] X.env = (false, eval e X.env) :: starEach [] X.env := by rfl) (hpl : (backTo pos (starEach [] X.env)).any (·.1) = false := by rfl) :
    PE X (.Call (.Name x p) [e] [] pos) (tZ R cls d a t) := by
  obtain ⟨f, fd, F, m, keep, b⟩ := c.ex
  refine ⟨fun pins s σ H Q I h => wpAny_Call_Name_kw (ld_glob I hg m ?_ hdb)⟩
  refine PySem.W.callWith_K (h₀ := X.base) I.ok.mod.kin keep (thn (ha.run pos pins s σ H _ I h) fun us s1 ⟨vs, H1, I1, r, ev, C, v, ec, ed, hv, q⟩ => ⟨I1.kIn, ?_⟩) he hpl
  subst ev ec ed
  obtain ⟨g, free, nL, nF, nc⟩ := I1.pin (a, o) (List.mem_append_left _ hm)
  have pin : L2H.PinOk X.stack H1 s1 (a, o) := by
    refine ⟨g, free, fun z => ?_, nc⟩
    rcases List.mem_cons.mp (I1.stkSub a z) with z | z
    · exact nL z
    · exact nF z
  cases r with
  | cons ru rn =>
    cases rn
    cases ru
    refine wpAny_call (codeAny_mono ((F C v hv).run X.A X.stack s1 H1 ⟨[.ref a], []⟩ (a, o) ⟨Nat.lt_of_le_of_lt (by omega) hr.dp, Nat.lt_of_le_of_lt (by omega) hr.un⟩ hz hf pin I1.env0 (b s1 [.ref a] I1.kIn rfl)) fun res s2 e2 => ?_)
    match res, e2 with
    | .ok (.ret u), e2 =>
      refine I1.after ?_
      obtain ⟨u2, G, e3, e4, e5, e6, e7, rfl, e8⟩ := e2
      exact ⟨u2, G, e3, e4, e5, e6, e7, q G e8⟩
/-- isinstance of that error, wherever it is pinned -/
theorem call_isZ (c : ExcC X.K C) (hz : Zc (.ref C) none o) (hf : ∃ fs, o.data = .fields fs) (hm : (a, o) ∈ X.pn) : CallR X (.builtin "isinstance") (rIsE X.K C a) := by
  rintro pins s σ H xs us Q I r ⟨u, w, b, rfl, hu, hb, q⟩
  cases r with
  | cons r1 r2 =>
    cases r1
    cases r2 with
    | cons r3 r4 =>
      cases r4
      cases hu _ r3
      obtain ⟨c1, d1, dt, sl⟩ := o
      obtain ⟨fs, rfl⟩ : ∃ fs, dt = .fields fs := hf
      obtain ⟨rfl, rfl⟩ : c1 = .ref C ∧ d1 = none := hz
      have at1 : PySem.W.InstAt s.heap a _ C none := ⟨(I.pin _ (List.mem_append_left _ hm)).1, rfl, rfl, trivial⟩
      have kit := PySem.W.handS_kitx_exc (x := a) (ox := ⟨.ref C, none, .fields fs, sl⟩) c.hg c.hk c.hs c.hd c.ha c.hn c.ht c.hm
      exact PySem.W.kia_one kit I.kIn at1 hb (fun z => nomatch z) fun tk => ⟨.bl b, H, I.kept (t' := tk) (fun _ _ z => z), rfl, q⟩
end
theorem rc_isZ {K : PySem.W.Frag} {H : Hp} {D a c : Addr} {b : Bool} (h : PySem.W.kitOne K (.ref D) (.ref c) = some b) : RC (rIsE K D a) [.ref a, .ref c] H (.bl b) := fun H1 _ Q q =>
  ⟨.ref c, .ref c, b, rfl, fun _ r => r, h, q H1 (Ex.refl H1)⟩
theorem rc_isZt {K : PySem.W.Frag} {H : Hp} {D a : Addr} {T : String} {b : Bool} (h : PySem.W.kitOne K (.ref D) (.type T) = some b) : RC (rIsE K D a) [.ref a, .ty T] H (.bl b) := fun H1 _ Q q =>
  ⟨.ty T, .type T, b, rfl, fun _ r => r, h, q H1 (Ex.refl H1)⟩
theorem ev_calZ {σ : L2.St} {H : Hp} {a C : Addr} {v : V} {t : TA} {R : Addr → V → Prop} (h : EvA t σ H [.ref a]) (hR : R C v) : Ev (tZ R (.ref C) none a t) σ H v := fun H1 e Q q => h H1 e _ fun H2 e2 => ⟨rfl, C, v, rfl, rfl, hR, fun H3 e3 => q H3 (e2.trans e3)⟩
/-- which of the module's own errors one of the class D is -/
structure SoleK (K : PySem.W.Frag) (L N S T U HE D : Addr) : Prop where
  e : ExcC K D
  one : ∃ b1 b2 b3 b4 b5 : Bool, PySem.W.kitOne K (.ref D) (.ref L) = some b1 ∧ PySem.W.kitOne K (.ref D) (.ref N) = some b2 ∧ PySem.W.kitOne K (.ref D) (.ref S) = some b3 ∧ PySem.W.kitOne K (.ref D) (.ref T) = some b4 ∧
    PySem.W.kitOne K (.ref D) (.ref U) = some b5 ∧ (b1.toInt + b2.toInt + b3.toInt + b4.toInt + b5.toInt = 1)
  h : PySem.W.kitOne K (.ref D) (.ref HE) = some true
  v : PySem.W.kitOne K (.ref D) (.type "ValueError") = some true
theorem ExK.kit {K : PySem.W.Frag} {mg : Str → Option Value} {x : Str} {C D : Addr} {b : Bool} (X : ExK K mg x C) (h : PySem.W.subIn K (.ref D) (.ref C) = some b) : PySem.W.kitOne K (.ref D) (.ref C) = some b := by
  unfold PySem.W.kitOne
  by_cases e : D = C
  · subst e
    rw [if_pos (by simp)]
    exact X.s.symm.trans h
  · rw [if_neg (fun z => e (Value.ref.inj (beq_iff_eq.mp z)))]
    obtain ⟨cd, hc, _⟩ := PySem.W.any_some X.d
    show (if _ = true then _ else _) = _
    rw [if_pos (by rw [hc, X.t]; rfl)]
    exact h
theorem kit_top {K : PySem.W.Frag} {D : Addr} {T : String} {b : Bool} (m : PySem.W.kitMeta T = true) (h : PySem.W.subIn K (.ref D) (.type T) = some b) : PySem.W.kitOne K (.ref D) (.type T) = some b := by
  unfold PySem.W.kitOne
  rw [if_neg (fun z => by cases beq_iff_eq.mp z)]
  show (if PySem.W.kitMeta T = true then _ else _) = _
  rw [if_pos m]
  exact h
section
variable {σ : L2.St} {H : Hp} {te : TE} {tr : TA} {xs : List V} {P : List V → Hp → Prop}
theorem eax_consU (h : EvU te σ H xs) (hr : EvAX tr σ H P) : EvAX (tCons te tr) σ H (fun vs H2 => ∃ p r H1, vs = .ref p :: r ∧ H1 p = some (.tup xs) ∧ Ex H1 H2 ∧ P r H2) := fun H1 e1 Q q =>
  h H1 e1 _ fun p H2 _ e2 hp => hr H2 (e1.trans e2) _ fun r H3 e3 y => q (.ref p :: r) H3 (e2.trans e3) ⟨p, r, H2, rfl, hp, e3, y⟩
theorem eax_lastL (h : EvL te σ H xs) : EvAX (tCons te tNil) σ H (fun vs H2 => ∃ p, vs = [.ref p] ∧ H2 p = some (.lst xs)) := fun H1 e1 Q q =>
  h H1 e1 _ fun p H2 _ e2 hp => q [.ref p] H2 e2 ⟨p, rfl, hp⟩
end
/-- the law's own look for the hider: what is found behind i places -/
def fndV (land : List Int) (a : Int) : Nat → V
  | 0 => .non
  | i + 1 => .int (steepN land a i)
def hidOf (land : List Int) (a b : Int) : V := if steepOf land a b = b then .non else .int (steepOf land a b)
theorem hidV_eq (land : List Int) (a b : Int) : hidV land a b = hidOf land (min a b) (max a b) := rfl
def RAbove (K : PySem.W.Frag) (vs : List V) (H : Hp) (v : V) : Prop := ∃ (l : Addr) (land : List Int) (a j k : Int), vs = [.ref l, .int a, .int j, .int k] ∧ 0 ≤ a ∧ a < (land.length : Int) ∧ 0 ≤ j ∧ j < (land.length : Int) ∧ 0 ≤ k ∧ k < (land.length : Int) ∧ land.length ≤ 1000 ∧ SqL K H l (land.map V.int) ∧
  v = .bl (decide ((cel land k - cel land a) * (j - a) < (cel land j - cel land a) * (k - a)))
def RHiderBy (K : PySem.W.Frag) (vs : List V) (H : Hp) (v : V) : Prop := ∃ (l : Addr) (land : List Int) (a b : Int), vs = [.ref l, .int a, .int b] ∧ 0 ≤ a ∧ a < b ∧ b < (land.length : Int) ∧ land.length ≤ 1000 ∧ SqL K H l (land.map V.int) ∧ v = hidOf land a b
/-- the word for a refusal -/
def RWord (K : PySem.W.Frag) (N S : Addr) (vs : List V) (H : Hp) (v : V) : Prop := ∃ (l : Addr) (land : List Int) (x y : V) (C : Addr), vs = [.ref l, x, y] ∧ SqL K H l (land.map V.int) ∧ land.length ≤ 1000 ∧ NoTwo H land.length N S x y C ∧
  ((C = N ∧ v = .str "no hill") ∨ (C = S ∧ v = .str "same hill"))
end Hx
/-! Own readings for the second stage: negative places, pops, zip, slices, is True, all whole. -/
namespace Hx
open PySem PySem.Spec PyProof.Rows L2 Evl
theorem getD_neg {ns : List Int} {j : Int} (h0 : j < 0) (h : -(ns.length : Int) ≤ j) : atI (ns.map V.int) j = some (V.int (cel ns ((ns.length : Int) + j))) := by
  have hl : (ns.map V.int).length = ns.length := List.length_map ..
  have e := getD_ix (ns := ns) (j := (ns.length : Int) + j) (by omega) (by omega)
  unfold atI ixN at e ⊢
  rw [hl] at e ⊢
  rw [if_pos (by omega), if_pos (by omega)] at e
  rw [if_neg (by omega), if_pos h]
  have ez : (j + (ns.length : Int)).toNat = ((ns.length : Int) + j).toNat := by omega
  rw [ez]
  exact e
theorem get_cel {ns : List Int} {j : Int} (h0 : 0 ≤ j) (h : j < (ns.length : Int)) : ns[j.toNat]? = some (cel ns j) := by
  unfold cel
  rw [List.getD_eq_getElem?_getD, List.getElem?_eq_getElem (by omega)]
  rfl
theorem cutV_from (xs : List V) (k : Nat) : cutV xs (some (k : Int)) none = xs.drop k := by
  unfold cutV
  rw [HT.sIx_nat, HT.sIx_none]
  by_cases h : k ≤ xs.length
  · rw [Nat.min_eq_left h, List.take_of_length_le (by rw [List.length_drop]; omega)]
  · rw [Nat.min_eq_right (by omega), List.drop_of_length_le (Nat.le_refl _), List.drop_of_length_le (by omega), List.take_nil]
theorem cutV_init (xs : List V) (x : V) : cutV (xs ++ [x]) none (some (-1)) = xs := by
  unfold cutV
  have e : HT.sIx (xs ++ [x]).length (xs ++ [x]).length (some (-1)) = xs.length := by
    show (if (-1 : Int) < 0 then (-1 + ((xs ++ [x]).length : Int)).toNat else min (-1 : Int).toNat (xs ++ [x]).length) = _
    rw [if_pos (by decide), List.length_append, List.length_singleton]
    omega
  rw [e, HT.sIx_none, List.drop_zero, Nat.sub_zero, List.take_left]
theorem cutV_to (xs : List V) (k : Nat) : cutV xs none (some (k : Int)) = xs.take k := by
  unfold cutV
  rw [HT.sIx_nat, HT.sIx_none, List.drop_zero, Nat.sub_zero]
  by_cases h : k ≤ xs.length
  · rw [Nat.min_eq_left h]
  · rw [Nat.min_eq_right (by omega), List.take_of_length_le (Nat.le_refl _), List.take_of_length_le (by omega)]
theorem cutV_mid (xs : List V) (j k : Nat) : cutV xs (some (j : Int)) (some (k : Int)) = (xs.drop j).take (k - j) := by
  unfold cutV
  rw [HT.sIx_nat, HT.sIx_nat]
  by_cases h : j ≤ xs.length
  · rw [Nat.min_eq_left h]
    by_cases h2 : k ≤ xs.length
    · rw [Nat.min_eq_left h2]
    · rw [Nat.min_eq_right (by omega), List.take_of_length_le (by rw [List.length_drop]; omega), List.take_of_length_le (by rw [List.length_drop]; omega)]
  · rw [Nat.min_eq_right (show xs.length ≤ j by omega), List.drop_of_length_le (Nat.le_refl _), List.drop_of_length_le (show xs.length ≤ j by omega), List.take_nil, List.take_nil]
section
variable {K : PySem.W.Frag} {σ : L2.St} {H H' : Hp} {ta tb te tx : TE} {t u : TT} {x y z v : V} {D : Ends} {tu tw tz : TS} {g : TG}
theorem s_pop {l : Addr} {xs : List V} {x : V} (hl : H l = some (.lst (xs ++ [x]))) (ha : Ev ta σ H (.ref l)) (k : ∀ H1, Ex H H1 → D.nx σ (upd H1 l (.lst xs))) : tDrop (tBM0 K "list" rPop ta) D σ H := ha H (Ex.refl H) _ fun H1 e1 =>
  ⟨Or.inl ⟨rfl, _, sq_of (e1 l _ hl)⟩, l, xs ++ [x], x, rfl, rfl, e1 l _ hl, by rw [List.length_append, List.length_singleton, Nat.add_sub_cancel]; exact List.getElem?_concat_length, by rw [List.dropLast_concat]; exact k H1 e1⟩
theorem q_pop {l : Addr} {xs : List V} {x : V} (hl : H l = some (.lst (xs ++ [x]))) (ha : Ev ta σ H (.ref l)) (k : ∀ H1, Ex H H1 → tz D σ (upd H1 l (.lst xs))) : tSeq (tDrop (tBM0 K "list" rPop ta)) tz D σ H := s_pop (D := { D with nx := tz D }) hl ha k
theorem el_from {a : Addr} {xs : List V} (k : Nat) (h : Ev te σ H (.ref a)) (hs : SqL K H a xs) : EvL (tSl (rSlL K) te (tPart (tC (.int (k : Int)))) tNoPart) σ H (xs.drop k) := by
  rw [← cutV_from xs k]
  exact el_sl h (eo_some ev_c) eo_none hs
theorem rv_isB {a b : Bool} : RV rIsB (.bl a) (.bl b) H (.bl (decide (a = b))) := fun H1 _ _ q => ⟨a, b, rfl, rfl, q H1 (Ex.refl H1)⟩
theorem rv_notB {a b : Bool} : RV rNotB (.bl a) (.bl b) H (.bl (!decide (a = b))) := fun H1 _ _ q => ⟨a, b, rfl, rfl, q H1 (Ex.refl H1)⟩
theorem rc_abs {i : Int} : RC (fun xs H Q => ∃ i, xs = [V.int i] ∧ Q (.int (if i < 0 then -i else i)) H) [.int i] H (.int (i.natAbs : Int)) := fun H1 _ Q q => ⟨i, rfl, by
  have e : (if i < 0 then -i else i) = (i.natAbs : Int) := by split <;> omega
  rw [e]
  exact q H1 (Ex.refl H1)⟩
theorem for_zipM {a b : Addr} {xs ys : List V} (Pv : Nat → L2.St → Hp → Prop) (h0 : Pv 0 σ H) (hq : ∀ i σ H, Pv i σ H → SqL K H a xs ∧ SqL K H b ys)
    (hs : ∀ (i : Nat) (x y : V) (T : Addr) (σ : L2.St) (H : Hp), xs[i]? = some x → ys[i]? = some y → Pv i σ H → H T = none → g (.ref T) σ (upd H T (.tup [x, y])) fun σ2 H2 => tu { D with nx := Pv (i + 1), ct := Pv (i + 1), bk := D.nx } σ2 H2) (hd : ∀ σ H, Pv (min xs.length ys.length) σ H → D.nx σ H) :
    ∃ W : Nat → Nat → L2.St → Hp → Prop, (∃ m, W 0 m σ H) ∧ ∀ i m σ H, W i m σ H →
      ((Itz K a b).stop i H ∧ D.nx σ H) ∨ ((Itz K a b).go i H ∧ ∃ N : L2.St → Hp → Prop, (∀ σ' H', N σ' H' → ∃ m', m' < m ∧ W (i + 1) m' σ' H') ∧ ∀ v H', (Itz K a b).yld i H v H' → g v σ H' fun σ2 H2 => tu { D with nx := N, ct := N, bk := D.nx } σ2 H2) := by
  refine ⟨fun i m σ H => m = min xs.length ys.length - i ∧ i ≤ min xs.length ys.length ∧ Pv i σ H, ⟨min xs.length ys.length, rfl, Nat.zero_le _, h0⟩, ?_⟩
  rintro i m σ H ⟨rfl, hi, p⟩
  obtain ⟨qx, qy⟩ := hq i σ H p
  by_cases hlt : i < min xs.length ys.length
  · have hx : xs[i]? = some xs[i] := List.getElem?_eq_getElem (by omega)
    have hy : ys[i]? = some ys[i] := List.getElem?_eq_getElem (by omega)
    refine .inr ⟨⟨xs, ys, _, _, qx, qy, hx, hy⟩, Pv (i + 1), fun σ' H' p' => ⟨min xs.length ys.length - (i + 1), by omega, rfl, hlt, p'⟩, fun v H' y => ?_⟩
    obtain ⟨T, x', y', rfl, hT, rfl, f1, f2⟩ := y
    exact hs i x' y' T σ H (f1 xs qx) (f2 ys qy) p hT
  · have e : i = min xs.length ys.length := by omega
    refine .inl ⟨⟨xs, ys, qx, qy, by omega⟩, hd σ H (e ▸ p)⟩
theorem el_eq {xs ys : List V} (h : EvL te σ H xs) (e : xs = ys) : EvL te σ H ys := e ▸ h
theorem el_lcR2 {ta : TA} {j : Nat} {vs : List Nat} {lo n : Int} (f : Nat → Bool) (v : Nat → V) (h : EvA ta σ H [.int lo, .int n]) (hn : 0 ≤ lo ∧ lo ≤ 40000 ∧ -40000 ≤ n ∧ n ≤ 40000) (hw : ∀ x, wipe ((wipe σ vs).set j (some x)) vs = wipe σ vs)
    (ht : ∀ (i : Nat) H1, Ex H H1 → lo + (i : Int) < n → EvT t ((wipe σ vs).set j (some (.int (lo + (i : Int))))) H1 (f i)) (he : ∀ (i : Nat) H1, Ex H H1 → lo + (i : Int) < n → f i = true → Ev te ((wipe σ vs).set j (some (.int (lo + (i : Int))))) H1 (v i)) :
    EvL (tLc (iRng2 ta) (gName j) t te vs) σ H (given (n - lo).toNat f v) := fun H0 e Q q => h H0 e _ fun H1 e1 => ⟨lo, n, rfl, ⟨by omega, by omega, by omega, by omega⟩, fun Dl hD =>
  lc_range (lo := lo) (n := (n - lo).toNat) (Cw H1 f v Dl) ⟨hD, Ex.new hD, upd_same⟩ (fun i H' hi p => ⟨hw _, cw_turn p (by omega) (ht i H1 (e.trans e1) (by omega)) (fun hf => he i H1 (e.trans e1) (by omega) hf)⟩) (fun H' p => q Dl H' (fresh_back e1 p.1) (e1.trans p.2.1) p.2.2)⟩
theorem ea_star {p : Addr} {xs vs : List V} {tr : TA} (h : Ev te σ H (.ref p)) (hp : SqL K H p xs) (hr : EvA tr σ H vs) : EvA (StX.tStar K te tr) σ H (xs ++ vs) := fun H1 e1 Q q =>
  h H1 e1 _ fun H2 e2 => ⟨p, xs, rfl, .inr (ex_l (e1.trans e2) hp), hr H2 (e1.trans e2) _ fun H3 e3 => q H3 (e2.trans e3)⟩
theorem foldr_max_ge : ∀ {ms : List Int} {y : Int}, y ∈ (0 :: ms) → y ≤ ms.foldr max 0
  | [], y, h => by
    rw [List.mem_singleton.mp h]
    exact Int.le_refl _
  | m :: r, y, h => by
    rw [List.foldr_cons]
    have z0 := foldr_max_ge (ms := r) (y := 0) (List.mem_cons_self ..)
    rcases List.mem_cons.mp h with rfl | h
    · omega
    · rcases List.mem_cons.mp h with rfl | h
      · omega
      · have z := foldr_max_ge (ms := r) (y := y) (List.mem_cons_of_mem _ h)
        omega
theorem foldr_max_mem : ∀ ms : List Int, ms.foldr max 0 ∈ (0 :: ms)
  | [] => List.mem_singleton.mpr rfl
  | m :: r => by
    rw [List.foldr_cons]
    have z := foldr_max_mem r
    by_cases h : m ≤ r.foldr max 0
    · rw [Int.max_eq_right h]
      rcases List.mem_cons.mp z with e | e
      · rw [e]
        exact List.mem_cons_self ..
      · exact List.mem_cons_of_mem _ (List.mem_cons_of_mem _ e)
    · rw [Int.max_eq_left (by omega)]
      exact List.mem_cons_of_mem _ (List.mem_cons_self ..)
theorem ev_maxL {ms : List Int} {m : Int} (h : EvL te σ H (ms.map V.int)) (hm : m ∈ ms) (hge : ∀ y ∈ ms, y ≤ m) : Ev (tCB (rMax K) (tCons te tNil)) σ H (.int m) := fun H1 e1 Q q =>
  h H1 e1 _ fun p2 H2 _ e2 h2 => ⟨p2, ms, rfl, sq_of h2, List.length_pos_of_mem hm, fun m2 hm2 hge2 => by
    have e : m2 = m := Int.le_antisymm (hge m2 hm2) (hge2 m hm)
    rw [e]
    exact q H2 e2⟩
theorem ev_minL {ms : List Int} {m : Int} (h : EvL te σ H (ms.map V.int)) (hm : m ∈ ms) (hge : ∀ y ∈ ms, m ≤ y) : Ev (tCB (rMin K) (tCons te tNil)) σ H (.int m) := fun H1 e1 Q q =>
  h H1 e1 _ fun p2 H2 _ e2 h2 => ⟨p2, ms, rfl, sq_of h2, List.length_pos_of_mem hm, fun m2 hm2 hge2 => by
    have e : m2 = m := Int.le_antisymm (hge2 m hm) (hge m2 hm2)
    rw [e]
    exact q H2 e2⟩
/-- max([0, *xs]) -/
theorem ev_max0 {p : Addr} {ms : List Int} (h : Ev te σ H (.ref p)) (hp : SqL K H p (ms.map V.int)) (hz : ms.length ≤ 50000) : Ev (tCB (rMax K) (tCons (tLst (tCons (tC (.int 0)) (StX.tStar K te tNil))) tNil)) σ H (.int (ms.foldr max 0)) :=
  ev_maxL (ms := 0 :: ms) (el_eq (el_lst (ea_cons ev_c (ea_star h hp ea_nil)) (by rw [List.length_cons, List.append_nil, List.length_map]; omega)) (by rw [List.append_nil]; rfl)) (foldr_max_mem ms) fun y hy => foldr_max_ge hy
/-- the first argument of a call is a new list -/
theorem ev_cal0L {t1 : TE} {tr : TA} {xs vs : List V} {E : XK} {RE : List V → Hp → Addr → Prop} {RV : List V → Hp → V → Prop} (h1 : EvL t1 σ H xs) (hr : EvA tr σ H vs) (hs : ∀ p H1, Ex H H1 → H1 p = some (.lst xs) → RV (.ref p :: vs) H1 z) : Ev (tCall (spVX RV RE) [] E (tCons t1 tr)) σ H z := fun H1 e1 Q q =>
  h1 H1 e1 _ fun p H2 _ e2 hp => hr H2 (e1.trans e2) _ fun H3 e3 => .inl ⟨z, by rw [List.append_nil]; exact hs p H3 ((e1.trans e2).trans e3) (e3 _ _ hp), fun H4 e4 => q H4 ((e2.trans e3).trans e4)⟩
/-- for x, y in zip(a, a new list) -/
theorem q_forZipN {a : Addr} {xs ys : List V} {i j : Nat} (ha : Ev ta σ H (.ref a)) (hx : SqL K H a xs) (hb : EvL tb σ H ys) (Pv : Addr → Nat → L2.St → Hp → Prop) (h0 : ∀ b H1, H b = none → Ex H H1 → H1 b = some (.lst ys) → Pv b 0 σ H1)
    (hl : ∀ b k σ' H', Pv b k σ' H' → SqL K H' a xs ∧ SqL K H' b ys)
    (hs : ∀ b k x y T σ' H', xs[k]? = some x → ys[k]? = some y → Pv b k σ' H' → H' T = none → tu { D with nx := Pv b (k + 1), ct := Pv b (k + 1), bk := tz D } ((σ'.set i (some x)).set j (some y)) (upd H' T (.tup [x, y]))) (hd : ∀ b σ' H', Pv b (min xs.length ys.length) σ' H' → tz D σ' H') :
    tSeq (tFor (iZip K (tCons ta (tCons tb tNil))) (gTup K 2 (gCons (gName i) (gCons (gName j) gNil))) tu) tz D σ H :=
  ha H (Ex.refl H) _ fun H1 e1 => hb H1 e1 _ fun b H2 nb e2 h2 => ⟨a, b, xs, ys, rfl, ex_l (e1.trans e2) hx, sq_of h2,
    for_zipM (D := { D with nx := tz D }) (Pv b) (h0 b H2 (fresh_back e1 nb) (e1.trans e2) h2) (fun k σ' H' p => hl b k σ' H' p) (fun k x y T σ' H' hx hy p hT => g_tup2 (st_of upd_same) (hs b k x y T σ' H' hx hy p hT)) (fun σ' H' p => hd b σ' H' p)⟩
theorem map_at {ns : List Int} {k : Nat} {x : V} (h : (ns.map V.int)[k]? = some x) : k < ns.length ∧ x = .int (cel ns (k : Int)) := by
  rw [List.getElem?_map] at h
  cases hq : ns[k]? with
  | none => rw [hq] at h; cases h
  | some y =>
    rw [hq] at h
    refine ⟨(List.getElem?_eq_some_iff.mp hq).1, ?_⟩
    unfold cel
    rw [List.getD_eq_getElem?_getD, Int.toNat_natCast, hq]
    exact (Option.some.inj h).symm
/-- all([whole(x) for x in xs]) of whole numbers -/
theorem ev_allWhole {l : Addr} {ns : List Int} {tl : TE} {E : XK} {j : Nat} {vs : List Nat} (h : Ev tl σ H (.ref l)) (hs : SqL K H l (ns.map V.int)) (hz : ns.length ≤ 40000) (hw : ∀ x, wipe ((wipe σ vs).set j (some x)) vs = wipe σ vs) (hj : ∀ x, ((wipe σ vs).set j (some x))[j]? = some (some x)) :
    Ev (tCB (rAll K) (tCons (tLc (iList K tl) (gName j) tYes (tCall (spV RWhole) [] E (tCons (tVar j) tNil)) vs) tNil)) σ H (.bl true) := by
  have hl : (ns.map V.int).length = ns.length := List.length_map ..
  have z : (List.replicate ns.length true).all id = true := List.all_eq_true.mpr fun b hb => (List.eq_of_mem_replicate hb)
  rw [← z]
  refine ev_all ?_
  have er : (List.replicate ns.length true).map V.bl = given (ns.map V.int).length (fun _ => true) (fun _ => .bl true) := by
    unfold given
    rw [hl, List.filter_eq_self.mpr (fun _ _ => rfl), List.map_replicate]
    exact (List.eq_replicate_iff.mpr ⟨by rw [List.length_map, List.length_range], fun b hb => by obtain ⟨_, _, e⟩ := List.mem_map.mp hb; exact e.symm⟩).symm
  rw [er]
  refine el_lcL (fun _ => true) (fun _ => .bl true) h hs (by omega) hw (fun _ _ _ _ _ => et_yes) fun i x H8 e8 hx _ => ?_
  rw [List.getElem?_map] at hx
  cases hq : ns[i]? with
  | none => rw [hq] at hx; cases hx
  | some y =>
    rw [hq] at hx
    have ex : V.int y = x := Option.some.inj hx
    subst ex
    exact ev_whole (ea_cons (ev_var (hj _)) ea_nil)
end
end Hx
/-! Objects: a class whose instances keep two lists; made and asked where a refusal may come. -/
namespace Hx
open PySem PySem.Spec PyProof.Rows L2 Evl
/-- a method that keeps a promise -/
structure CalM (P : Program) (w : World) (K : PySem.W.Frag) (mg : Str → Option Value) (base : Heap) (CX : CXT) (C : Addr) (m : Str) (k : Nat) (ps : List Str) (sp : Sp) : Prop where
  c : Cls K C
  ex : ∃ f fd, FnOk P w K mg base CX k f fd ps sp ∧ Meth K C m f ∧ Binds K fd ps []
/-- a class that is made by its __init__ -/
structure CalN (P : Program) (w : World) (K : PySem.W.Frag) (mg : Str → Option Value) (base : Heap) (CX : CXT) (x : Str) (C : Addr) (k : Nat) (ps : List Str) (sp : Sp) : Prop where
  ex : ∃ f fd, FnOk P w K mg base CX k f fd ps sp ∧ Mk K C f ∧ mg x = some (.ref C) ∧ Binds K fd ps []
def tNewS (C : Addr) (sp : Sp) (E : L2.St → XK) (ta : TA) : TE := fun τ G Q => ta τ G fun vs G1 => ∀ x dx, G1 x = none → G1 dx = none → dx ≠ x →
  sp (.ref x :: vs) (upd (upd G1 dx (.own x)) x (.ins C dx [])) (fun u G2 => u = .non ∧ Q (.ref x) G2) (E τ)
def tMethS (C : Addr) (m : Str) (sp : Sp) (E : L2.St → XK) (to : TE) (ta : TA) : TE := fun τ G Q => to τ G fun o G1 => ∃ p dx fs, o = .ref p ∧ G1 p = some (.ins C dx fs) ∧ fs.lookup m = none ∧ ta τ G1 fun vs G2 => sp (o :: vs) G2 Q (E τ)
section
variable {X : Cx} {CX : CXT} {k j : Nat} {f C : Addr} {fd : FuncData} {ps : List Str} {sp : Sp} {E : L2.St → XK} {x m : Str} {p1 p2 p3 : Pos} {e o : Expr} {es : List Expr} {to : TE} {ta : TA} {W : WX}
/-- a new instance, what __init__ raises wished for at the caller's slots -/
theorem run_newS {pins : List (Addr × Obj)} {τ : L2.St} {G : Hp} {s : Shared} {Q : VK} {us : List Value} {vs : List V} (M : Mk X.K C f) (F : FnOk X.prog X.w X.K X.mg X.base CX k f fd ps sp) (room : Room (k + 1) X.A) (hb : Binds X.K fd ps []) (out : PassesAt CX X τ (E τ))
    (I : Inv X pins τ G s) (r : Vals vs us)
    (h : ∀ x dx, G x = none → G dx = none → dx ≠ x → sp (.ref x :: vs) (upd (upd G dx (.own x)) x (.ins C dx [])) (fun u G2 => u = .non ∧ Q (.ref x) G2) (E τ)) :
    wpAny (model X.prog X.w) X.A (call (.ref C) us) (EP X pins τ Q) X.xe s := by
  have sp1 := h (s.heap.objs.size + 1) s.heap.objs.size (I.hok.fresh (Nat.le_succ _)) (I.hok.fresh (Nat.le_refl _)) (Nat.ne_of_lt (Nat.lt_succ_self _))
  have J := Inv.made (C := C) I
  have rr : Vals (V.ref (s.heap.objs.size + 1) :: vs) (Value.ref (s.heap.objs.size + 1) :: us) := .cons rfl r
  have len : (Value.ref (s.heap.objs.size + 1) :: us).length = ps.length := by
    have z := rr.length
    rw [F.len _ _ _ _ sp1] at z
    exact z.symm
  have bind := hb _ (Value.ref (s.heap.objs.size + 1) :: us) J.kIn (by rw [List.append_nil]; exact len)
  rw [List.append_nil] at bind
  refine wpAny_call (make_map (f := f) I.kIn M.makes M.init (beq_iff_eq.mp M.fn) (codeAny_mono
    (F.run _ X.stack _ _ ⟨Value.ref (s.heap.objs.size + 1) :: us, []⟩ (Value.ref (s.heap.objs.size + 1) :: us) _ _ (E τ) (room.make C us []) (J.env0.make C us []) bind rr sp1)
    fun r s2 done => ?_))
  cases r with
  | error err => exact out pins _ _ err s2 J done
  | ok fl =>
    cases fl with
    | ret u =>
      obtain ⟨v, G2, J2, rv, ev, q3⟩ := J.after done
      subst ev
      exact ⟨rv, V.ref (s.heap.objs.size + 1), G2, J2, rfl, q3⟩
    | next => exact done.elim
    | brk => exact done.elim
    | cont => exact done.elim
/-- C(e, ..), a refusal let through to W -/
theorem pe_newX (N : CalN X.prog X.w X.K X.mg X.base (L2.CX X.prog X.w) x C k ps sp) (room : Room j X.A) (tk : Takes X W) (ha : PA X (e :: es) ta) (hk : k + 1 ≤ j := by decide) (hg : Gl X x := by rfl)
    (hdb : (x == ("__debug__" : Str)) = false := by decide) (he : starEach (e :: es) X.env = (false, eval e X.env) :: starEach es X.env := by rfl) (hpl : (backTo p2 (starEach es X.env)).any (·.1) = false := by rfl) :
    PE X (.Call (.Name x p1) (e :: es) [] p2) (tNewS C sp (WE W) ta) := by
  obtain ⟨f, fd, F, M, hm, b⟩ := N.ex
  refine ⟨fun pins s τ G Q I h => wpAny_Call_Name_kw (ld_glob I hg hm ?_ hdb)⟩
  exact PySem.W.callWith_K (h₀ := X.base) I.ok.mod.kin M.kp (thn (ha.run p2 pins s τ G _ I h) fun us s1 ⟨vs, G1, J, r, q⟩ => ⟨J.kIn, run_newS M F (room.mono hk) b (passAt tk τ) J r q⟩) he hpl
/-- .. where it refuses nothing -/
theorem pe_newL (N : CalN X.prog X.w X.K X.mg X.base (L2.CX X.prog X.w) x C k ps sp) (room : Room j X.A) (ha : PA X (e :: es) ta) (hk : k + 1 ≤ j := by decide) (hg : Gl X x := by rfl)
    (hdb : (x == ("__debug__" : Str)) = false := by decide) (he : starEach (e :: es) X.env = (false, eval e X.env) :: starEach es X.env := by rfl) (hpl : (backTo p2 (starEach es X.env)).any (·.1) = false := by rfl) :
    PE X (.Call (.Name x p1) (e :: es) [] p2) (tMake C sp [] E0 ta) := by
  obtain ⟨f, fd, F, M, hm, b⟩ := N.ex
  exact pe_make M F (room.mono hk) hg hm b .nil passL ha hdb he hpl
/-- o.m(e, ..), a refusal let through to W -/
theorem pe_methX {pl : Sem Bool} (he : PE X o to) (N : CalM X.prog X.w X.K X.mg X.base (L2.CX X.prog X.w) C m k ps sp) (room : Room j X.A) (tk : Takes X W) (ha : PA X (e :: es) ta) (hk : k ≤ j := by decide)
    (hst : starEach (e :: es) X.env = (false, eval e X.env) :: starEach es X.env := by rfl) (hpl : (backTo p2 (starEach es X.env)).any (·.1) = false := by rfl)
    (ht : eval (.Call (.Attribute o m p1) (e :: es) [] p2) X.env = (do
      let ov ← eval o X.env; standAt p1.atName
      let (f, first) ← holding [ov] (getMethod ov m pl); callWith p2 f first (backTo p2 (starEach (e :: es) X.env)) (backToKw p2 (keywordEach [] X.env))) := by rfl) :
    PE X (.Call (.Attribute o m p1) (e :: es) [] p2) (tMethS C m sp (WE W) to ta) := by
  obtain ⟨f, fd, F, M, b⟩ := N.ex
  refine ⟨fun pins s τ G Q I h => PySem.W.methodCall_KW (pl := pl) (thn (he.run pins s τ G _ I h) fun u s1 ⟨y, G1, J, ry, a, dx, fs, ey, ea, nl, q⟩ => ?_) ht⟩
  subst ey
  obtain rfl : u = Value.ref a := ry
  refine getmeth_ok J ea N.c M nl ?_
  exact PySem.W.callWith_K (first := [.ref a]) (h₀ := X.base) I.ok.mod.kin M.kp (thn (ha.run p2 pins s1 τ G1 _ J q) fun us s2 ⟨vs, G2, J2, r, q2⟩ =>
    ⟨J2.kIn, run_fnS (us := .ref a :: us) (vs := .ref a :: vs) F (room.mono hk) b (passAt tk τ) J2 (.cons rfl r) q2⟩) hst hpl
/-- o.m(), a refusal let through to W -/
theorem pe_methX0 {pl : Sem Bool} (he : PE X o to) (N : CalM X.prog X.w X.K X.mg X.base (L2.CX X.prog X.w) C m k ps sp) (room : Room j X.A) (tk : Takes X W) (hk : k ≤ j := by decide)
    (ht : eval (.Call (.Attribute o m p1) [] [] p2) X.env = (do
      let ov ← eval o X.env; standAt p1.atName
      let (f, first) ← holding [ov] (getMethod ov m pl); callWith p2 f first (backTo p2 (starEach [] X.env)) (backToKw p2 (keywordEach [] X.env))) := by rfl) :
    PE X (.Call (.Attribute o m p1) [] [] p2) (tMethS C m sp (WE W) to tNil) := by
  obtain ⟨f, fd, F, M, b⟩ := N.ex
  refine ⟨fun pins s τ G Q I h => PySem.W.methodCall_KW (pl := pl) (thn (he.run pins s τ G _ I h) fun u s1 ⟨y, G1, J, ry, a, dx, fs, ey, ea, nl, q⟩ => ?_) ht⟩
  subst ey
  obtain rfl : u = Value.ref a := ry
  refine getmeth_ok J ea N.c M nl ?_
  exact PySem.W.callWith_K0 (first := [.ref a]) J.kIn M.kp (run_fnS (us := [.ref a]) (vs := [.ref a]) F (room.mono hk) b (passAt tk τ) J (.cons rfl .nil) q)
/-- o.m(e, ..), o.m() of a method that never refuses -/
theorem pe_methC {pl : Sem Bool} (he : PE X o to) (N : CalM X.prog X.w X.K X.mg X.base CX0 C m k ps sp) (room : Room j X.A) (ha : PA X (e :: es) ta) (hk : k ≤ j := by decide)
    (hst : starEach (e :: es) X.env = (false, eval e X.env) :: starEach es X.env := by rfl) (hpl : (backTo p2 (starEach es X.env)).any (·.1) = false := by rfl)
    (ht : eval (.Call (.Attribute o m p1) (e :: es) [] p2) X.env = (do
      let ov ← eval o X.env; standAt p1.atName
      let (f, first) ← holding [ov] (getMethod ov m pl); callWith p2 f first (backTo p2 (starEach (e :: es) X.env)) (backToKw p2 (keywordEach [] X.env))) := by rfl) :
    PE X (.Call (.Attribute o m p1) (e :: es) [] p2) (tMeth C m sp [] E0 to ta) := by
  obtain ⟨f, fd, F, M, b⟩ := N.ex
  exact pe_meth he N.c M F (room.mono hk) b .nil pass0 ha hst hpl ht
theorem pe_methC0 {pl : Sem Bool} (he : PE X o to) (N : CalM X.prog X.w X.K X.mg X.base CX0 C m k ps sp) (room : Room j X.A) (hk : k ≤ j := by decide)
    (ht : eval (.Call (.Attribute o m p1) [] [] p2) X.env = (do
      let ov ← eval o X.env; standAt p1.atName
      let (f, first) ← holding [ov] (getMethod ov m pl); callWith p2 f first (backTo p2 (starEach [] X.env)) (backToKw p2 (keywordEach [] X.env))) := by rfl) :
    PE X (.Call (.Attribute o m p1) [] [] p2) (tMeth C m sp [] E0 to tNil) := by
  obtain ⟨f, fd, F, M, b⟩ := N.ex
  exact pe_meth0 he N.c M F (room.mono hk) b .nil pass0 ht
/-- .. of one that refuses nothing here -/
theorem pe_methL {pl : Sem Bool} (he : PE X o to) (N : CalM X.prog X.w X.K X.mg X.base (L2.CX X.prog X.w) C m k ps sp) (room : Room j X.A) (ha : PA X (e :: es) ta) (hk : k ≤ j := by decide)
    (hst : starEach (e :: es) X.env = (false, eval e X.env) :: starEach es X.env := by rfl) (hpl : (backTo p2 (starEach es X.env)).any (·.1) = false := by rfl)
    (ht : eval (.Call (.Attribute o m p1) (e :: es) [] p2) X.env = (do
      let ov ← eval o X.env; standAt p1.atName
      let (f, first) ← holding [ov] (getMethod ov m pl); callWith p2 f first (backTo p2 (starEach (e :: es) X.env)) (backToKw p2 (keywordEach [] X.env))) := by rfl) :
    PE X (.Call (.Attribute o m p1) (e :: es) [] p2) (tMeth C m sp [] E0 to ta) := by
  obtain ⟨f, fd, F, M, b⟩ := N.ex
  exact pe_meth he N.c M F (room.mono hk) b .nil passL ha hst hpl ht
end
/-- the module's constants -/
structure Csts (mg : Str → Option Value) : Prop where
  bound : ∃ t, mg "BOUND" = some (.int 1000000000000000000 t)
  most : ∃ t, mg "MOST_HILLS" = some (.int 200 t)
/-- the class Land -/
structure LandK (K : PySem.W.Frag) (C : Addr) : Prop where
  cl : Cls K C
  nh : NoAttr K C "_heights"
  nl : NoAttr K C "_lifts"
theorem ne_hl : ¬ (("_heights" : Str) = "_lifts") := by decide +kernel
def fldsL (hp lp : Addr) : List (Str × V) := putF "_lifts" (.ref lp) (putF "_heights" (.ref hp) [])
theorem fldsL_h (hp lp : Addr) : (fldsL hp lp).lookup ("_heights" : Str) = some (.ref hp) := by
  unfold fldsL
  rw [lookup_putF, if_neg ne_hl, lookup_putF, if_pos rfl]
theorem fldsL_l (hp lp : Addr) : (fldsL hp lp).lookup ("_lifts" : Str) = some (.ref lp) := by
  unfold fldsL
  rw [lookup_putF, if_pos rfl]
theorem fldsL_no (hp lp : Addr) {m : Str} (h1 : ¬ m = "_heights") (h2 : ¬ m = "_lifts") : (fldsL hp lp).lookup m = none := by
  unfold fldsL
  rw [lookup_putF, if_neg h2, lookup_putF, if_neg h1]
  all_goals rfl
def inB (i : Int) : Bool := decide (-1000000000000000000 ≤ i) && decide (i ≤ 1000000000000000000)
def RInB (vs : List V) (_ : Hp) (v : V) : Prop := ∃ i : Int, vs = [.int i] ∧ v = .bl (inB i)
/-- a height, and what is none -/
inductive BadH (H : Hp) : V → Prop where
  | int (i : Int) (h : inB i = false) : BadH H (.int i)
  | no (x : V) (h : NoInt H x) : BadH H x
theorem BadH.ex {H H' : Hp} {v : V} (e : Ex H H') (h : BadH H v) : BadH H' v := by
  cases h with
  | int i h => exact .int i h
  | no _ h => exact .no _ (h.ex e)
/-- what is no land -/
inductive BadLand (H : Hp) : V → Prop where
  | non : BadLand H .non
  | int (i : Int) : BadLand H (.int i)
  | str (s : Str) : BadLand H (.str s)
  | tup (a : Addr) (xs : List V) (h : H a = some (.tup xs)) : BadLand H (.ref a)
  | dic (a : Addr) (kvs : List (Key × V)) (h : H a = some (.dK kvs)) : BadLand H (.ref a)
  | none (a : Addr) (h : H a = some (.lst [])) : BadLand H (.ref a)
  | many (a : Addr) (xs : List V) (h : H a = some (.lst xs)) (hl : 200 < xs.length) (hm : xs.length ≤ 100000) : BadLand H (.ref a)
  | lst (a : Addr) (xs : List V) (h : H a = some (.lst xs)) (h1 : 1 ≤ xs.length) (h2 : xs.length ≤ 200) (ok : ∀ x ∈ xs, (∃ i : Int, x = .int i ∧ inB i = true) ∨ BadH H x) (b : V) (hb : b ∈ xs) (hbb : BadH H b) : BadLand H (.ref a)
theorem BadLand.ex {H H' : Hp} {v : V} (e : Ex H H') (h : BadLand H v) : BadLand H' v := by
  cases h with
  | non => exact .non
  | int i => exact .int i
  | str s => exact .str s
  | tup a xs h => exact .tup a xs (e _ _ h)
  | dic a kvs h => exact .dic a kvs (e _ _ h)
  | none a h => exact .none a (e _ _ h)
  | many a xs h hl hm => exact .many a xs (e _ _ h) hl hm
  | lst a xs h h1 h2 ok b hb hbb => exact .lst a xs (e _ _ h) h1 h2 (fun x hx => (ok x hx).imp id (·.ex e)) b hb (hbb.ex e)
def RChecked (K : PySem.W.Frag) (vs : List V) (H : Hp) (xs : List V) : Prop := ∃ (l : Addr) (ns : List Int), vs = [.ref l] ∧ H l = some (.lst (ns.map V.int)) ∧ 1 ≤ ns.length ∧ ns.length ≤ 200 ∧ (∀ i ∈ ns, inB i = true) ∧ xs = ns.map V.int
def RNoLand (N : Addr) (vs : List V) (H : Hp) (C : Addr) : Prop := ∃ x, vs = [x] ∧ BadLand H x ∧ C = N
/-- a Land at p: its heights' list at hp, its lifts' at lp -/
def spInit (C N : Addr) : Sp := fun vs H Q E => (∃ (p dx l : Addr) (ns : List Int), vs = [.ref p, .ref l] ∧ H p = some (.ins C dx []) ∧ H l = some (.lst (ns.map V.int)) ∧ l ≠ p ∧ 1 ≤ ns.length ∧ ns.length ≤ 200 ∧ (∀ i ∈ ns, inB i = true) ∧
    ∀ hp lp H', H hp = none → H lp = none → hp ≠ lp → (∀ b o, b ≠ p → H b = some o → H' b = some o) → H' p = some (.ins C dx (fldsL hp lp)) → H' hp = some (.lst (ns.map V.int)) → H' lp = some (.lst []) → Q .non H') ∨
  (∃ (p : Addr) (x : V), vs = [.ref p, x] ∧ BadLand H x ∧ ∀ H', Ex H H' → E (.ref N) none H')
def RTold (C : Addr) (vs : List V) (H : Hp) (xs : List V) : Prop := ∃ (p dx hp lp : Addr) (ns : List Int), vs = [.ref p] ∧ H p = some (.ins C dx (fldsL hp lp)) ∧ H hp = some (.lst (ns.map V.int)) ∧ xs = ns.map V.int
section
variable {K : PySem.W.Frag} {σ : L2.St} {H : Hp} {ta : TA} {te to : TE} {E : XK} {D : Ends} {tu tz : TS} {x v : V} {W : WX} {C N : Addr} {Q : VK}
theorem ev_inB {i : Int} (h : EvA ta σ H [.int i]) : Ev (tCall (spV RInB) [] E ta) σ H (.bl (inB i)) := ev_cal h fun _ _ => ⟨i, rfl, rfl⟩
theorem ev_fld {p dx : Addr} {fs : List (Str × V)} {f : Str} (h : Ev to σ H (.ref p)) (hp : H p = some (.ins C dx fs)) (c : Cls K C) (n : NoAttr K C f) (l : fs.lookup f = some v) : Ev (tFld K to f) σ H v := fun H1 e1 Q q =>
  h H1 e1 _ fun H2 e2 => ⟨p, C, dx, fs, v, rfl, e2 _ _ (e1 _ _ hp), c, n, l, q H2 e2⟩
theorem s_fldL {p dx : Addr} {fs : List (Str × V)} {f : Str} {ys : List V} (hv : EvL te σ H ys) (ho : Ev to σ H (.ref p)) (hp : H p = some (.ins C dx fs)) (c : Cls K C) (n : NoAttr K C f) (hz : fs.length < 1000)
    (k : ∀ r H1, H r = none → Ex H H1 → H1 r = some (.lst ys) → D.nx σ (upd H1 p (.ins C dx (putF f (.ref r) fs)))) : sFld K to te f D σ H :=
  hv H (Ex.refl H) _ fun r H1 nr e1 hr => ho H1 e1 _ fun H2 e2 => ⟨p, C, dx, fs, rfl, e2 _ _ (e1 _ _ hp), c, n, hz, k r H2 nr (e1.trans e2) (e2 _ _ hr)⟩
theorem q_fldL {p dx : Addr} {fs : List (Str × V)} {f : Str} {ys : List V} (hv : EvL te σ H ys) (ho : Ev to σ H (.ref p)) (hp : H p = some (.ins C dx fs)) (c : Cls K C) (n : NoAttr K C f) (hz : fs.length < 1000)
    (k : ∀ r H1, H r = none → Ex H H1 → H1 r = some (.lst ys) → tz D σ (upd H1 p (.ins C dx (putF f (.ref r) fs)))) : tSeq (sFld K to te f) tz D σ H := s_fldL (D := { D with nx := tz D }) hv ho hp c n hz k
/-- xs = C(l): the new Land's three things -/
theorem q_asgNew {i : Nat} {l : Addr} {ns : List Int} (h : EvA ta σ H [.ref l]) (hl : H l = some (.lst (ns.map V.int))) (h1 : 1 ≤ ns.length) (h2 : ns.length ≤ 200) (h3 : ∀ i ∈ ns, inB i = true)
    (k : ∀ p dx hp lp H1, H p = none → H dx = none → H hp = none → H lp = none → p ≠ hp → p ≠ lp → hp ≠ lp → Ex H H1 → H1 p = some (.ins C dx (fldsL hp lp)) → H1 hp = some (.lst (ns.map V.int)) → H1 lp = some (.lst []) → tz D (σ.set i (some (.ref p))) H1) :
    tSeq (tAsg (tMake C (spInit C N) [] E ta) (gName i)) tz D σ H := h H (Ex.refl H) _ fun H1 e1 x dx nx ndx nex => by
  have ex : Ex H1 (upd (upd H1 dx (.own x)) x (.ins C dx [])) := fun b o hb => by
    rw [upd_ne (ne_of_none hb nx), upd_ne (ne_of_none hb ndx)]
    exact hb
  refine .inl ⟨x, dx, l, ns, rfl, upd_same, ex _ _ (e1 _ _ hl), ne_of_none (e1 _ _ hl) nx, h1, h2, h3, fun hp lp H' nh nl hne st hx hh hll => ⟨rfl, ?_⟩⟩
  have hxh : x ≠ hp := fun z => by rw [← z, upd_same] at nh; cases nh
  have hxl : x ≠ lp := fun z => by rw [← z, upd_same] at nl; cases nl
  refine k x dx hp lp H' (fresh_back e1 nx) (fresh_back e1 ndx) (fresh_back (e1.trans ex) nh) (fresh_back (e1.trans ex) nl) hxh hxl hne (fun b o hb => ?_) hx hh hll
  exact st b o (ne_of_none (e1 _ _ hb) nx) (ex _ _ (e1 _ _ hb))
/-- C(x), refused -/
theorem rx_new (h : EvA ta σ H [x]) (hb : BadLand H x) (k : ∀ H1, Ex H H1 → W (.ref N) none σ H1) : tNewS C (spInit C N) (WE W) ta σ H Q := h H (Ex.refl H) _ fun H1 e1 y dx ny ndy nex => by
  have ex : Ex H1 (upd (upd H1 dx (.own y)) y (.ins C dx [])) := fun b o hb => by
    rw [upd_ne (ne_of_none hb ny), upd_ne (ne_of_none hb ndy)]
    exact hb
  exact .inr ⟨y, x, rfl, (hb.ex e1).ex ex, fun H' e' => k H' ((e1.trans ex).trans e')⟩
/-- p.told() -/
theorem el_told {m : Str} {p dx hp lp : Addr} {ns : List Int} (h : Ev to σ H (.ref p)) (hx : H p = some (.ins C dx (fldsL hp lp))) (hh : H hp = some (.lst (ns.map V.int))) (hm : (fldsL hp lp).lookup m = none) : EvL (tMeth C m (spL (RTold C)) [] E to tNil) σ H (ns.map V.int) := fun H1 e1 Q q =>
  h H1 e1 _ fun H2 e2 => ⟨p, dx, fldsL hp lp, rfl, e2 _ _ (e1 _ _ hx), hm, ns.map V.int, ⟨p, dx, hp, lp, ns, rfl, e2 _ _ (e1 _ _ hx), e2 _ _ (e1 _ _ hh), rfl⟩, fun r H3 nr e3 hr => q r H3 (fresh_back e2 nr) (e2.trans e3) hr⟩
theorem el_checked {l : Addr} {ns : List Int} {N : Addr} (h : EvA ta σ H [.ref l]) (hl : H l = some (.lst (ns.map V.int))) (h1 : 1 ≤ ns.length) (h2 : ns.length ≤ 200) (h3 : ∀ i ∈ ns, inB i = true) : EvL (tCall (spLX (RChecked K) (RNoLand N)) [] E ta) σ H (ns.map V.int) :=
  el_cal0 h fun _ e => ⟨l, ns, rfl, e _ _ hl, h1, h2, h3, rfl⟩
theorem el_to {p : Addr} {xs : List V} {tk : TE} (k : Nat) (h : Ev te σ H (.ref p)) (hk : Ev tk σ H (.int (k : Int))) (hs : SqL K H p xs) : EvL (tSl (rSlL K) te tNoPart (tPart tk)) σ H (xs.take k) := by
  rw [← cutV_to xs k]
  exact el_sl h eo_none (eo_some hk) hs
theorem el_fromV {p : Addr} {xs : List V} {tk : TE} (k : Nat) (h : Ev te σ H (.ref p)) (hk : Ev tk σ H (.int (k : Int))) (hs : SqL K H p xs) : EvL (tSl (rSlL K) te (tPart tk) tNoPart) σ H (xs.drop k) := by
  rw [← cutV_from xs k]
  exact el_sl h (eo_some hk) eo_none hs
theorem eu_tuple {p : Addr} {xs : List V} (h : EvA ta σ H [.ref p]) (hs : SqL K H p xs) : EvU (tCB (fun xs H Q => ∃ p ys, xs = [.ref p] ∧ ((SqL K H p ys ∧ ∀ l, H l = none → Q (.ref l) (upd H l (.tup ys))) ∨ (SqT K H p ys ∧ Q (.ref p) H))) ta) σ H xs := fun H1 e1 Q q =>
  h H1 e1 _ fun H2 e2 => ⟨p, xs, rfl, .inl ⟨ex_l (e1.trans e2) hs, fun l nl => q l _ (fresh_back e2 nl) (e2.trans (Ex.new nl)) upd_same⟩⟩
/-- arguments of which some are new lists, tuples, dicts -/
theorem eax_nil : EvAX tNil σ H (fun vs _ => vs = []) := fun H1 _ Q q => q [] H1 (Ex.refl H1) rfl
theorem eax_consL {tr : TA} {xs : List V} {P : List V → Hp → Prop} (h : EvL te σ H xs) (hr : EvAX tr σ H P) : EvAX (tCons te tr) σ H (fun vs H2 => ∃ p r H1, vs = .ref p :: r ∧ H1 p = some (.lst xs) ∧ Ex H1 H2 ∧ P r H2) := fun H1 e1 Q q =>
  h H1 e1 _ fun p H2 _ e2 hp => hr H2 (e1.trans e2) _ fun r H3 e3 y => q (.ref p :: r) H3 (e2.trans e3) ⟨p, r, H2, rfl, hp, e3, y⟩
theorem eax_consD {tr : TA} {P : List V → Hp → Prop} (hr : EvAX tr σ H P) : EvAX (tCons (tDisp [(tC (.int 0), tC (.int 1))]) tr) σ H (fun vs H2 => ∃ p r H1 kvs, vs = .ref p :: r ∧ H1 p = some (.dK kvs) ∧ Ex H1 H2 ∧ P r H2) := fun H1 e1 Q q p np =>
  ⟨upd_same, [(.inl 0, .int 1)], rfl, by decide, hr _ (e1.trans ((Ex.new np).mut np)) _ fun r H3 e3 y => q (.ref p :: r) H3 (((Ex.new np).mut np).trans e3) ⟨p, r, _, _, rfl, upd_same, e3, y⟩⟩
/-- x = [..][i] -/
theorem q_asgIxX {i : Int} {j : Nat} {ti : TE} {P : List V → Hp → Prop} (h : EvAX ta σ H P) (hl : ∀ vs H2, P vs H2 → vs.length ≤ 100000) (hi : Ev ti σ H (.int i)) (hv : ∀ vs H2, P vs H2 → ∃ v, atI vs i = some v)
    (k : ∀ vs H1 H2 v, P vs H1 → Ex H1 H2 → Ex H H2 → atI vs i = some v → tz D (σ.set j (some v)) H2) : tSeq (tAsg (tOp (rIxL K) (tLst ta) ti) (gName j)) tz D σ H :=
  h H (Ex.refl H) _ fun vs H1 e1 p => ⟨sz_of (hl vs H1 p), fun r nr => hi (upd H1 r (.lst vs)) (e1.trans (Ex.new nr)) _ fun H2 e2 => by
    obtain ⟨v, hv⟩ := hv vs H1 p
    exact ⟨r, vs, i, v, rfl, rfl, sq_of (e2 _ _ upd_same), hv, k vs H1 H2 v p ((Ex.new nr).trans e2) (e1.trans ((Ex.new nr).trans e2)) hv⟩⟩
theorem kb_NoneType_list : kitB "NoneType" "list" = some false := by decide +kernel
theorem kb_str_list : kitB "str" "list" = some false := by decide +kernel
theorem kb_dict_list : kitB "dict" "list" = some false := by decide +kernel
theorem rc_isi_dic {a : Addr} {kvs : List (Key × V)} {T : String} {b : Bool} (h : H a = some (.dK kvs)) (e : kitB "dict" T = some b) : RC (rIsi K) [.ref a, .ty T] H (.bl b) := rc_isi (fun _ e1 => .base (.dK (e1 _ _ h))) (kit_ty e)
def RRef12 (vs : List V) (H : Hp) (v : V) : Prop := ∃ (x : V) (b : Bool), vs = [x, .bl b] ∧ BadLand H x ∧ v = .bl true
end
end Hx
/-! Sets of pairs of any size: the table's ways, for every table of 2 ^ e slots. -/
namespace Hx
open PySem PySem.Spec PyProof.Rows L2
/-- 1 + 5 + .. : what i -> 5 i + 1 makes of nought -/
def gg : Nat → Nat
  | 0 => 0
  | k + 1 => 5 * gg k + 1
theorem gg_five (k : Nat) : 4 * gg k + 1 = 5 ^ k := by
  induction k with
  | zero => rfl
  | succ k ih =>
    rw [Nat.pow_succ, ← ih]
    show 4 * (5 * gg k + 1) + 1 = _
    omega
theorem gg_odd (k : Nat) : gg k % 2 = k % 2 := by
  induction k with
  | zero => rfl
  | succ k ih =>
    show (5 * gg k + 1) % 2 = _
    omega
theorem gg_twice (c : Nat) : gg (2 * c) = 2 * (gg c * (2 * gg c + 1)) := by
  have h1 := gg_five (2 * c)
  have h2 := gg_five c
  have h3 : 5 ^ (2 * c) = 5 ^ c * 5 ^ c := by rw [← Nat.pow_add]; congr 1; omega
  rw [h3, ← h2] at h1
  have h4 : (4 * gg c + 1) * (4 * gg c + 1) = 4 * (2 * (gg c * (2 * gg c + 1))) + 1 := by grind
  omega
theorem gg_dvd : ∀ (e d : Nat), 2 ^ e ∣ gg d → 2 ^ e ∣ d
  | 0, d, _ => by rw [Nat.pow_zero]; exact Nat.one_dvd d
  | e + 1, d, h => by
    rw [Nat.pow_succ, Nat.mul_comm] at h ⊢
    have ev : gg d % 2 = 0 := Nat.mod_eq_zero_of_dvd (Nat.dvd_trans (Nat.dvd_mul_right ..) h)
    obtain ⟨c, rfl⟩ : ∃ c, d = 2 * c := ⟨d / 2, by have := gg_odd d; omega⟩
    rw [gg_twice] at h
    have h2 : 2 ^ e ∣ gg c * (2 * gg c + 1) := Nat.dvd_of_mul_dvd_mul_left (by decide) h
    have cop : Nat.Coprime (2 ^ e) (2 * gg c + 1) := Nat.Coprime.pow_left e (by
      show Nat.gcd 2 (2 * gg c + 1) = 1
      rw [Nat.gcd_rec, show (2 * gg c + 1) % 2 = 1 by omega]
      rfl)
    exact Nat.mul_dvd_mul_left 2 (gg_dvd e c (Nat.Coprime.dvd_of_dvd_mul_right cop h2))
theorem lcg_at {m i : Nat} (hi : i ≤ m) : ∀ k, lcgI m i k = (5 ^ k * i + gg k) % (m + 1)
  | 0 => by
    show i = (5 ^ 0 * i + 0) % (m + 1)
    rw [Nat.pow_zero, Nat.one_mul, Nat.add_zero, Nat.mod_eq_of_lt (Nat.lt_succ_of_le hi)]
  | k + 1 => by
    show (lcgI m i k * 5 + 1) % (m + 1) = (5 ^ (k + 1) * i + (5 * gg k + 1)) % (m + 1)
    rw [lcg_at hi k]
    have e : 5 ^ (k + 1) * i + (5 * gg k + 1) = (5 ^ k * i + gg k) * 5 + 1 := by
      rw [Nat.pow_succ]
      grind
    rw [e, Nat.add_mod, Nat.mul_mod, Nat.mod_mod, ← Nat.mul_mod, ← Nat.add_mod]
theorem lcg_le {m i : Nat} (hi : i ≤ m) (k : Nat) : lcgI m i k ≤ m := by
  rw [lcg_at hi]
  exact Nat.le_of_lt_succ (Nat.mod_lt _ (Nat.succ_pos _))
theorem lcg_more (m i a : Nat) : ∀ d, lcgI m i (a + d) = lcgI m (lcgI m i a) d
  | 0 => rfl
  | d + 1 => by
    show (lcgI m i (a + d) * 5 + 1) % (m + 1) = _
    rw [lcg_more m i a d]
    rfl
/-- no slot comes again within a round -/
theorem lcg_new {e m i a d : Nat} (hm : m + 1 = 2 ^ e) (hi : i ≤ m) (hd : 0 < d) (hl : d < m + 1) : lcgI m i (a + d) ≠ lcgI m i a := fun h => by
  rw [lcg_more] at h
  have hx := lcg_le hi a
  generalize lcgI m i a = x at h hx
  rw [lcg_at hx] at h
  have q := Nat.div_add_mod (5 ^ d * x + gg d) (m + 1)
  rw [h, ← gg_five d] at q
  have r : gg d * (4 * x + 1) = (m + 1) * (((4 * gg d + 1) * x + gg d) / (m + 1)) := by grind
  have dv : 2 ^ e ∣ gg d * (4 * x + 1) := hm ▸ ⟨_, r⟩
  have cop : Nat.Coprime (2 ^ e) (4 * x + 1) := Nat.Coprime.pow_left e (by
    show Nat.gcd 2 (4 * x + 1) = 1
    rw [Nat.gcd_rec, show (4 * x + 1) % 2 = 1 by omega]
    rfl)
  have z := Nat.le_of_dvd hd (gg_dvd e d (Nat.Coprime.dvd_of_dvd_mul_right cop dv))
  omega
/-- each slot comes within a round -/
theorem lcg_every {e m i j : Nat} (hm : m + 1 = 2 ^ e) (hi : i ≤ m) (hj : j ≤ m) : ∃ k, k ≤ m ∧ lcgI m i k = j := by
  rcases Classical.em (∃ k, k ≤ m ∧ lcgI m i k = j) with h | h
  · exact h
  exfalso
  have nd : ((List.range (m + 1)).map (lcgI m i)).Nodup := by
    refine List.pairwise_map.mpr ((List.pairwise_lt_range (n := m + 1)).imp_of_mem fun {a b} ha hb lt z => ?_)
    have hb := List.mem_range.mp hb
    have e2 : b = a + (b - a) := by omega
    rw [e2] at z
    exact lcg_new hm hi (by omega) (by omega) z.symm
  have q := nat_nodup_len _ ((List.range (m + 1)).erase j) nd fun x hx => by
    obtain ⟨k, hk, rfl⟩ := List.mem_map.mp hx
    have hk := List.mem_range.mp hk
    have := lcg_le hi k
    exact (List.mem_erase_of_ne fun z => h ⟨k, by omega, z⟩).2 (List.mem_range.mpr (by omega))
  rw [List.length_map, List.length_range, List.length_erase_of_mem (List.mem_range.mpr (by omega)), List.length_range] at q
  omega
/-- each slot is met soon enough, from whatever hash -/
theorem way_every {e m : Nat} (hm : m + 1 = 2 ^ e) (h : Int) {j : Nat} (hj : j ≤ m) : ∃ k, k < 10 * SetTable.turns m ∧ way m h k = j := by
  obtain ⟨n, hn, en⟩ := lcg_every hm (runI_le m (SetTable.bits h) 12) hj
  obtain ⟨k, hk, ek⟩ := run_nth m (SetTable.bits h) (12 + n)
  refine ⟨k, ?_, ?_⟩
  · unfold SetTable.turns
    omega
  · show (nth m (runAt m (SetTable.bits h % (m + 1)) (SetTable.bits h)) k).j = j
    rw [ek, runI_tail (bits_lt h), en]
    rfl
end Hx
namespace Hx
open PySem PySem.Spec PyProof.Rows L2
/-- a table of 8 to 8192 slots -/
def Big (m : Nat) : Prop := ∃ e, m + 1 = 2 ^ e ∧ 3 ≤ e ∧ e ≤ 13
theorem Big.le {m : Nat} (h : Big m) : 7 ≤ m ∧ m ≤ 8191 := by
  obtain ⟨e, h1, h2, h3⟩ := h
  have a := Nat.pow_le_pow_right (show 0 < 2 by decide) h2
  have b := Nat.pow_le_pow_right (show 0 < 2 by decide) h3
  have c : (2 : Nat) ^ 3 = 8 := rfl
  have d : (2 : Nat) ^ 13 = 8192 := rfl
  omega
theorem Big.odd {m : Nat} (h : Big m) : m % 2 = 1 := by
  obtain ⟨e, h1, h2, _⟩ := h
  obtain ⟨f, rfl⟩ : ∃ f, e = f + 1 := ⟨e - 1, by omega⟩
  rw [Nat.pow_succ] at h1
  omega
theorem Big.every {m j : Nat} (B : Big m) (h : Int) (hj : j ≤ m) : ∃ k, k < 10 * SetTable.turns m ∧ way m h k = j := let ⟨_, e, _⟩ := B; way_every e h hj
theorem way_in (m : Nat) (h : Int) (k : Nat) : way m h k ≤ m := by
  have a : SetTable.bits h % (m + 1) ≤ m := Nat.le_of_lt_succ (Nat.mod_lt _ (Nat.succ_pos _))
  have b := runEnd_bd a
  have c := nth_in (m := m) k (runAt m (SetTable.bits h % (m + 1)) (SetTable.bits h)) (Nat.le_trans (Nat.le_of_eq (Nat.add_sub_cancel' b.2.1)) b.1)
  exact Nat.le_trans (Nat.le_add_right _ _) c
/-- the table of the hashes hs -/
structure Tb (t : SetTable) (hs : List Int) : Prop where
  big : Big t.mask
  ord : Ris t.place.toList
  nod : t.dummies = #[]
  len : t.place.size = hs.length
  low : ∀ j ∈ t.place.toList, j ≤ t.mask
  met : ∀ (i : Nat) (h : Int) (j : Nat), hs[i]? = some h → t.place.toList[i]? = some j → ∃ k, way t.mask h k = j ∧ ∀ k', k' < k → way t.mask h k' ∈ t.place.toList
section
variable {t : SetTable} {hs : List Int} {h : Int} {K : Nat}
theorem Tb.size (T : Tb t hs) : t.place.toList.length = hs.length := by rw [Array.length_toList, T.len]
/-- the way's first slot that is free -/
theorem Tb.gap (T : Tb t hs) (room : hs.length ≤ t.mask) (h : Int) : ∃ K, K < 10 * SetTable.turns t.mask ∧ way t.mask h K ∉ t.place.toList ∧ ∀ k, k < K → way t.mask h k ∈ t.place.toList := by
  obtain ⟨j, hj, free⟩ := st_missing t.place.toList (t.mask + 1) (by rw [T.size]; omega)
  obtain ⟨k0, b0, rfl⟩ := T.big.every h (Nat.le_of_lt_succ hj)
  obtain ⟨K, le, no, all⟩ := st_least (p := fun k => way t.mask h k ∉ t.place.toList) k0 free
  exact ⟨K, Nat.lt_of_le_of_lt le b0, no, fun k lt => Classical.not_not.mp (all k lt)⟩
/-- an entry of that hash stands ahead of it -/
theorem Tb.ahead (T : Tb t hs) {i j : Nat} (no : way t.mask h K ∉ t.place.toList) (hi : hs[i]? = some h) (hj : t.place.toList[i]? = some j) : ∃ k, k < K ∧ way t.mask h k = j := by
  obtain ⟨k, ek, full⟩ := T.met i h j hi hj
  refine ⟨k, Nat.lt_of_not_le fun le => ?_, ek⟩
  rcases Nat.eq_or_lt_of_le le with q | q
  · exact no (q ▸ ek ▸ List.mem_of_getElem? hj)
  · exact no (full K q)
/-- one more, at the first free slot of its way -/
theorem Tb.add (T : Tb t hs) (no : way t.mask h K ∉ t.place.toList) (full : ∀ k, k < K → way t.mask h k ∈ t.place.toList) {p : Nat} (ep : SetTable.below t.place (way t.mask h K) = p) :
    p ≤ hs.length ∧ Tb (t.put (way t.mask h K)).1 (hs.take p ++ h :: hs.drop p) := by
  have cut := below_cut T.ord (way t.mask h K)
  rw [ep] at cut
  have p1 : p ≤ hs.length := T.len ▸ cut.1
  have p2 : p ≤ t.place.toList.length := by rw [T.size]; exact p1
  have place := put_place t (way t.mask h K)
  rw [ep] at place
  have keep : ∀ {j}, j ∈ t.place.toList → j ∈ (t.put (way t.mask h K)).1.place.toList := fun m => place ▸ mem_ins.mpr (.inr m)
  refine ⟨p1, T.big, ris_insert T.ord fun z => no (List.mem_of_getElem? (by rw [Array.getElem?_toList]; exact z)), put_dm T.nod _, ?_, fun j m => ?_, fun i g j a b => ?_⟩
  · rw [← Array.length_toList, place, len_ins _ p2, len_ins _ p1, T.size]
  · rw [place] at m
    show j ≤ t.mask
    exact (mem_ins.mp m).elim (fun z => by rw [z]; exact way_in ..) (T.low j)
  · rw [place, tins_get _ p2] at b
    rw [tins_get _ p1] at a
    have old : ∀ n, hs[n]? = some g → t.place.toList[n]? = some j → ∃ k, way t.mask g k = j ∧ ∀ k', k' < k → way t.mask g k' ∈ (t.put (way t.mask h K)).1.place.toList := fun n x y => by
      obtain ⟨k, q1, q2⟩ := T.met n g j x y
      exact ⟨k, q1, fun k' lt => keep (q2 k' lt)⟩
    split at a
    · rename_i lt
      rw [if_pos lt] at b
      exact old i a b
    · rename_i nl
      rw [if_neg nl] at b
      split at a
      · rename_i eq
        rw [if_pos eq] at b
        cases a
        cases b
        exact ⟨K, rfl, fun k' lt => keep (full k' lt)⟩
      · rename_i ne
        rw [if_neg ne] at b
        exact old (i - 1) a b
end
/-! ### all laid anew -/
theorem free_at {m : Nat} (B : Big m) {owner : Array (Option Nat)} {j : Nat} (h : Int) (hj : j ≤ m) (hf : oAt owner j = none) :
    ∃ K, SetTable.layClean.free m owner (SetTable.turns m) (SetTable.bits h % (m + 1)) (SetTable.bits h) = some (way m h K) ∧ oAt owner (way m h K) = none ∧ ∀ k, k < K → oAt owner (way m h k) ≠ none := by
  obtain ⟨e, em, _⟩ := B
  obtain ⟨n, hn, en⟩ := lcg_every em (runI_le m (SetTable.bits h) 12) hj
  have at_n : (nth m (runAt m (SetTable.bits h % (m + 1)) (SetTable.bits h)) (off m (SetTable.bits h % (m + 1)) (SetTable.bits h) (12 + n))).j = j := by
    rw [nth_off, itL_run, runI_tail (bits_lt h), en]
    rfl
  obtain ⟨K, le, no, all⟩ := st_least (p := fun k => oAt owner (way m h k) = none) _ (at_n.symm ▸ hf)
  refine ⟨K, free_spec m owner _ (12 + n) _ _ K (by unfold SetTable.turns; omega) le (fun k lt => ?_) ?_, no, all⟩
  · have z := all k lt
    revert z
    show oAt owner (way m h k) ≠ none → (oAt owner (way m h k)).isNone = false
    cases oAt owner (way m h k) with
    | none => exact fun z => absurd rfl z
    | some _ => exact fun _ => rfl
  · show (oAt owner (way m h K)).isNone = true
    rw [no]
    rfl
theorem own_more {m : Nat} (B : Big m) {done : List Int} {owner : Array (Option Nat)} (W : Own m done owner) (hl : done.length ≤ m) (h : Int) :
    ∃ owner', stepF m (some (owner, done.length)) h = some (owner', done.length + 1) ∧ Own m (done ++ [h]) owner' := by
  obtain ⟨ps, pl, pin⟩ := W.ps
  obtain ⟨j, hj, out⟩ := st_missing ps (m + 1) (by omega)
  have hf : oAt owner j = none := Classical.not_not.mp fun z => out (pin j (Nat.le_of_lt_succ hj) z)
  obtain ⟨K, got, no, all⟩ := free_at B h (Nat.le_of_lt_succ hj) hf
  have le := way_in m h K
  have mine := oAt_set_self (owner := owner) (some done.length) (show way m h K < owner.size by rw [W.sz]; omega)
  have other : ∀ {i}, i ≠ way m h K → oAt (owner.setIfInBounds (way m h K) (some done.length)) i = oAt owner i := fun z => oAt_set_ne _ z
  have still : ∀ {i}, oAt owner i ≠ none → oAt (owner.setIfInBounds (way m h K) (some done.length)) i ≠ none := fun {i} z => by
    rw [other fun q => z (by rw [q]; exact no)]
    exact z
  refine ⟨_, stepF_some got, by rw [Array.size_setIfInBounds, W.sz], fun i k hi q => ?_, fun k hk => ?_, way m h K :: ps, by simp [pl], fun i hi q => ?_⟩
  · by_cases c : i = way m h K
    · rw [c, mine] at q
      cases q
      exact ⟨h, K, by simp, c.symm, fun k' lt => still (all k' lt)⟩
    · rw [other c] at q
      obtain ⟨g, L, a, b, d⟩ := W.at_ i k hi q
      exact ⟨g, L, by rw [List.getElem?_append_left (List.getElem?_eq_some_iff.mp a).1]; exact a, b, fun k' lt => still (d k' lt)⟩
  · rw [List.length_append, List.length_cons, List.length_nil] at hk
    rcases Nat.lt_or_ge k done.length with c | c
    · obtain ⟨i, hi, q⟩ := W.all k c
      exact ⟨i, hi, by rw [other fun z => by rw [z, no] at q; cases q]; exact q⟩
    · exact ⟨way m h K, le, by rw [mine, show k = done.length by omega]⟩
  · by_cases c : i = way m h K
    · rw [c]
      exact List.mem_cons_self ..
    · rw [other c] at q
      exact List.mem_cons_of_mem _ (pin i hi q)
theorem own_all {m : Nat} (B : Big m) : ∀ (rest done : List Int) (owner : Array (Option Nat)), Own m done owner → done.length + rest.length ≤ m →
    ∃ o, rest.foldl (stepF m) (some (owner, done.length)) = some (o, done.length + rest.length) ∧ Own m (done ++ rest) o
  | [], done, owner, W, _ => ⟨owner, rfl, (List.append_nil done).symm ▸ W⟩
  | h :: rest, done, owner, W, le => by
    rw [List.length_cons] at le
    obtain ⟨o1, e1, W1⟩ := own_more B W (by omega) h
    have ln : (done ++ [h]).length = done.length + 1 := by simp
    obtain ⟨o2, e2, W2⟩ := own_all B rest (done ++ [h]) o1 W1 (by omega)
    rw [List.append_assoc] at W2
    refine ⟨o2, ?_, W2⟩
    rw [List.foldl_cons, e1, ← ln, e2, ln, List.length_cons]
    congr 2
    omega
theorem relaid_big (t : SetTable) {hs : Array Int} {wanted m : Nat} (hw : SetTable.sizeAbove wanted - 1 = m) (B : Big m) (hn : hs.size ≤ m) :
    ∃ t' order, t.relaid hs wanted = some (t', order) ∧ order.toList.Perm (List.range hs.size) ∧ Tb t' (order.toList.map fun i => hs.getD i 0) ∧ t'.mask = m ∧ t'.led = t.led ∧ t'.plain = t.plain := by
  obtain ⟨owner, fo, W⟩ := own_all B hs.toList [] _ (Own.init m) (by simpa using hn)
  rw [List.nil_append] at W
  have lay : SetTable.layClean m hs = some owner := by
    rw [layClean_eq]
    have fo : hs.toList.foldl (stepF m) (some (Array.replicate (m + 1) none, 0)) = some (owner, 0 + hs.toList.length) := fo
    rw [fo]
    rfl
  have live := @mem_live m owner W.sz
  have rl := ris_live (fun j => owner.getD j none) (List.range (m + 1)) List.pairwise_lt_range
  have r1 : Ris ((liveOf m owner).map Prod.fst) := rl.1
  have r2 : ∀ j ∈ (liveOf m owner).map Prod.fst, j ≤ m := fun j hj => Nat.le_of_lt_succ (List.mem_range.mp (rl.2 j hj))
  have every : ∀ k, k < hs.size → k ∈ (liveOf m owner).map Prod.snd := fun k hk => by
    obtain ⟨j, a, b⟩ := W.all k hk
    exact List.mem_map.mpr ⟨(j, k), live.mpr ⟨a, b⟩, rfl⟩
  have count : (liveOf m owner).length = hs.size := by
    refine Nat.le_antisymm ?_ ?_
    · obtain ⟨ps, pl, pin⟩ := W.ps
      have z := nat_nodup_len ((liveOf m owner).map Prod.fst) ps (r1.imp fun lt => Nat.ne_of_lt lt) fun j hj => by
        obtain ⟨⟨i, k⟩, a, rfl⟩ := List.mem_map.mp hj
        have q := live.mp a
        exact pin i q.1 (by rw [q.2]; exact Option.some_ne_none k)
      rw [List.length_map, pl] at z
      exact z
    · have z := nat_nodup_len (List.range hs.size) _ List.nodup_range fun k hk => every k (List.mem_range.mp hk)
      rw [List.length_map, List.length_range] at z
      exact z
  refine ⟨tabOf t m owner, ((liveOf m owner).map Prod.snd).toArray, by rw [relaid_eq, hw, lay]; rfl, perm_range _ _ (by rw [List.length_map, count]) every, ⟨B, r1, rfl, ?_, r2, fun i h j a b => ?_⟩, rfl, rfl, rfl⟩
  · show ((liveOf m owner).map Prod.fst).toArray.size = (((liveOf m owner).map Prod.snd).map _).length
    simp
  · have a : (((liveOf m owner).map Prod.snd).map fun i => hs.getD i 0)[i]? = some h := a
    have b : ((liveOf m owner).map Prod.fst)[i]? = some j := b
    rw [List.getElem?_map, List.getElem?_map] at a
    rw [List.getElem?_map] at b
    cases q : (liveOf m owner)[i]? with
    | none => rw [q] at b; cases b
    | some jk =>
      obtain ⟨j', k⟩ := jk
      rw [q] at a b
      cases b
      have a : hs.getD k 0 = h := Option.some.inj a
      obtain ⟨le, at_j⟩ := live.mp (List.mem_of_getElem? q)
      obtain ⟨g, K, x, y, z⟩ := W.at_ j' k le at_j
      have eg : g = h := by
        rw [← a, Array.getD_eq_getD_getElem?, ← Array.getElem?_toList, x]
        rfl
      subst eg
      refine ⟨K, y, fun k' lt => ?_⟩
      have full := z k' lt
      cases o : oAt owner (way m g k') with
      | none => exact absurd o full
      | some k2 => exact List.mem_map.mpr ⟨(way m g k', k2), live.mpr ⟨way_in .., o⟩, rfl⟩
end Hx
namespace Hx
open PySem PySem.Spec PyProof.Rows L2
/-- at a stands the set of the tuples L: each with its address, in the table's order -/
structure PSet (P : Program) (w : World) (h : Heap) (a : Addr) (L : List (Addr × List Int)) (es : Array (Int × Value)) (ep : Nat) (t : SetTable) : Prop where
  ob : ∃ o, h.get? a = some o ∧ o.ExactSet ∧ o.data = .set es ep t
  rows : es.toList = rowsOf P w L
  tab : Tb t (L.map fun p => thash P w p.2)
  one : (L.map (·.2)).Nodup
  tup : ∀ p ∈ L, IsT P w h p.2 p.1
  plain : t.plain = true
  led : w.params.followText "set-order" = true ∨ t.led = true
  room : L.length * 5 < t.mask * 3
section
variable {P : Program} {w : World} {A : Around} {E : Value → Shared → Prop} {s : Shared} {a x : Addr} {k : List Int} {L : List (Addr × List Int)} {es : Array (Int × Value)} {ep : Nat} {t : SetTable} {K : Nat}
theorem PSet.count (S : PSet P w s.heap a L es ep t) : es.size = L.length := by
  have z := congrArg List.length S.rows
  unfold rowsOf at z
  rwa [Array.length_toList, List.length_map] at z
theorem PSet.fits (S : PSet P w s.heap a L es ep t) : t.fits es.size = true := by
  have z := S.tab.len
  have r := S.room
  rw [List.length_map] at z
  unfold SetTable.fits SetTable.fill
  rw [S.tab.nod, S.count, z]
  show (L.length == L.length && decide (L.length + 0 ≤ t.mask)) = true
  rw [beq_self_eq_true, decide_eq_true (by omega)]
  rfl
theorem PSet.row (S : PSet P w s.heap a L es ep t) {i : Nat} {p : Addr × List Int} (h : L[i]? = some p) : es[i]? = some (thash P w p.2, Value.ref p.1) := by
  have z : (rowsOf P w L)[i]? = some (thash P w p.2, Value.ref p.1) := by
    unfold rowsOf
    rw [List.getElem?_map, h]
    rfl
  rw [← S.rows, Array.getElem?_toList] at z
  exact z
theorem PSet.stays (S : PSet P w s.heap a L es ep t) : ¬ t.gaveWay = true := by
  unfold SetTable.gaveWay
  rw [S.tab.big.odd]
  decide
/-- an entry stands at the slot that bears its number -/
theorem PSet.at_slot (S : PSet P w s.heap a L es ep t) {i j : Nat} (h : t.place.toList[i]? = some j) : ∃ p, L[i]? = some p ∧ p ∈ L := by
  have a := (List.getElem?_eq_some_iff.mp h).1
  have b := S.tab.size
  rw [List.length_map] at b
  have lt : i < L.length := by omega
  exact ⟨L[i], List.getElem?_eq_getElem lt, List.getElem_mem lt⟩
theorem no_dummy (m : Nat) : ∀ (n : Nat) (p : SetTable.Probe), p.dummy = none → (nth m p n).dummy = none
  | 0, _, h => h
  | n + 1, p, h => no_dummy m n (adv m p) (by
    unfold adv
    split
    · exact h
    · exact h)
abbrev begin_ (m : Nat) (h : Int) : SetTable.Probe := runAt m (SetTable.bits h % (m + 1)) (SetTable.bits h)
/-- behind a candidate that isn't the one sought, the search goes on; at the one sought it ends -/
theorem cand_rest (S : PSet P w s.heap a L es ep t) (hx : IsT P w s.heap k x) (hu : A.units < cLine) {adding : Bool} {f i j : Nat} {next : SetTable.Probe} {p : Addr × List Int} {Q : SetFound → Shared → Prop}
    (hj : t.place.toList[i]? = some j) (hp : L[i]? = some p) (yes : p.2 = k → ∀ r, (adding = false → r.isSome = true) → Q (.there r) s) (no : p.2 ≠ k → wpAny (model P w) A (setSearchFrom a (.ref x) (thash P w k) adding f (some next)) Q E s) :
    wpAny (model P w) A (searchRest a (.ref x) (thash P w k) adding f es t j i next) Q E s := by
  obtain ⟨o, ho, _, hd⟩ := S.ob
  unfold searchRest
  rw [S.row hp]
  dsimp only
  refine wpAny_bind (wpAny_holding (wpAny_eqBool_tuple hu (S.tup p (List.mem_of_getElem? hp)) hx ?_))
  refine wpAny_bind (wpAny_setState_of ho hd S.fits ?_)
  dsimp only
  have tail : wpAny (model P w) A (do
      let some same := t.sameMemory t.moves t.mask | unsupported "set.changed-during-lookup:is-the-new-block-at-the-old-address"
      let still ← match (if same then t.slot j else .empty) with
        | .live i' => match es[i']? with
          | some (_, y') => do pure (if ← isSame y' (.ref p.1) then some i' else none)
          | none => pure none
        | _ => pure none
      match still with
      | none => rule "set.search.anew"; setSearchFrom a (.ref x) (thash P w k) adding f none
      | some i' => if decide (p.2 = k) then return .there (some i') else setSearchFrom a (.ref x) (thash P w k) adding f (some next)) Q E s := by
    rw [sameMem]
    dsimp only
    simp only [if_true, slot_live S.tab.ord hj, S.row hp]
    refine wpAny_bind (wpAny_isSame_ref_self (wpAny_bind (wpAny_pure ?_)))
    simp only [if_true]
    by_cases e : p.2 = k
    · refine wp_if_pos (by simp [e]) ?_
      exact wpAny_pure (yes e _ fun _ => rfl)
    · refine wp_if_neg (by simp [e]) ?_
      exact no e
  by_cases c : (adding && decide (p.2 = k)) = true
  · refine wp_if_pos c ?_
    rw [Bool.and_eq_true, decide_eq_true_eq] at c
    exact wpAny_pure (yes c.2 none fun z => by rw [z] at c; exact absurd c.1 (by decide))
  · refine wp_if_neg c ?_
    try refine wpAny_bind (wpAny_pure ?_)
    exact tail
/-- the search, from the c-th step of the way on -/
theorem seek (S : PSet P w s.heap a L es ep t) (hx : IsT P w s.heap k x) (hu : A.units < cLine) {adding : Bool} {Q : SetFound → Shared → Prop} (bound : K < 10 * SetTable.turns t.mask) (free : way t.mask (thash P w k) K ∉ t.place.toList)
    (full : ∀ c, c < K → way t.mask (thash P w k) c ∈ t.place.toList) (yes : k ∈ L.map (·.2) → ∀ r, (adding = false → r.isSome = true) → Q (.there r) s) (no : k ∉ L.map (·.2) → Q (.free (way t.mask (thash P w k) K) false) s) :
    ∀ (f c : Nat) (stand : Option SetTable.Probe), stand.getD (t.probeStart (thash P w k)) = nth t.mask (begin_ t.mask (thash P w k)) c → c ≤ K → K < c + f →
      (∀ (i : Nat) (p : Addr × List Int), L[i]? = some p → p.2 = k → ∃ d, c ≤ d ∧ d < K ∧ t.place.toList[i]? = some (way t.mask (thash P w k) d)) → wpAny (model P w) A (setSearchFrom a (.ref x) (thash P w k) adding f stand) Q E s := by
  intro f
  induction f with
  | zero => exact fun c _ _ h1 h2 _ => absurd h2 (by omega)
  | succ f ih =>
    intro c stand from_ cK cf left
    obtain ⟨o, ho, _, hd⟩ := S.ob
    rw [setSearchFrom_succ]
    refine wpAny_bind (wpAny_setState_of ho hd S.fits ?_)
    dsimp only
    refine wp_if_neg S.stays ?_
    try refine wpAny_bind (wpAny_pure ?_)
    have shift : ∀ n, nth t.mask (nth t.mask (begin_ t.mask (thash P w k)) c) n = nth t.mask (begin_ t.mask (thash P w k)) (c + n) := fun n => (nth_add t.mask c _ n).symm
    have hash_of : ∀ (i : Nat) (p : Addr × List Int), L[i]? = some p → (es[i]?.map (·.1)).getD 0 = thash P w p.2 := fun i p e => by
      rw [S.row e]
      rfl
    have answer := go_spec t S.tab.ord S.tab.nod (fun i => (es[i]?.map (·.1)).getD 0) (thash P w k) (10 * SetTable.turns t.mask) (K - c) (nth t.mask (begin_ t.mask (thash P w k)) c) (no_dummy _ _ _ rfl) (by omega)
      (fun n hn => by rw [shift]; exact full (c + n) (by omega)) (by rw [shift, Nat.add_sub_cancel' cK]; exact free)
    have probed : t.probe (fun i => (es[i]?.map (·.1)).getD 0) (thash P w k) (stand.getD (t.probeStart (thash P w k))) = SetTable.probe.go t (fun i => (es[i]?.map (·.1)).getD 0) (thash P w k) (10 * SetTable.turns t.mask) (nth t.mask (begin_ t.mask (thash P w k)) c) := by rw [from_]; rfl
    rcases answer with ⟨n, i, hn, hi, same, before, met⟩ | ⟨before, met⟩
    · rw [probed, met]
      dsimp only
      obtain ⟨p, hp, pin⟩ := S.at_slot hi
      have on : wpAny (model P w) A (searchRest a (.ref x) (thash P w k) adding f es t (nth t.mask (nth t.mask (begin_ t.mask (thash P w k)) c) n).j i (nth t.mask (nth t.mask (begin_ t.mask (thash P w k)) c) (n + 1))) Q E s := by
        refine cand_rest S hx hu hi hp (fun e => yes (List.mem_map.mpr ⟨p, pin, e⟩)) fun ne => ih (c + (n + 1)) _ (shift (n + 1)) (by omega) (by omega) fun i2 p2 h2 e2 => ?_
        obtain ⟨d, d1, d2, d3⟩ := left i2 p2 h2 e2
        refine ⟨d, ?_, d2, d3⟩
        rcases Nat.lt_trichotomy d (c + n) with z | z | z
        rotate_left
        · exfalso
          have u1 := slot_live S.tab.ord d3
          have u2 := slot_live S.tab.ord hi
          rw [shift, ← z] at u2
          have u3 := SetTable.Slot.live.inj (u1.symm.trans u2)
          rw [u3, hp] at h2
          exact ne (by rw [Option.some.inj h2]; exact e2)
        · omega
        · exact absurd ((hash_of i2 p2 h2).trans (by rw [e2])) (before (d - c) i2 (by omega) (by rw [shift, Nat.add_sub_cancel' d1]; exact d3))
      by_cases led : t.led = true
      · refine wp_if_neg (by simp [led]) ?_
        try refine wpAny_bind (wpAny_pure ?_)
        exact on
      · refine wp_if_pos (by simp [led]) ?_
        refine wpAny_bind (seen_tup hx (fun y hy => ?_) ?_)
        · obtain ⟨r, hr, rfl⟩ := List.mem_map.mp hy
          have hr : r ∈ es.toList := by simpa using (show r ∈ es ∧ r.1 = thash P w k by simpa using hr).1
          rw [S.rows] at hr
          obtain ⟨p2, m2, rfl⟩ := List.mem_map.mp hr
          exact ⟨p2.2, p2.1, rfl, S.tup p2 m2⟩
        · refine wp_if_neg (by decide) ?_
          try refine wpAny_bind (wpAny_pure ?_)
          exact on
    · rw [probed, met]
      dsimp only
      rw [shift, Nat.add_sub_cancel' cK]
      refine wpAny_pure (no fun m => ?_)
      obtain ⟨p, pin, e⟩ := List.mem_map.mp m
      obtain ⟨i, hi⟩ := List.getElem?_of_mem pin
      obtain ⟨d, d1, d2, d3⟩ := left i p hi e
      exact before (d - c) i (by omega) (by rw [shift, Nat.add_sub_cancel' d1]; exact d3) ((hash_of i p hi).trans (by rw [e]))
/-- the search of a tuple, for adding or for asking -/
theorem seek_all (S : PSet P w s.heap a L es ep t) (hx : IsT P w s.heap k x) (hu : A.units < cLine) {adding : Bool} {Q : SetFound → Shared → Prop} (yes : k ∈ L.map (·.2) → ∀ r, (adding = false → r.isSome = true) → Q (.there r) s)
    (no : ∀ K, k ∉ L.map (·.2) → way t.mask (thash P w k) K ∉ t.place.toList → (∀ c, c < K → way t.mask (thash P w k) c ∈ t.place.toList) → Q (.free (way t.mask (thash P w k) K) false) s) : wpAny (model P w) A (setSearch a (.ref x) (thash P w k) adding) Q E s := by
  have r := S.room
  have b := S.tab.big.le
  obtain ⟨K, bound, free, full⟩ := S.tab.gap (by rw [List.length_map]; omega) (thash P w k)
  refine seek S hx hu bound free full yes (fun m => no K m free full) 100000 0 none rfl (Nat.zero_le _) (by unfold SetTable.turns at bound; omega) fun i p hi e => ?_
  obtain ⟨j, hj⟩ : ∃ j, t.place.toList[i]? = some j := by
    have z := S.tab.size
    rw [List.length_map] at z
    exact ⟨_, List.getElem?_eq_getElem (by have := (List.getElem?_eq_some_iff.mp hi).1; omega)⟩
  obtain ⟨d, lt, ed⟩ := S.tab.ahead (h := thash P w k) free (by rw [List.getElem?_map, hi, ← e]; rfl) hj
  exact ⟨d, Nat.zero_le _, lt, by rw [hj, ed]⟩
end
end Hx
namespace Hx
open PySem PySem.Spec PyProof.Rows L2
/-- the table that follows one that is too full -/
theorem grow {m n : Nat} (B : Big m) (h1 : n * 5 ≥ m * 3) (h2 : n * 5 < m * 3 + 5) (h3 : n ≤ 2000) : ∃ M, SetTable.sizeAbove (SetTable.grown n) - 1 = M ∧ SetTable.sizeAbove (SetTable.grown n) ≤ 8192 ∧ Big M ∧ n * 5 < M * 3 := by
  obtain ⟨e, he, e3, e13⟩ := B
  have one : ∀ {M f : Nat}, SetTable.sizeAbove (SetTable.grown n) = M + 1 → M + 1 = 2 ^ f → 3 ≤ f → f ≤ 13 → n * 5 < M * 3 → ∃ M, SetTable.sizeAbove (SetTable.grown n) - 1 = M ∧ SetTable.sizeAbove (SetTable.grown n) ≤ 8192 ∧ Big M ∧ n * 5 < M * 3 := fun {M f} a b c d g => by
    have q := (Big.le ⟨f, b, c, d⟩).2
    exact ⟨M, by rw [a]; rfl, by rw [a]; omega, ⟨f, b, c, d⟩, g⟩
  have cs : e = 3 ∨ e = 4 ∨ e = 5 ∨ e = 6 ∨ e = 7 ∨ e = 8 ∨ e = 9 ∨ e = 10 ∨ e = 11 ∨ e = 12 ∨ e = 13 := by omega
  rcases cs with rfl | rfl | rfl | rfl | rfl | rfl | rfl | rfl | rfl | rfl | rfl
  · obtain rfl : n = 5 := by omega
    exact one (M := 31) (f := 5) (by decide +kernel) rfl (by decide) (by decide) (by decide)
  · obtain rfl : n = 9 := by omega
    exact one (M := 63) (f := 6) (by decide +kernel) rfl (by decide) (by decide) (by decide)
  · obtain rfl : n = 19 := by omega
    exact one (M := 127) (f := 7) (by decide +kernel) rfl (by decide) (by decide) (by decide)
  · obtain rfl : n = 38 := by omega
    exact one (M := 255) (f := 8) (by decide +kernel) rfl (by decide) (by decide) (by decide)
  · obtain rfl : n = 77 := by omega
    exact one (M := 511) (f := 9) (by decide +kernel) rfl (by decide) (by decide) (by decide)
  · obtain rfl : n = 153 := by omega
    exact one (M := 1023) (f := 10) (by decide +kernel) rfl (by decide) (by decide) (by decide)
  · obtain rfl : n = 307 := by omega
    exact one (M := 2047) (f := 11) (by decide +kernel) rfl (by decide) (by decide) (by decide)
  · obtain rfl : n = 614 := by omega
    exact one (M := 4095) (f := 12) (by decide +kernel) rfl (by decide) (by decide) (by decide)
  · obtain rfl : n = 1229 := by omega
    exact one (M := 8191) (f := 13) (by decide +kernel) rfl (by decide) (by decide) (by decide)
  · omega
  · omega
section
variable {P : Program} {w : World} {A : Around} {E : Value → Shared → Prop} {s : Shared} {a x : Addr} {k : List Int} {L : List (Addr × List Int)} {es : Array (Int × Value)} {ep : Nat} {t : SetTable}
theorem rows_len (h : es.toList = rowsOf P w L) : es.size = L.length := by
  have z := congrArg List.length h
  unfold rowsOf at z
  rwa [Array.length_toList, List.length_map] at z
/-- the set laid anew in a larger table -/
theorem relay_big {o : Obj} (ho : s.heap.get? a = some o) (hex : o.ExactSet) (hd : o.data = .set es ep t) (rows : es.toList = rowsOf P w L) (T : Tb t (L.map fun p => thash P w p.2)) (one : (L.map (·.2)).Nodup) (tup : ∀ p ∈ L, IsT P w s.heap p.2 p.1)
    (pl : t.plain = true) (ld : w.params.followText "set-order" = true ∨ t.led = true) (fill : L.length ≤ t.mask) {wanted M : Nat} (hw : SetTable.sizeAbove wanted - 1 = M) (hw2 : SetTable.sizeAbove wanted ≤ 8192) (B : Big M) (hn : L.length * 5 < M * 3)
    {Q : Unit → Shared → Prop} (hQ : ∀ h' L' es' ep' t', Heap.SameBut a s.heap h' → PSet P w h' a L' es' ep' t' → L'.Perm L → Q () { s with heap := h' }) : wpAny (model P w) A (setRelay a wanted) Q E s := by
  have n1 := rows_len rows
  have n2 := T.len
  rw [List.length_map] at n2
  have line : 8192 ≤ sizeLine := by decide
  obtain ⟨t2, order, lay, perm, T2, em, el, ep2⟩ := relaid_big t (hs := es.map (·.1)) hw B (by rw [Array.size_map, n1]; omega)
  rw [Array.size_map, n1] at perm
  obtain ⟨L2, r1, r2, r3⟩ := order_rows L es order rows perm
  have n3 : (order.filterMap (es[·]?)).size = es.size := by rw [rows_len r1, r2.length_eq, n1]
  rw [setRelay_eq]
  refine wpAny_bind (wpAny_setState_of ho hd (by
    unfold SetTable.fits SetTable.fill
    rw [T.nod, n2, n1]
    show (L.length == L.length && decide (L.length + 0 ≤ t.mask)) = true
    rw [beq_self_eq_true, decide_eq_true (by omega)]
    rfl) ?_)
  dsimp only
  refine wp_if_neg (by omega) ?_
  try refine wpAny_bind (wpAny_pure ?_)
  rw [lay]
  dsimp only
  refine wpAny_bind ?_
  refine wp_if_neg (by rw [n3]; simp) ?_
  try refine wpAny_bind (wpAny_pure ?_)
  refine wpAny_pure ?_
  dsimp only
  refine wpAny_storeSet_of ho hd ?_ (by
    rw [n3, n1]
    have := B.le
    omega)
  have sb : Heap.SameBut a s.heap (s.heap.update a (Obj.putSet (order.filterMap (es[·]?)) t2)) := Heap.SameBut.update ..
  exact hQ _ L2 _ (ep + 1) t2 sb ⟨⟨_, store_at ho hd, ⟨hex.1, hex.2.1, hex.2.2⟩, rfl⟩, r1, r3 ▸ T2, (r2.map _).nodup_iff.mpr one, fun p hp => isT_same (tup p (r2.mem_iff.mp hp)) ho hd sb, ep2.trans pl, el ▸ ld, by rw [r2.length_eq, em]; exact hn⟩ r2
/-- one added -/
theorem add_big (S : PSet P w s.heap a L es ep t) (hx : IsT P w s.heap k x) (hu : A.units < cLine) (few : L.length < 2000) {Q : Bool → Shared → Prop}
    (hQ : ∀ b h' L' es' ep' t', Heap.SameBut a s.heap h' → PSet P w h' a L' es' ep' t' → (k ∈ L.map (·.2) → L' = L) → (k ∉ L.map (·.2) → L'.Perm ((x, k) :: L)) → Q b { s with heap := h' }) : wpAny (model P w) A (setAddHashed a (.ref x) (thash P w k)) Q E s := by
  obtain ⟨o, ho, hex, hd⟩ := S.ob
  have room := S.room
  have line : 8192 ≤ sizeLine := by decide
  unfold setAddHashed
  refine wpAny_holding ?_
  rw [show (100000 : Nat) = 99999 + 1 from rfl, setAddHashedIn_succ]
  refine wpAny_bind (wpAny_setState_of ho hd S.fits ?_)
  dsimp only
  refine wp_if_neg (by simp [byScan, Value.scannable]) ?_
  try refine wpAny_bind (wpAny_pure ?_)
  refine wpAny_bind (seek_all S hx hu (fun old r _ => ?_) fun K new free full => ?_)
  · dsimp only
    exact wpAny_pure (hQ false s.heap L es ep t (Heap.SameBut.refl a s.heap) S (fun _ => rfl) fun z => absurd old z)
  dsimp only
  refine wpAny_bind (wpAny_setState_of ho hd S.fits ?_)
  dsimp only
  obtain ⟨p, hp⟩ : ∃ p, SetTable.below t.place (way t.mask (thash P w k) K) = p := ⟨_, rfl⟩
  obtain ⟨_, T1⟩ := S.tab.add free full hp
  have put : t.put (way t.mask (thash P w k) K) = ((t.put (way t.mask (thash P w k) K)).1, p) := by rw [← hp]; rfl
  have k1 : (t.put (way t.mask (thash P w k) K)).1.plain = true := S.plain
  have k2 : w.params.followText "set-order" = true ∨ (t.put (way t.mask (thash P w k) K)).1.led = true := S.led
  have k3 : (t.put (way t.mask (thash P w k) K)).1.mask = t.mask := rfl
  rw [put]
  generalize (t.put (way t.mask (thash P w k) K)).1 = t1 at T1 k1 k2 k3 ⊢
  dsimp only
  first
    | (refine wpAny_bind ?_; refine wp_if_pos k1 ?_; refine hashBy_tup hx ?_)
    | refine wp_if_pos k1 (wpAny_bind (hashBy_tup hx ?_))
  simp only [if_true]
  have rows1 : (SetTable.insertAt es p (thash P w k, Value.ref x)).toList = rowsOf P w (L.take p ++ (x, k) :: L.drop p) := by rw [SetTable.toList_insertAt, rows_put, S.rows]
  have perm := put_perm L p (x, k)
  rw [show ((L.map fun p => thash P w p.2).take p ++ thash P w k :: (L.map fun p => thash P w p.2).drop p) = (L.take p ++ (x, k) :: L.drop p).map fun p => thash P w p.2 by rw [List.map_append, List.map_cons, List.map_take, List.map_drop]] at T1
  have one1 : ((L.take p ++ (x, k) :: L.drop p).map (·.2)).Nodup := (perm.map _).nodup_iff.mpr (List.nodup_cons.mpr ⟨new, S.one⟩)
  have len1 : (L.take p ++ (x, k) :: L.drop p).length = L.length + 1 := perm.length_eq
  have n1 := rows_len rows1
  rw [len1] at n1
  generalize SetTable.insertAt es p (thash P w k, Value.ref x) = es1 at rows1 n1 ⊢
  generalize L.take p ++ (x, k) :: L.drop p = L1 at rows1 perm T1 one1 len1
  refine wpAny_bind (wpAny_storeSet_of ho hd ?_ (by rw [n1]; omega))
  have sb : Heap.SameBut a s.heap (s.heap.update a (Obj.putSet es1 t1)) := Heap.SameBut.update ..
  have ho1 := store_at (es' := es1) (t' := t1) ho hd
  generalize s.heap.update a (Obj.putSet es1 t1) = h1 at sb ho1 ⊢
  have tup1 : ∀ q ∈ L1, IsT P w h1 q.2 q.1 := fun q hq => by
    rcases List.mem_cons.mp (perm.mem_iff.mp hq) with rfl | hq
    · exact isT_same hx ho hd sb
    · exact isT_same (S.tup q hq) ho hd sb
  have fl : t1.fill = L.length + 1 := by
    unfold SetTable.fill
    rw [T1.nod, T1.len, List.length_map, len1]
    rfl
  have big := S.tab.big.le
  by_cases over : t1.tooFull = true
  · first
      | (refine wpAny_bind ?_; refine wp_if_pos (by simp [over]) ?_)
      | (refine wp_if_pos (by simp [over]) ?_; refine wpAny_bind ?_)
    have full5 : (L.length + 1) * 5 ≥ t.mask * 3 := by
      unfold SetTable.tooFull at over
      rw [decide_eq_true_eq, fl, k3] at over
      exact over
    obtain ⟨M, m1, m2, m3, m4⟩ := grow S.tab.big full5 (by omega) (by omega)
    rw [S.count]
    refine relay_big (s := { s with heap := h1 }) ho1 ⟨hex.1, hex.2.1, hex.2.2⟩ rfl rows1 T1 one1 tup1 k1 k2 (by rw [len1, k3]; omega) m1 m2 m3 (by rw [len1]; exact m4) fun h2 L2 es2 ep2 t2 sb2 S2 perm2 => ?_
    exact wpAny_pure (hQ true h2 L2 es2 ep2 t2 (sb.trans sb2) S2 (fun z => absurd z new) fun _ => perm2.trans perm)
  · first
      | refine wp_if_neg (by simp [over]) ?_
      | (refine wpAny_bind ?_; refine wp_if_neg (by simp [over]) ?_; refine wpAny_pure ?_)
    refine wpAny_pure (hQ true h1 L1 es1 (ep + 1) t1 sb ⟨⟨_, ho1, ⟨hex.1, hex.2.1, hex.2.2⟩, rfl⟩, rows1, T1, one1, tup1, k1, k2, ?_⟩ (fun z => absurd z new) fun _ => perm)
    unfold SetTable.tooFull at over
    rw [decide_eq_true_eq, fl, k3] at over
    rw [len1, k3]
    omega
end
end Hx
namespace Hx
open PySem PySem.Spec PyProof.Rows L2
section
variable {P : Program} {w : World} {A : Around} {E : Value → Shared → Prop} {s : Shared}
theorem PSet.stay {h h' : Heap} {a : Addr} {L : List (Addr × List Int)} {es : Array (Int × Value)} {ep : Nat} {t : SetTable} (S : PSet P w h a L es ep t) (ha : ∀ o, h.get? a = some o → h'.get? a = some o) (ht : ∀ p ∈ L, IsT P w h' p.2 p.1) : PSet P w h' a L es ep t :=
  let ⟨o, ho, r⟩ := S.ob
  ⟨⟨o, ha o ho, r⟩, S.rows, S.tab, S.one, ht, S.plain, S.led, S.room⟩
/-- what set() makes -/
abbrev newSet (w : World) : Obj := { cls := .type "set", dict := none, data := .set #[] 0 (.fresh 0 0 (!w.params.followText "set-order")) }
theorem pset_new {h : Heap} {a : Addr} (ho : h.get? a = some (newSet w)) : PSet P w h a [] #[] 0 (.fresh 0 0 (!w.params.followText "set-order")) := by
  refine ⟨⟨_, ho, ⟨rfl, rfl, rfl⟩, rfl⟩, rfl, ⟨⟨3, rfl, by decide, by decide⟩, .nil, rfl, rfl, (fun j m => nomatch m), (fun i h j e => by cases e)⟩, .nil, fun p m => (nomatch m), rfl, ?_, (by decide : 0 * 5 < 7 * 3)⟩
  cases e : w.params.followText "set-order" with
  | true => exact .inl rfl
  | false => exact .inr rfl
/-- set.update's loop over tuples of a list -/
theorem fill_big {I S : Addr} {fp wr : List Addr} {G : Array GenState → Array GenState → Prop} {n : Nat} {Pv : Nat → Value → Prop} {St : Nat → Shared → Prop} {R : Result → Shared → Prop} {ks : List (Addr × List Int)} {h0 : Heap} (W : WalksS P w A.in1 I fp wr G n Pv St)
    (off : S ∉ fp) (hn : n = ks.length) (few : ks.length ≤ 2000) (val : ∀ i v, Pv i v → ∃ p, ks[i]? = some p ∧ v = .ref p.1) (hk : ∀ p ∈ ks, IsT P w h0 p.2 p.1) (fS : h0.get? S = none) (fw : ∀ b ∈ wr, h0.get? b = none) (hu : A.in1.units < cLine) :
    ∀ (left i : Nat) (s : Shared), i + left = n → St i s → h0.StaysIn s.heap → (∃ L es ep t, PSet P w s.heap S L es ep t ∧ Got ks i L) →
      (∀ s' L es ep t, Moved (S :: wr) G s s' → PSet P w s'.heap S L es ep t → Got ks n L → h0.StaysIn s'.heap → R (.ok (.ret .none)) s') → codeAny (model P w) A (.builtin "set.update.loop" ⟨[.ref S, .ref I], []⟩) R s := by
  have notw : S ∉ wr := fun m => off (W.sub _ m)
  have wide : ∀ {s s' : Shared}, Moved wr G s s' → Moved (S :: wr) G s s' := fun m => m.mono fun _ hb => List.mem_cons_of_mem _ hb
  have on : ∀ {s s' : Shared}, Moved wr G s s' → h0.StaysIn s.heap → h0.StaysIn s'.heap := fun m k b o e => m.heap b o (fun hb => absurd ((fw b hb).symm.trans e) (fun z => nomatch z)) (k b o e)
  have over : ∀ {s s' : Shared} {L es ep t i}, Moved wr G s s' → h0.StaysIn s'.heap → Got ks i L → PSet P w s.heap S L es ep t → PSet P w s'.heap S L es ep t := fun m k g p =>
    p.stay (fun o e => m.heap S o notw e) fun q hq => isT_keep (hk q (List.mem_of_mem_take (g.sub q hq))) k
  intro left
  induction left with
  | zero =>
    rintro i s rfl st k ⟨L, es, ep, t, p, g⟩ fin
    refine codeAny_builtin F.entry_set_update_loop ?_
    rw [Around.under_plainId F.plain_set_update_loop _]
    show wpAny _ A.in1 (pyNext (.ref I) >>= _) _ _ s
    refine wpAny_bind (W.done s _ _ st fun s' m => ?_)
    exact wpAny_pure (fin s' L es ep t (wide m) (over m (on m k) g p) g (on m k))
  | succ left ih =>
    rintro i s rfl st k ⟨L, es, ep, t, p, g⟩ fin
    refine codeAny_builtin F.entry_set_update_loop ?_
    rw [Around.under_plainId F.plain_set_update_loop _]
    show wpAny _ A.in1 (pyNext (.ref I) >>= _) _ _ s
    refine wpAny_bind (W.item i s _ _ (by omega) st fun v s1 pv st1 m => ?_)
    obtain ⟨x, hx, rfl⟩ := val i v pv
    have k1 := on m k
    have p1 := over m k1 g p
    have tx := isT_keep (hk x (List.mem_of_getElem? hx)) k1
    show wpAny _ A.in1 (holding [Value.ref x.1] (setAdd S (.ref x.1)) >>= _) _ _ s1
    refine wpAny_bind (wpAny_holding ?_)
    unfold setAdd
    refine wpAny_holding (wpAny_bind (wpAny_pyHash_tuple hu tx ?_))
    have gl := g.len
    refine add_big (s := { s1 with toks := s1.toks + (x.2.length + 1) }) p1 tx hu (by omega) fun b h2 L2 es2 ep2 t2 sb p2 same more => ?_
    have g2 : Got ks (i + 1) L2 := (Classical.em (x.2 ∈ L.map (·.2))).elim (fun c => by rw [same c]; exact g.same hx c) fun c => g.more hx (more c)
    have k2 : h0.StaysIn h2 := fun c o e => (sb.2 c fun z => by rw [z, fS] at e; cases e).trans (k1 c o e)
    refine wpAny_pure ⟨plainId_quiet F.plain_set_update_loop _, ih (i + 1) _ (by omega) (W.frame _ s1 _ _ st1 (Nat.le_add_right _ _) fun c hc o e => ?_) k2 ⟨L2, es2, ep2, t2, p2, g2⟩ fun s3 L3 es3 ep3 t3 m3 p3 g3 k3 => ?_⟩
    · exact (sb.2 c fun z => off (z ▸ hc)).trans e
    · refine fin s3 L3 es3 ep3 t3 (Moved.trans W.gtrans ((wide m).then_heap (Nat.le_add_right _ _) fun c o hc e => ?_) m3) p3 g3 k3
      exact (sb.2 c fun z => hc (z ▸ List.mem_cons_self ..)).trans e
end
end Hx
namespace Hx
open PySem PySem.Spec PyProof.Rows L2
section
variable {P : Program} {w : World} {A : Around} {E : Value → Shared → Prop} {s : Shared}
theorem none_past {h : Heap} {b : Addr} (le : h.objs.size ≤ b) : h.get? b = none := by
  cases q : h.get? b with
  | none => rfl
  | some o => exact absurd (Nat.lt_of_lt_of_le (Heap.lt_size q) le) (Nat.lt_irrefl _)
/-- what set.__init__ leaves -/
def Filled (P : Program) (w : World) (ks : List (Addr × List Int)) (s : Shared) (s2 : Shared) : Prop := ∃ h' tk L es ep t, s2 = { s with heap := h', toks := tk } ∧ PSet P w h' s.heap.objs.size L es ep t ∧ Got ks ks.length L ∧ s.heap.StaysIn h'
set_option maxHeartbeats 3200000 in
/-- set(xs), xs a list of tuples -/
theorem call_set_big {l : Addr} {items : Array Value} {ks : List (Addr × List Int)} {Q : Value → Shared → Prop} (hh : A.handled = none) (hl : s.heap.IsList l items) (hit : items.toList = ks.map fun p => Value.ref p.1) (hk : ∀ p ∈ ks, IsT P w s.heap p.2 p.1)
    (few : ks.length ≤ 2000) (hu : A.units + 3 < cLine) (fin : ∀ s2, Filled P w ks s s2 → Q (.ref s.heap.objs.size) s2) : wpAny (model P w) A (call (.type "set") [.ref l]) Q E s := by
  have count : items.size = ks.length := by
    rw [← Array.length_toList, hit, List.length_map]
  obtain ⟨s1, es1⟩ : ∃ s1 : Shared, s1 = { s with heap := s.heap.push (newSet w) } := ⟨_, rfl⟩
  have at1 : s1.heap.get? s.heap.objs.size = some (newSet w) := by
    rw [es1]
    exact Heap.get?_push_size _ rfl
  have keep1 : s.heap.StaysIn s1.heap := by
    rw [es1]
    exact fun b o e => Heap.get?_push_of_some _ e
  have size1 : s1.heap.objs.size = s.heap.objs.size + 1 := by
    rw [es1]
    exact Heap.size_push ..
  obtain ⟨c, tl, hmro⟩ := F.called_set.mro
  have hmade := F.called_set.made
  have hsub := F.called_set.sub
  refine wpAny_call (codeAny_of_tree ?_)
  show wpAny _ _ (callAny (.type "set") _) _ _ _
  refine wpAny_pure ⟨Code.quiet_builtin _ (by decide +kernel), codeAny_builtin F.entry_type_call ?_⟩
  rw [Around.under_plain (weight_type_call_type "set" [.ref l] []) rfl]
  have h1 := F.called_set.notType
  have h2 := F.called_set.canCreate
  have hct := F.typeCall_set_1 (.ref l)
  repeat (any_goals (first | assumption | wp_step))
  refine codeAny_mono (code_set_led1 (.ref l) (E := E) (Q₁ := fun made sm => made = .ref s.heap.objs.size ∧ sm = s1) ⟨rfl, es1.symm⟩) fun r sm hr => ?_
  match r, hr with
  | .error e, hr => exact hr
  | .ok (.ret made), hr =>
    obtain ⟨rfl, rfl⟩ := hr
    have hT : sm.TypeIs (.ref s.heap.objs.size) "set" := ⟨_, at1, rfl⟩
    have hli := F.called_set.init.lookup
    have hbi := F.called_set.init.bind (.ref s.heap.objs.size)
    repeat (any_goals (first | assumption | wp_step))
    refine codeAny_mono (codeAny_call_builtin (R := wants (fun r s2 => r = .none ∧ Filled P w ks s s2) E) F.called_set.init.plain F.entry_set_init (check_set_init_1 hT ?_)) fun r2 s2 hr2 => ?_
    · have hl1 : sm.heap.IsList l items := by
        obtain ⟨ol, hol, rest⟩ := hl
        exact ⟨ol, keep1 _ _ hol, rest⟩
      have low : l < s.heap.objs.size := by
        obtain ⟨ol, hol, _⟩ := hl
        exact Heap.lt_size hol
      obtain ⟨⟨ocls, odict, odata, oslots⟩, hol, hcl, nl, hdl⟩ := id hl1
      dsimp only at hcl hdl
      subst hcl
      subst hdl
      have s_ls := F.sub_list_set
      have s_lf := F.sub_list_frozenset
      have n_ld : (Value.type "list" == Value.type "dict") = false := by decide
      unfold Builtin.«set.__init__» noKeywords Builtin.Frozenset.updateFrom
      generalize hPI : pyIter = PI
      wp_walk
      subst hPI
      refine wpAny_pyIter_list hl1 ?_
      refine wpAny_bind (wpAny_runValue ?_)
      have low2 : l < s.heap.objs.size := low
      have off : s.heap.objs.size ∉ [sm.heap.objs.size, l] := fun m => by
        rw [size1] at m
        rcases List.mem_cons.mp m with z | z
        · exact absurd z (Nat.ne_of_lt (Nat.lt_succ_self _))
        · exact absurd (List.mem_singleton.mp z) (Nat.ne_of_gt low2)
      refine fill_big (h0 := s.heap) ((Walks.list (by simp [hh]) _ l (by rw [size1]; exact Nat.ne_of_lt (Nat.lt_succ_of_lt low2)) items).toS) off count few (fun i v hv => ?_) hk (none_past (Nat.le_refl _)) (fun b hb => none_past (by rw [List.mem_singleton.mp hb, size1]; exact Nat.le_succ _)) hu items.size 0 _ (Nat.zero_add _)
        ⟨⟨_, Heap.get?_push_size _ rfl, rfl, rfl⟩, hl1.push _⟩ (fun b o e => Heap.get?_push_of_some _ (keep1 b o e)) ⟨[], #[], 0, _, pset_new (Heap.get?_push_of_some _ at1), Got.zero ks⟩ fun s3 L es ep t mv ps got st => ?_
      · have q : items.toList[i]? = some v := by rw [Array.getElem?_toList]; exact hv
        rw [hit, List.getElem?_map] at q
        obtain ⟨p, hp, rfl⟩ := Option.map_eq_some_iff.mp q
        exact ⟨p, hp, rfl⟩
      · refine wpAny_pure ?_
        show wpAny _ _ (ret Value.none) _ _ _
        refine wpAny_pure ⟨rfl, s3.heap, s3.toks, L, es, ep, t, ?_, ps, count ▸ got, st⟩
        have g1 : s3.gens = sm.gens := mv.gens
        have g2 : s3.drawn = sm.drawn := mv.drawn
        have g3 : s3.os = sm.os := mv.os
        rw [es1] at g1 g2 g3
        obtain ⟨a1, a2, a3, a4, a5⟩ := s3
        dsimp only at g1 g2 g3
        rw [g1, g2, g3]
    · match r2, hr2 with
      | .error e, hr2 => exact hr2
      | .ok (.ret r), hr2 =>
        obtain ⟨rfl, done⟩ := hr2
        repeat (any_goals (first | assumption | wp_step))
        exact fin _ done
end
end Hx
namespace Hx
open PySem PySem.Spec PyProof.Rows L2
section
variable {P : Program} {w : World} {A : Around} {E : Value → Shared → Prop} {s : Shared} {a x : Addr} {k : List Int} {L : List (Addr × List Int)} {es : Array (Int × Value)} {ep : Nat} {t : SetTable}
theorem find_step (a : Addr) (x : Value) (h : Int) (fuel : Nat) : setFindIn a x h (fuel + 1) = (do
    let (es, _, _) ← setState a
    if byScan x es then
      rule "set.find.by-scan"
      match ← setScan a x h false es with
      | .found i => return some i
      | .absent => return none
      | .anew => return ← setFindIn a x h fuel
    match ← setSearch a x h with
    | .there i => return i
    | .free .. => return none) := by rfl
/-- a tuple is looked for -/
theorem find_big (S : PSet P w s.heap a L es ep t) (hx : IsT P w s.heap k x) (hu : A.units < cLine) {Q : Option Nat → Shared → Prop} (h : ∀ r, r.isSome = decide (k ∈ L.map (·.2)) → Q r s) : wpAny (model P w) A (setFind a (.ref x) (thash P w k)) Q E s := by
  obtain ⟨o, ho, _, hd⟩ := S.ob
  unfold setFind
  rw [show (100000 : Nat) = 99999 + 1 from rfl, find_step]
  refine wpAny_bind (wpAny_setState_of ho hd S.fits ?_)
  dsimp only
  refine wp_if_neg (by simp [byScan, Value.scannable]) ?_
  try refine wpAny_bind (wpAny_pure ?_)
  refine wpAny_bind (seek_all S hx hu (fun old r y => ?_) fun K new _ _ => ?_)
  · exact wpAny_pure (h r (by rw [decide_eq_true old]; exact y rfl))
  · exact wpAny_pure (h none (by rw [decide_eq_false new]; rfl))
theorem PSet.typeIs (S : PSet P w s.heap a L es ep t) : s.TypeIs (.ref a) "set" := let ⟨o, ho, hc, _⟩ := S.ob; ⟨o, ho, hc.1⟩
/-- pair not in known -/
theorem not_in_big (S : PSet P w s.heap a L es ep t) (hx : IsT P w s.heap k x) (hu : A.units + 8 < cLine) {Q : Value → Shared → Prop} (h : ∀ tk, Q (.bool (!decide (k ∈ L.map (·.2)))) { s with toks := tk }) : wpAny (model P w) A (compareOp .NotIn (.ref x) (.ref a)) Q E s := by
  show wpAny _ _ (do return .bool (!(← contains (.ref a) (.ref x)))) Q E s
  refine wpAny_bind ?_
  unfold contains
  try with_reducible refine wpAny_holding ?_
  refine wpAny_bind (wpAny_specialOf S.typeIs F.slot_set_contains.lookup ?_)
  refine wp_if_neg (by rw [beq_builtin_none]; exact Bool.false_ne_true) ?_
  refine wpAny_bind (wpAny_callSpecialUnlessNone?_slot (name := Str.ofString "__contains__") S.typeIs F.slot_set_contains (wpAny_call_entry F.slot_set_contains S.typeIs entry_set_contains ?_ (F.args_set_contains_2 _ _)))
  unfold Builtin.«frozenset.__contains__» Builtin.Frozenset.oneOther
  simp only [List.isEmpty_nil, bind_assoc]
  unfold Builtin.Frozenset.addrOf Builtin.Frozenset.withSetAsKey setContains
  refine wpAny_bind (wpAny_pure ?_)
  try dsimp only
  refine wpAny_bind (wpAny_pure ?_)
  try dsimp only
  refine wpAny_bind (wpAny_tryCatch (wpAny_holding (wpAny_bind (wpAny_pyHash_tuple (by show A.units + 1 < cLine; omega) hx ?_))))
  refine wpAny_bind (find_big (s := { s with toks := s.toks + (k.length + 1) }) S hx (by show A.units + 1 < cLine; omega) fun r hr => ?_)
  refine wpAny_pure ?_
  show wpAny _ _ (ret (Value.bool r.isSome)) _ _ _
  rw [hr]
  exact wpAny_pure ⟨_, rfl, wpAny_truthy_bool (wpAny_pure (h _))⟩
end
/-- the set at a, without its tuples -/
def SetP (P : Program) (w : World) (h : Heap) (a : Addr) (L : List (Addr × List Int)) : Prop := ∃ es ep t, (∃ o, h.get? a = some o ∧ o.ExactSet ∧ o.data = .set es ep t) ∧ es.toList = rowsOf P w L ∧ Tb t (L.map fun p => thash P w p.2) ∧ (L.map (·.2)).Nodup ∧ t.plain = true ∧
  (w.params.followText "set-order" = true ∨ t.led = true) ∧ L.length * 5 < t.mask * 3
def SetPO (P : Program) (w : World) (a : Addr) (L : List (Addr × List Int)) : HO := .ext fun h => SetP P w h a L
section
variable {P : Program} {w : World} {h : Heap} {a : Addr} {L : List (Addr × List Int)}
theorem PSet.bare {es : Array (Int × Value)} {ep : Nat} {t : SetTable} (S : PSet P w h a L es ep t) : SetP P w h a L := ⟨es, ep, t, S.ob, S.rows, S.tab, S.one, S.plain, S.led, S.room⟩
theorem SetP.full (S : SetP P w h a L) (ht : ∀ p ∈ L, IsT P w h p.2 p.1) : ∃ es ep t, PSet P w h a L es ep t := let ⟨es, ep, t, a1, a2, a3, a4, a5, a6, a7⟩ := S; ⟨es, ep, t, a1, a2, a3, a4, ht, a5, a6, a7⟩
theorem setPO_ok {H : Hp} (S : SetP P w h a L) : ObjOk P w H h a (SetPO P w a L) := by
  have ⟨_, _, _, ⟨o, ho, _⟩, _⟩ := S
  refine ⟨S, ⟨o, ho⟩, fun h1 h2 p k => ?_⟩
  have ⟨es, ep, t, ⟨u, hu, r⟩, q⟩ := (show SetP P w h1 a L from p)
  exact ⟨es, ep, t, ⟨u, k u hu, r⟩, q⟩
end
section
variable {X : Cx}
/-- set(xs), xs a list of tuples of ints, of up to 2000 -/
def rSetP (K : PySem.W.Frag) (P : Program) (w : World) : List V → Hp → VK → Prop := fun xs H Q => ∃ (l : Addr) (ks : List (Addr × List Int)), xs = [V.ref l] ∧ SqL K H l (ks.map fun p => V.ref p.1) ∧ (∀ p ∈ ks, SqT K H p.1 (p.2.map V.int)) ∧ ks.length ≤ 2000 ∧
  ∀ a L, H a = none → (∀ p ∈ L, p ∈ ks) → (∀ p ∈ ks, p.2 ∈ L.map (·.2)) → Q (.ref a) (upd H a (SetPO P w a L))
theorem cr_setP (hc : X.calm = true) (hu : X.A.units + 64 < cLine) : CallR X (.type "set") (rSetP X.K X.prog X.w) := by
  intro pins s σ H xs us Q I r h
  obtain ⟨l, ks, rfl, hl, hk, few, q⟩ := h
  rw [Vals.ref1 r]
  obtain ⟨its, rv, pl, _⟩ := I.list hl
  refine call_set_big (P := X.prog) (w := X.w) (ks := ks) (I.ok.hd hc) pl.isList (by simpa using refs_of_vals rv) (fun p hp => I.isT (hk p hp)) few (by omega) fun s2 done => ?_
  obtain ⟨h', tk, L, es, ep, t, rfl, S, g, k⟩ := done
  refine ⟨.ref s.heap.objs.size, upd H s.heap.objs.size (SetPO X.prog X.w s.heap.objs.size L), I.laid (t' := tk) k (Nat.le_refl _) (setPO_ok S.bare), rfl, q _ L (I.hok.fresh (Nat.le_refl _)) (fun p hp => List.mem_of_mem_take (g.sub p hp)) fun p hp => ?_⟩
  exact g.all p (by rw [List.take_length]; exact hp)
/-- pair not in known -/
def rNotInP (K : PySem.W.Frag) (P : Program) (w : World) : R2 := fun x y H Q => ∃ (b : Addr) (k : List Int) (a : Addr) (L : List (Addr × List Int)), x = .ref b ∧ y = .ref a ∧ H a = some (SetPO P w a L) ∧ SqT K H b (k.map V.int) ∧ (∀ p ∈ L, SqT K H p.1 (p.2.map V.int)) ∧ Q (.bl (!decide (k ∈ L.map (·.2)))) H
theorem op_notInP (hu : X.A.units + 64 < cLine) : OpR X (compareOp .NotIn) (rNotInP X.K X.prog X.w) := by
  intro pins s σ H x y v u Q I rx ry h
  obtain ⟨b, k, a, L, rfl, rfl, ha, hb, hL, q⟩ := h
  cases rx
  cases ry
  have S0 : SetP X.prog X.w s.heap a L := (I.hok a _ ha).1
  obtain ⟨es, ep, t, S⟩ := S0.full fun p hp => I.isT (hL p hp)
  exact not_in_big S (I.isT hb) (by omega) fun tk => ⟨V.bl (!decide (k ∈ L.map (·.2))), H, I.tok tk, (by first | exact ⟨_, rfl⟩ | rfl), q⟩
end
end Hx
/-! What a lift makes new and takes away: pairs that are in one list and not in another; Land's moves. -/
namespace Hx
open PySem PySem.Spec PyProof.Rows L2 Evl
/-- the pairs of ps that are not among os -/
def lackOf (ps os : List (Int × Int)) : List (Int × Int) := ps.filter fun q => !decide (q ∈ os)
def RWithout (vs : List V) (H : Hp) (xs : List (Int × Int)) : Prop := ∃ (p o : Addr) (ps os : List (Int × Int)), vs = [.ref p, .ref o] ∧ PrL H p ps ∧ PrL H o os ∧ ps.length ≤ 2000 ∧ os.length ≤ 2000 ∧ xs = lackOf ps os
/-- the set at a holds the pairs os -/
def PairSet (P : Program) (w : World) (K : PySem.W.Frag) (H : Hp) (a : Addr) (os : List (Int × Int)) : Prop := ∃ L : List (Addr × List Int), H a = some (SetPO P w a L) ∧ (∀ p ∈ L, SqT K H p.1 (p.2.map V.int)) ∧ ∀ q : Int × Int, [q.1, q.2] ∈ L.map (·.2) ↔ q ∈ os
section
variable {P : Program} {w : World} {K : PySem.W.Frag} {σ : L2.St} {H : Hp} {ta tb te tl : TE} {D : Ends} {tz : TS} {ps os : List (Int × Int)} {p : Addr} {tas : TA}
theorem PairSet.ex {H' : Hp} {a : Addr} (e : Ex H H') (h : PairSet P w K H a os) : PairSet P w K H' a os := by
  obtain ⟨L, h1, h2, h3⟩ := h
  exact ⟨L, e _ _ h1, fun p m => ex_t e (h2 p m), h3⟩
/-- the pairs with their addresses, as lists of ints -/
theorem zip_keys {as : List Addr} (t : Tups H as os) : ∃ ks : List (Addr × List Int), as = ks.map Prod.fst ∧ ks.map Prod.snd = os.map (fun q => [q.1, q.2]) ∧ ∀ k ∈ ks, H k.1 = some (.tup (k.2.map V.int)) := by
  refine ⟨as.zip (os.map fun q => [q.1, q.2]), ?_, ?_, fun k hk => ?_⟩
  · rw [List.map_fst_zip (by rw [List.length_map, t.1]; exact Nat.le_refl _)]
  · rw [List.map_snd_zip (by rw [List.length_map, t.1]; exact Nat.le_refl _)]
  · obtain ⟨i, hi⟩ := List.getElem?_of_mem hk
    rw [List.getElem?_zip_eq_some, List.getElem?_map] at hi
    obtain ⟨q, hq, e⟩ := Option.map_eq_some_iff.mp hi.2
    have z := t.2 i k.1 q hi.1 hq
    rw [z, ← e]
    rfl
/-- known = set(others) -/
theorem q_setP {i : Nat} (h : EvA tas σ H [.ref p]) (hp : PrL H p os) (few : os.length ≤ 2000) (k : ∀ a H1, H a = none → Ex H H1 → PairSet P w K H1 a os → tz D (σ.set i (some (.ref a))) H1) : tSeq (tAsg (tCB (rSetP K P w) tas) (gName i)) tz D σ H :=
  h H (Ex.refl H) _ fun H1 e1 => by
    obtain ⟨as, ha, ta⟩ := hp.ex e1
    obtain ⟨ks, ea, eo, hk⟩ := zip_keys ta
    subst ea
    have len : ks.length = os.length := by
      have z := congrArg List.length eo
      rwa [List.length_map, List.length_map] at z
    refine ⟨p, ks, rfl, sq_of (by rw [ha, List.map_map]; rfl), fun q hq => st_of (hk q hq), by omega, fun a L na sub all => ?_⟩
    refine k a _ (fresh_back e1 na) (e1.trans (Ex.new na)) ⟨L, upd_same, fun q hq => st_of (Ex.new na _ _ (hk q (sub q hq))), fun q => ?_⟩
    have m : q ∈ os ↔ [q.1, q.2] ∈ ks.map Prod.snd := by
      rw [eo, List.mem_map]
      constructor
      · exact fun m => ⟨q, m, rfl⟩
      · rintro ⟨r, hr, e⟩
        have e1 : r.1 = q.1 := by injection e
        have e2 : r.2 = q.2 := by
          injection e with _ e
          injection e
        have : r = q := Prod.ext e1 e2
        exact this ▸ hr
    rw [m]
    constructor
    · intro z
      obtain ⟨r, hr, e⟩ := List.mem_map.mp z
      exact List.mem_map.mpr ⟨r, sub r hr, e⟩
    · intro z
      obtain ⟨r, hr, e⟩ := List.mem_map.mp z
      rw [← e]
      exact all r hr
/-- pair not in known -/
theorem rv_notInP {a b : Addr} {q : Int × Int} (h : PairSet P w K H a os) (hb : H b = some (.tup [.int q.1, .int q.2])) : RV (rNotInP K P w) (.ref b) (.ref a) H (.bl (!decide (q ∈ os))) := fun H1 e Q k => by
  obtain ⟨L, h1, h2, h3⟩ := h.ex e
  refine ⟨b, [q.1, q.2], a, L, rfl, rfl, h1, st_of (e _ _ hb), h2, ?_⟩
  rw [decide_eq_decide.mpr (h3 q)]
  exact k H1 (Ex.refl H1)
/-- [pair for pair in pairs if ..] -/
theorem ep_keep {j : Nat} {vs : List Nat} {tt : TT} (keep : Int × Int → Bool) (h : Ev tl σ H (.ref p)) (hp : PrL H p ps) (hz : ps.length ≤ 100000) (hw : ∀ x, wipe ((wipe σ vs).set j (some x)) vs = wipe σ vs) (hj : ∀ x, ((wipe σ vs).set j (some x))[j]? = some (some x))
    (ht : ∀ q b H1, Ex H H1 → H1 b = some (.tup [.int q.1, .int q.2]) → q ∈ ps → EvT tt ((wipe σ vs).set j (some (.ref b))) H1 (keep q)) : EvP (tLc (iList K tl) (gName j) tt (tVar j) vs) σ H (ps.filter keep) := fun H0 e0 Q k => h H0 e0 _ fun H1 e1 => by
  obtain ⟨as, ha, ta⟩ := hp
  have ha1 := e1 _ _ (e0 _ _ ha)
  refine ⟨p, rfl, ⟨_, sq_of ha1⟩, fun Dl hD => ?_⟩
  refine lc_list (xs := as.map V.ref) (fun n H' => Ex H1 H' ∧ ∃ bs, H' Dl = some (.lst (bs.map V.ref)) ∧ Tups H' bs ((ps.take n).filter keep)) ⟨Ex.new hD, [], upd_same, Tups.nil _⟩ (fun n H' _ q => sq_of (q.1 _ _ ha1)) ?_ ?_
  · rintro n x H' hx ⟨e2, bs, hb, tb⟩
    rw [List.getElem?_map] at hx
    obtain ⟨t, qa, rfl⟩ := Option.map_eq_some_iff.mp hx
    have hn : n < ps.length := by rw [← ta.1]; exact (List.getElem?_eq_some_iff.mp qa).1
    have hq : ps[n]? = some ps[n] := List.getElem?_eq_getElem hn
    have htup := e2 _ _ (e1 _ _ (e0 _ _ (ta.2 n t ps[n] qa hq)))
    have tk : ps.take (n + 1) = ps.take n ++ [ps[n]] := by rw [List.take_add_one, hq]; rfl
    refine ⟨hw _, ht ps[n] t H' ((e0.trans e1).trans e2) htup (List.getElem_mem hn) H' (Ex.refl _) _ fun H3 e3 => ?_⟩
    have hb3 := e3 _ _ hb
    cases kq : keep ps[n] with
    | false =>
      rw [if_neg Bool.false_ne_true]
      refine ⟨e2.trans e3, bs, hb3, ?_⟩
      rw [tk, List.filter_append, List.filter_cons, if_neg (by rw [kq]; exact Bool.false_ne_true), List.filter_nil, List.append_nil]
      exact tb.ex e3
    | true =>
      rw [if_pos rfl]
      have lb : bs.length ≤ 100000 := by
        have z := List.length_filter_le keep (ps.take n)
        rw [tb.1]
        rw [List.length_take] at z
        omega
      refine ev_var (hj _) H3 (Ex.refl _) _ fun H4 e4 => ⟨_, e4 _ _ hb3, by rw [List.length_map, sizeLine_eq]; omega, Ex.mut ((e2.trans e3).trans e4) hD, bs ++ [t], ?_, ?_⟩
      · rw [upd_same, List.map_append]
        rfl
      · rw [tk, List.filter_append, List.filter_cons, if_pos kq, List.filter_nil]
        exact (((tb.ex e3).ex e4).snoc (p := t) (q := ps[n]) (e4 _ _ (e3 _ _ htup))).upd (ys := bs.map V.ref ++ [.ref t]) (e4 _ _ hb3)
  · rintro H' ⟨e2, bs, hb, tb⟩
    refine k Dl H' bs (fresh_back e1 hD) (e1.trans e2) hb ?_
    rw [List.length_map, ta.1, List.take_of_length_le (Nat.le_refl _)] at tb
    exact tb
end
end Hx
namespace Hx
open PySem PySem.Spec PyProof.Rows L2 Evl
/-- xs[k] in xs[k] += e, k no less than nought -/
def rGetL : V → V → Hp → VK → Prop := fun o i H Q => ∃ (p : Addr) (xs : List V) (k : Nat) (v : V), o = .ref p ∧ i = .int (k : Int) ∧ H p = some (.lst xs) ∧ xs[k]? = some v ∧ Q v H
theorem get_listI {X : Cx} : PGet X rGetL := by
  intro pins s σ H o i ov iv Q I ro ri h
  obtain ⟨p, xs, k, v, rfl, rfl, hp, hv, q⟩ := h
  cases ro
  obtain ⟨t, rfl⟩ := ri
  obtain ⟨its, r, pl, hz⟩ := I.list (sq_of (K := X.K) hp)
  obtain ⟨u, hu, ru⟩ := r.get hv
  have lt := (List.getElem?_eq_some_iff.mp hv).1
  have n := line63
  exact wpAny_getItem_list pl.isList (by omega) (by omega) (by simpa using hu) ⟨v, H, I, ru, q⟩
section
variable {σ : L2.St} {H : Hp} {to ti te : TE} {D : Ends} {tz : TS}
/-- xs[k] += e and xs[k] -= e, of ints -/
theorem s_augL {p : Addr} {xs : List V} {k : Nat} {a b : Int} {f : Int → Int → Int} (h1 : Ev to σ H (.ref p)) (h2 : Ev ti σ H (.int (k : Int))) (h3 : Ev te σ H (.int b)) (hp : H p = some (.lst xs)) (ha : xs[k]? = some (.int a))
    (go : ∀ H1, Ex H H1 → D.nx σ (upd H1 p (.lst (xs.set k (.int (f a b)))))) : tAugS to ti te rGetL (ipI f) rSetL D σ H :=
  h1 H (Ex.refl H) _ fun H1 e1 => h2 H1 e1 _ fun H2 e2 => ⟨p, xs, k, .int a, rfl, rfl, e2 _ _ (e1 _ _ hp), ha, h3 H2 (e1.trans e2) _ fun H3 e3 => ⟨a, b, rfl, rfl, p, xs, (k : Int), k, rfl, rfl, e3 _ _ (e2 _ _ (e1 _ _ hp)), by
    have lt := (List.getElem?_eq_some_iff.mp ha).1
    unfold ixN
    rw [if_pos (by omega), if_pos (by omega), Int.toNat_natCast], go H3 ((e1.trans e2).trans e3)⟩⟩
theorem q_augL {p : Addr} {xs : List V} {k : Nat} {a b : Int} {f : Int → Int → Int} (h1 : Ev to σ H (.ref p)) (h2 : Ev ti σ H (.int (k : Int))) (h3 : Ev te σ H (.int b)) (hp : H p = some (.lst xs)) (ha : xs[k]? = some (.int a))
    (go : ∀ H1, Ex H H1 → tz D σ (upd H1 p (.lst (xs.set k (.int (f a b)))))) : tSeq (tAugS to ti te rGetL (ipI f) rSetL) tz D σ H := s_augL (D := { D with nx := tz D }) h1 h2 h3 hp ha go
end
end Hx
namespace Hx
open PySem PySem.Spec PyProof.Rows L2 Evl
/-- at most n (n - 1) / 2 sights -/
theorem sights_half (land : List Int) : 2 * (sightsOf land).length ≤ land.length * land.length - land.length := by
  have key : ∀ n, n ≤ land.length → 2 * (flatP (fun k => aheadOf land (k : Int)) n).length + n * n + n ≤ 2 * n * land.length := by
    intro n
    induction n with
    | zero => intro _; simp [flatP]
    | succ n ih =>
      intro le
      have z := ih (by omega)
      have w := aheadN_len land (n : Int) ((land.length : Int) - ((n : Int) + 1)).toNat
      rw [flatP_succ, List.length_append, List.length_map]
      have w2 : (aheadOf land (n : Int)).length + n + 1 ≤ land.length := by
        unfold aheadOf
        omega
      have e : 2 * (n + 1) * land.length = 2 * n * land.length + 2 * land.length := by grind
      have e2 : (n + 1) * (n + 1) = n * n + 2 * n + 1 := by grind
      omega
  have z := key land.length (Nat.le_refl _)
  unfold sightsOf
  rw [Int.toNat_natCast]
  have e : 2 * land.length * land.length = 2 * (land.length * land.length) := by grind
  omega
theorem sights_few {land : List Int} (h : land.length ≤ 60) : (sightsOf land).length ≤ 2000 := by
  have z := sights_half land
  have w : land.length * land.length ≤ 60 * 60 := Nat.mul_le_mul h h
  omega
/-- the land after a lift -/
def liftL (ns : List Int) (a : Nat) (b : Int) : List Int := ns.set a (cel ns (a : Int) + b)
theorem liftL_len (ns : List Int) (a : Nat) (b : Int) : (liftL ns a b).length = ns.length := List.length_set ..
/-- the answer of a lift: a new pair of new lists, the heights' list changed; what Hb holds stays -/
def RetMoved (Hb H : Hp) (hp : Addr) (ns : List Int) (a : Nat) (b : Int) (Q : VK) : Prop := ∀ t x y H', H t = none → H x = none → H y = none → x ≠ y → t ≠ x → t ≠ y → Ex Hb H' → H' hp = some (.lst ((liftL ns a b).map V.int)) → H' t = some (.tup [.ref x, .ref y]) →
  PrL H' x (lackOf (sightsOf (liftL ns a b)) (sightsOf ns)) → PrL H' y (lackOf (sightsOf ns) (sightsOf (liftL ns a b))) → Q (.ref t) H'
def spMoved (C : Addr) : Sp := fun vs H Q _ => ∃ (p dx hp lp : Addr) (ns : List Int) (a : Nat) (b : Int) (Hb : Hp), vs = [.ref p, .int (a : Int), .int b] ∧ H p = some (.ins C dx (fldsL hp lp)) ∧ H hp = some (.lst (ns.map V.int)) ∧ a < ns.length ∧ ns.length ≤ 60 ∧ Hb hp = none ∧ Ex Hb H ∧ RetMoved Hb H hp ns a b Q
end Hx
namespace Hx
open PySem PySem.Spec PyProof.Rows L2 Evl
theorem PrL.set {H : Hp} {x hp : Addr} {ps : List (Int × Int)} {xs ys : List V} (h : PrL H x ps) (hx : x ≠ hp) (hh : H hp = some (.lst xs)) : PrL (upd H hp (.lst ys)) x ps := by
  obtain ⟨as, h1, h2⟩ := h
  exact ⟨as, by rw [upd_ne hx]; exact h1, h2.upd hh⟩
/-- what is free in a heap that goes on was free before -/
theorem free_set {H H1 : Hp} {hp t : Addr} {o : HO} (e : Ex H H1) (h : upd H1 hp o t = none) : H t = none := by
  by_cases z : t = hp
  · rw [z, upd_same] at h
    cases h
  · rw [upd_ne z] at h
    exact fresh_back e h
section
variable {σ : L2.St} {H : Hp} {te1 te2 : TE} {D : Ends} {ps1 ps2 : List (Int × Int)}
/-- return (.., ..), of new lists of pairs -/
theorem s_ret2P (h1 : EvP te1 σ H ps1) (h2 : ∀ H1, Ex H H1 → EvP te2 σ H1 ps2) (k : ∀ t x y H1, H t = none → H x = none → H y = none → x ≠ y → t ≠ x → t ≠ y → Ex H H1 → H1 t = some (.tup [.ref x, .ref y]) → PrL H1 x ps1 → PrL H1 y ps2 → D.rt (.ref t) H1) :
    tRet (tTup (tCons te1 (tCons te2 tNil))) D σ H :=
  h1 H (Ex.refl H) _ fun x H1 as1 nx e1 hx tx => h2 H1 e1 H1 (Ex.refl H1) _ fun y H2 as2 ny e2 hy ty => ⟨sz_of (Nat.le_of_ble_eq_true rfl), fun t nt => by
    have xy : x ≠ y := fun z => by rw [z] at hx; rw [hx] at ny; cases ny
    have tx' : t ≠ x := fun z => by rw [z, e2 _ _ hx] at nt; cases nt
    have ty' : t ≠ y := fun z => by rw [z, hy] at nt; cases nt
    have e3 : Ex H2 (upd H2 t (.tup [.ref x, .ref y])) := Ex.new nt
    exact k t x y _ (fresh_back (e1.trans e2) nt) nx (fresh_back e1 ny) xy tx' ty' ((e1.trans e2).trans e3) upd_same ((PrL.ex (e2.trans e3) ⟨as1, hx, tx⟩)) (PrL.ex e3 ⟨as2, hy, ty⟩)⟩
end
end Hx
namespace Hx
open PySem PySem.Spec PyProof.Rows L2 Evl
/-- the answer of a lift and what it leaves: as RetMoved, the lifts' list with one more, or one less -/
def RetLift (Hb H : Hp) (hp lp : Addr) (ns : List Int) (a : Nat) (b : Int) (lifts : List (Int × Int)) (Q : VK) : Prop := ∀ t x y H', H t = none → H x = none → H y = none → x ≠ y → t ≠ x → t ≠ y → Ex Hb H' → H' hp = some (.lst ((liftL ns a b).map V.int)) → PrL H' lp lifts →
  H' t = some (.tup [.ref x, .ref y]) → PrL H' x (lackOf (sightsOf (liftL ns a b)) (sightsOf ns)) → PrL H' y (lackOf (sightsOf ns) (sightsOf (liftL ns a b))) → Q (.ref t) H'
def spLift (C N T : Addr) : Sp := fun vs H Q E => ∃ (p dx hp lp : Addr) (ns : List Int) (lifts : List (Int × Int)), H p = some (.ins C dx (fldsL hp lp)) ∧ H hp = some (.lst (ns.map V.int)) ∧ PrL H lp lifts ∧ hp ≠ lp ∧ ns.length ≤ 60 ∧ lifts.length ≤ 1000 ∧
  ((∃ (a : Nat) (b : Int) (Hb : Hp), vs = [.ref p, .int (a : Int), .int b] ∧ a < ns.length ∧ inB (cel ns (a : Int) + b) = true ∧ Hb hp = none ∧ Hb lp = none ∧ Ex Hb H ∧ RetLift Hb H hp lp ns a b (lifts ++ [((a : Int), b)]) Q) ∨
   (∃ x y : V, vs = [.ref p, x, y] ∧ BadPl H ns.length x ∧ ∀ H', Ex H H' → E (.ref N) none H') ∨
   (∃ (a : Nat) (y : V), vs = [.ref p, .int (a : Int), y] ∧ a < ns.length ∧ (NoInt H y ∨ ∃ b : Int, y = .int b ∧ inB (cel ns (a : Int) + b) = false) ∧ ∀ H', Ex H H' → E (.ref T) none H'))
def spBack (C U : Addr) : Sp := fun vs H Q E => ∃ (p dx hp lp : Addr) (ns : List Int) (lifts : List (Int × Int)), vs = [.ref p] ∧ H p = some (.ins C dx (fldsL hp lp)) ∧ H hp = some (.lst (ns.map V.int)) ∧ PrL H lp lifts ∧ hp ≠ lp ∧ ns.length ≤ 60 ∧ lifts.length ≤ 1000 ∧
  ((∃ (l0 : List (Int × Int)) (a : Nat) (b : Int) (Hb : Hp), lifts = l0 ++ [((a : Int), b)] ∧ a < ns.length ∧ Hb hp = none ∧ Hb lp = none ∧ Ex Hb H ∧ RetLift Hb H hp lp ns a (-b) l0 Q) ∨ (lifts = [] ∧ ∀ H', Ex H H' → E (.ref U) none H'))
/-- all but one address -/
def offH (H : Hp) (a : Addr) : Hp := fun b => if b = a then none else H b
theorem offH_none (H : Hp) (a : Addr) : offH H a a = none := if_pos rfl
theorem offH_ex (H : Hp) (a : Addr) : Ex (offH H a) H := fun b o h => by
  unfold offH at h
  split at h
  · cases h
  · exact h
theorem offH_at {H : Hp} {a b : Addr} {o : HO} (ne : b ≠ a) (h : H b = some o) : offH H a b = some o := by
  unfold offH
  rw [if_neg ne]
  exact h
theorem offH_pr {H : Hp} {a x : Addr} {ps : List (Int × Int)} {xs : List V} (h : PrL H x ps) (ne : x ≠ a) (ha : H a = some (.lst xs)) : PrL (offH H a) x ps := by
  obtain ⟨as, h1, h2⟩ := h
  refine ⟨as, offH_at ne h1, h2.1, fun i b q e1 e2 => ?_⟩
  have z := h2.2 i b q e1 e2
  exact offH_at (fun w => by rw [w, ha] at z; cases z) z
section
variable {K : PySem.W.Frag} {σ : L2.St} {H : Hp} {to tx ty : TE} {D : Ends} {C : Addr} {m : Str} {E : XK}
/-- return self._moved(..) -/
theorem ret_moved {p dx hp lp : Addr} {ns : List Int} {a : Nat} {b : Int} (ho : Ev to σ H (.ref p)) (ha : Ev tx σ H (.int (a : Int))) (hb : Ev ty σ H (.int b)) (hx : H p = some (.ins C dx (fldsL hp lp))) (nm : (fldsL hp lp).lookup m = none) (hh : H hp = some (.lst (ns.map V.int))) (lt : a < ns.length)
    (few : ns.length ≤ 60) (k : RetMoved (offH H hp) H hp ns a b D.rt) : tRet (tMeth C m (spMoved C) [] E to (tCons tx (tCons ty tNil))) D σ H :=
  ho H (Ex.refl H) _ fun H1 e1 => ⟨p, dx, fldsL hp lp, rfl, e1 _ _ hx, nm, ha H1 e1 _ fun H2 e2 => hb H2 (e1.trans e2) _ fun H3 e3 => by
    have e := (e1.trans e2).trans e3
    exact ⟨p, dx, hp, lp, ns, a, b, offH H hp, rfl, e _ _ hx, e _ _ hh, lt, few, offH_none H hp, (offH_ex H hp).trans e, fun t x y H' nt nx ny => k t x y H' (fresh_back e nt) (fresh_back e nx) (fresh_back e ny)⟩⟩
end
end Hx
namespace Hx
open PySem PySem.Spec PyProof.Rows L2 Evl
section
variable {K : PySem.W.Frag} {σ : L2.St} {H : Hp} {to : TE} {D : Ends} {tz : TS} {l : Addr} {ls : List (Int × Int)} {a b : Int}
/-- place, by = lifts.pop() -/
theorem s_popP {i j : Nat} (ho : Ev to σ H (.ref l)) (hl : PrL H l (ls ++ [(a, b)])) (k : ∀ H1 xs, Ex H H1 → PrL (upd H1 l (.lst xs)) l ls → D.nx ((σ.set i (some (.int a))).set j (some (.int b))) (upd H1 l (.lst xs))) :
    tAsg (tBM0 K "list" rPop to) (gTup K 2 (gCons (gName i) (gCons (gName j) gNil))) D σ H :=
  ho H (Ex.refl H) _ fun H1 e1 => by
    obtain ⟨as, h1, h2⟩ := hl.ex e1
    have len := h2.1
    rw [List.length_append, List.length_cons, List.length_nil] at len
    obtain ⟨as0, u, rfl⟩ : ∃ as0 u, as = as0 ++ [u] := ⟨as.dropLast, as.getLast (fun z => by rw [z] at len; simp at len), (List.dropLast_concat_getLast _).symm⟩
    rw [List.length_append, List.length_cons, List.length_nil] at len
    have hu : H1 u = some (.tup [.int a, .int b]) := h2.2 as0.length u (a, b) (by simp) (by
      rw [show as0.length = ls.length by omega]
      simp)
    have hu2 : upd H1 l (.lst (as0.map V.ref)) u = some (.tup [.int a, .int b]) := by
      rw [upd_ne (fun z => by rw [z, h1] at hu; cases hu)]
      exact hu
    have dl : ((as0 ++ [u]).map V.ref).dropLast = as0.map V.ref := by rw [List.map_append]; exact List.dropLast_concat
    have t0 : Tups H1 as0 ls := ⟨by omega, fun i c q x y => h2.2 i c q (by rw [List.getElem?_append_left (List.getElem?_eq_some_iff.mp x).1]; exact x) (by rw [List.getElem?_append_left (List.getElem?_eq_some_iff.mp y).1]; exact y)⟩
    refine ⟨.inl ⟨rfl, _, sq_of h1⟩, l, _, .ref u, rfl, rfl, h1, by simp, ?_⟩
    rw [dl]
    exact ⟨u, _, rfl, st_of hu2, rfl, _, _, rfl, _, _, rfl, rfl, k H1 (as0.map V.ref) e1 ⟨as0, upd_same, t0.upd h1⟩⟩
theorem q_popP {i j : Nat} (ho : Ev to σ H (.ref l)) (hl : PrL H l (ls ++ [(a, b)])) (k : ∀ H1 xs, Ex H H1 → PrL (upd H1 l (.lst xs)) l ls → tz D ((σ.set i (some (.int a))).set j (some (.int b))) (upd H1 l (.lst xs))) :
    tSeq (tAsg (tBM0 K "list" rPop to) (gTup K 2 (gCons (gName i) (gCons (gName j) gNil)))) tz D σ H := s_popP (D := { D with nx := tz D }) ho hl k
end
end Hx
namespace Hx
open PySem PySem.Spec PyProof.Rows L2 Evl
/-- the truth of a list of pairs -/
theorem et_truP {K : PySem.W.Frag} {σ : L2.St} {H : Hp} {te : TE} {p : Addr} {ls : List (Int × Int)} (h : Ev te σ H (.ref p)) (hp : PrL H p ls) : EvT (fun σ H Q => te σ H fun x H' => ∃ k, TruV K x H' k ∧ Q k H') σ H (!ls.isEmpty) := fun H1 e1 Q q =>
  h H1 e1 _ fun H2 e2 => by
    obtain ⟨as, h1, h2⟩ := hp.ex (e1.trans e2)
    have z : (as.map V.ref).isEmpty = ls.isEmpty := by
      have len := h2.1
      cases as <;> cases ls <;> simp_all
    exact ⟨!ls.isEmpty, .inl ⟨_, sq_of h1, by rw [z]⟩, q H2 e2⟩
end Hx
namespace Hx
open PySem PySem.Spec PyProof.Rows L2 Evl
/-- the law's own sights, of lands of up to 60 hills -/
def RSightsBy (K : PySem.W.Frag) (vs : List V) (H : Hp) (xs : List (Int × Int)) : Prop := ∃ (l : Addr) (land : List Int), vs = [.ref l] ∧ land.length ≤ 60 ∧ SqL K H l (land.map V.int) ∧ xs = sightsOf land
end Hx
namespace Hx
open PySem PySem.Spec PyProof.Rows L2 Evl
/-- a pair as a dict's key -/
def pairK (q : Int × Int) : List Key := [.inl q.1, .inl q.2]
theorem pairK_inj {q r : Int × Int} : pairK q = pairK r ↔ q = r := by
  constructor
  · intro h
    have h1 : (Sum.inl q.1 : Key) = .inl r.1 := by injection h
    have h2 : (Sum.inl q.2 : Key) = .inl r.2 := by
      injection h with _ h
      injection h
    exact Prod.ext (Sum.inl.inj h1) (Sum.inl.inj h2)
  · intro h
    rw [h]
section
variable {σ : L2.St} {H : Hp} {ty td tv : TE} {D : Ends} {tz : TS}
/-- d[pair] = v -/
theorem s_dputP {d u : Addr} {q : Int × Int} {kvs : List (List Key × V)} {v : V} (hv : Ev tv σ H v) (hd : Ev td σ H (.ref d)) (hy : Ev ty σ H (.ref u)) (h1 : H d = some (.dT kvs)) (h2 : H u = some (.tup [.int q.1, .int q.2])) (few : kvs.length < 100000)
    (k : ∀ H1, Ex H H1 → D.nx σ (upd H1 d (.dT (putK kvs (pairK q) v)))) : sDPut td ty tv D σ H :=
  hv H (Ex.refl H) _ fun H1 e1 => hd H1 e1 _ fun H2 e2 => hy H2 (e1.trans e2) _ fun H3 e3 => by
    have e := (e1.trans e2).trans e3
    have z : (100000 : Nat) ≤ sizeLine := by decide
    exact ⟨d, _, rfl, DPut.t (k := pairK q) (e _ _ h1) (e _ _ h2) (by omega), k H3 e⟩
/-- pair not in d -/
theorem et_dnotP {d u : Addr} {q : Int × Int} {kvs : List (List Key × V)} (hy : Ev ty σ H (.ref u)) (hd : Ev td σ H (.ref d)) (h1 : H d = some (.dT kvs)) (h2 : H u = some (.tup [.int q.1, .int q.2])) : EvT (tB (tDNotIn ty td)) σ H (!(valV kvs (pairK q)).isSome) := fun H0 e0 Q k =>
  hy H0 e0 _ fun H1 e1 => hd H1 (e0.trans e1) _ fun H2 e2 => by
    have e := (e0.trans e1).trans e2
    exact ⟨d, _, rfl, DGet.t (k := pairK q) (e _ _ h1) (e _ _ h2), _, rfl, k H2 (e1.trans e2)⟩
theorem q_dnew {i : Nat} (k : ∀ d H1, H d = none → Ex H H1 → H1 d = some (.dT []) → tz D (σ.set i (some (.ref d))) H1) : tSeq (tAsg tDNewT (gName i)) tz D σ H := fun d nd => k d _ nd (Ex.new nd) upd_same
end
end Hx
namespace Hx
open PySem PySem.Spec PyProof.Rows L2 Evl
theorem map_ref_inj : ∀ {as bs : List Addr}, as.map V.ref = bs.map V.ref → as = bs
  | [], [], _ => rfl
  | [], _ :: _, h => by cases h
  | _ :: _, [], h => by cases h
  | a :: as, b :: bs, h => by
    rw [List.map_cons, List.map_cons] at h
    have h1 : V.ref a = V.ref b := by injection h
    have h2 : as.map V.ref = bs.map V.ref := by injection h
    rw [V.ref.inj h1, map_ref_inj h2]
end Hx
namespace Hx
open PySem PySem.Spec PyProof.Rows L2 Evl
def RSeen (C : Addr) (vs : List V) (H : Hp) (xs : List (Int × Int)) : Prop := ∃ (p dx hp lp : Addr) (ns : List Int), vs = [.ref p] ∧ H p = some (.ins C dx (fldsL hp lp)) ∧ H hp = some (.lst (ns.map V.int)) ∧ ns.length ≤ 60 ∧ xs = sightsOf ns
/-- land.seen() -/
theorem ep_seen {σ : L2.St} {H : Hp} {to : TE} {E : XK} {C : Addr} {m : Str} {p dx hp lp : Addr} {ns : List Int} (h : Ev to σ H (.ref p)) (hx : H p = some (.ins C dx (fldsL hp lp))) (hh : H hp = some (.lst (ns.map V.int))) (few : ns.length ≤ 60) (hm : (fldsL hp lp).lookup m = none) :
    EvP (tMeth C m (spP (RSeen C)) [] E to tNil) σ H (sightsOf ns) := fun H1 e1 Q q =>
  h H1 e1 _ fun H2 e2 => ⟨p, dx, fldsL hp lp, rfl, e2 _ _ (e1 _ _ hx), hm, sightsOf ns, ⟨p, dx, hp, lp, ns, rfl, e2 _ _ (e1 _ _ hx), e2 _ _ (e1 _ _ hh), few, rfl⟩, fun r H3 as nr e3 hr tr => q r H3 as (fresh_back e2 nr) (e2.trans e3) hr tr⟩
end Hx
namespace Hx
open PySem PySem.Spec PyProof.Rows L2 Evl
/-- text * 1 -/
def rMul1 : R2 := fun x y H Q => ∃ z : Str, x = .str z ∧ y = .int 1 ∧ Q (.str z) H
theorem op_mul1 {X : Cx} : OpR X (binaryOp .Mult) rMul1 := by
  intro pins s σ H x y v u Q I rx ry h
  obtain ⟨z, rfl, rfl, q⟩ := h
  obtain ⟨t, rfl⟩ := rx
  obtain ⟨t', rfl⟩ := ry
  refine PySem.P.mul_str (by decide) (fun _ h => absurd h (by simp)) (fun _ h => absurd h (by simp)) ?_
  rw [if_neg (by decide), if_pos (by rfl)]
  exact ⟨.str z, H, I.tok _, ⟨_, rfl⟩, q⟩
theorem rv_mul1 {H : Hp} {z : Str} : RV rMul1 (.str z) (.int 1) H (.str z) := fun H1 _ Q q => ⟨z, rfl, rfl, q H1 (Ex.refl H1)⟩
end Hx
namespace Hx
open PySem PySem.Spec PyProof.Rows L2 Evl
/-- why a deed is refused, and with what word; what it is else -/
def spTold (C : Addr) : Sp := fun vs H Q _ => ∃ (p dx hp lp : Addr) (ns : List Int) (lifts : List (Int × Int)), H p = some (.ins C dx (fldsL hp lp)) ∧ H hp = some (.lst (ns.map V.int)) ∧ PrL H lp lifts ∧ hp ≠ lp ∧ ns.length ≤ 60 ∧ lifts.length ≤ 1000 ∧
  ((∃ (a : Nat) (b : Int) (Hb : Hp), vs = [.ref p, .int (a : Int), .int b] ∧ a < ns.length ∧ inB (cel ns (a : Int) + b) = true ∧ Hb hp = none ∧ Hb lp = none ∧ Ex Hb H ∧ RetLift Hb H hp lp ns a b (lifts ++ [((a : Int), b)]) Q) ∨
   (∃ x y : V, vs = [.ref p, x, y] ∧ BadPl H ns.length x ∧ x ≠ .non ∧ ∀ H', Ex H H' → Q (.str "no hill") H') ∨
   (∃ (a : Nat) (y : V), vs = [.ref p, .int (a : Int), y] ∧ a < ns.length ∧ (NoInt H y ∨ ∃ b : Int, y = .int b ∧ inB (cel ns (a : Int) + b) = false) ∧ ∀ H', Ex H H' → Q (.str "too high") H') ∨
   (∃ (l0 : List (Int × Int)) (a : Nat) (b : Int) (Hb : Hp) (y : V), vs = [.ref p, .non, y] ∧ lifts = l0 ++ [((a : Int), b)] ∧ a < ns.length ∧ Hb hp = none ∧ Hb lp = none ∧ Ex Hb H ∧ RetLift Hb H hp lp ns a (-b) l0 Q) ∨
   (∃ y : V, vs = [.ref p, .non, y] ∧ lifts = [] ∧ ∀ H', Ex H H' → Q (.str "nothing done") H'))
section
variable {σ : L2.St} {H : Hp} {to tx ty : TE} {D : Ends} {C : Addr} {m : Str} {E : L2.St → XK} {sp : Sp} {p dx hp lp : Addr}
theorem t_meth0 (ho : Ev to σ H (.ref p)) (hx : H p = some (.ins C dx (fldsL hp lp))) (nm : (fldsL hp lp).lookup m = none) (k : ∀ H1, Ex H H1 → sp [.ref p] H1 D.rt (E σ)) : tRet (tMethS C m sp E to tNil) D σ H :=
  ho H (Ex.refl H) _ fun H1 e1 => ⟨p, dx, fldsL hp lp, rfl, e1 _ _ hx, nm, k H1 e1⟩
theorem t_meth2 {x y : V} (ho : Ev to σ H (.ref p)) (h1 : Ev tx σ H x) (h2 : Ev ty σ H y) (hx : H p = some (.ins C dx (fldsL hp lp))) (nm : (fldsL hp lp).lookup m = none) (k : ∀ H1, Ex H H1 → sp [.ref p, x, y] H1 D.rt (E σ)) : tRet (tMethS C m sp E to (tCons tx (tCons ty tNil))) D σ H :=
  ho H (Ex.refl H) _ fun H1 e1 => ⟨p, dx, fldsL hp lp, rfl, e1 _ _ hx, nm, h1 H1 e1 _ fun H2 e2 => h2 H2 (e1.trans e2) _ fun H3 e3 => k H3 ((e1.trans e2).trans e3)⟩
theorem RetLift.ex {Hb H1 : Hp} {ns : List Int} {a : Nat} {b : Int} {ls : List (Int × Int)} {Q : VK} (e : Ex H H1) (h : RetLift Hb H hp lp ns a b ls Q) : RetLift Hb H1 hp lp ns a b ls Q := fun t x y H' nt nx ny => h t x y H' (fresh_back e nt) (fresh_back e nx) (fresh_back e ny)
end
end Hx
namespace Hx
open PySem PySem.Spec PyProof.Rows L2 Evl
theorem bad_split {H : Hp} {n : Nat} {x : V} (h : BadPl H n x) : (∃ i : Int, x = .int i ∧ (i < 0 ∨ (n : Int) ≤ i)) ∨ NoInt H x := by
  cases h with
  | int i h => exact .inl ⟨i, rfl, h⟩
  | non => exact .inr .non
  | bl b => exact .inr (.bl b)
  | str s => exact .inr (.str s)
  | tup a xs h => exact .inr (.tup a xs h)
  | lst a xs h => exact .inr (.lst a xs h)
/-- what a deed makes due: a new pair of new lists -/
def RetDue (H : Hp) (ns : List Int) (a : Nat) (b : Int) (Q : VK) : Prop := ∀ t x y H', H t = none → H x = none → H y = none → x ≠ y → t ≠ x → t ≠ y → Ex H H' → H' t = some (.tup [.ref x, .ref y]) →
  PrL H' x (lackOf (sightsOf (liftL ns a b)) (sightsOf ns)) → PrL H' y (lackOf (sightsOf ns) (sightsOf (liftL ns a b))) → Q (.ref t) H'
def spDue : Sp := fun vs H Q _ => ∃ (hp : Addr) (ns : List Int), H hp = some (.lst (ns.map V.int)) ∧ ns.length ≤ 60 ∧
  ((∃ (a : Nat) (b : Int), vs = [.ref hp, .int (a : Int), .int b] ∧ a < ns.length ∧ inB (cel ns (a : Int) + b) = true ∧ RetDue H ns a b Q) ∨
   (∃ x y : V, vs = [.ref hp, x, y] ∧ BadPl H ns.length x ∧ ∀ H', Ex H H' → Q (.str "no hill") H') ∨
   (∃ (a : Nat) (y : V), vs = [.ref hp, .int (a : Int), y] ∧ a < ns.length ∧ (NoInt H y ∨ ∃ b : Int, y = .int b ∧ inB (cel ns (a : Int) + b) = false) ∧ ∀ H', Ex H H' → Q (.str "too high") H'))
section
variable {K : PySem.W.Frag} {σ : L2.St} {H : Hp} {te : TE} {ta : TA} {E : XK}
theorem ep_sightsBy {l : Addr} {land : List Int} (h : EvA ta σ H [.ref l]) (hs : SqL K H l (land.map V.int)) (few : land.length ≤ 60) : EvP (tCall (spP (RSightsBy K)) [] E ta) σ H (sightsOf land) := ep_cal h fun _ e => ⟨l, land, rfl, few, ex_l e hs, rfl⟩
theorem ep_sightsByN {land : List Int} (h : EvL te σ H (land.map V.int)) (few : land.length ≤ 60) : EvP (tCall (spP (RSightsBy K)) [] E (tCons te tNil)) σ H (sightsOf land) := fun H1 e1 Q q =>
  h H1 e1 _ fun p H2 np e2 hp => ⟨sightsOf land, ⟨p, land, rfl, few, sq_of hp, rfl⟩, fun r H3 as nr e3 hr tr => q r H3 as (fresh_back e2 nr) (e2.trans e3) hr tr⟩
theorem given_lift (ns : List Int) {a : Nat} (lt : a < ns.length) (b : Int) : given ns.length (fun _ => true) (fun k => .int (cel ns (k : Int) + b * (if decide (V.int (k : Int) = V.int (a : Int)) then 1 else 0))) = (liftL ns a b).map V.int := by
  rw [given_all (g := fun k => cel ns (k : Int) + b * (if decide (V.int (k : Int) = V.int (a : Int)) then 1 else 0)) (fun _ => rfl)]
  congr 1
  unfold liftL
  refine List.ext_getElem? fun i => ?_
  rw [List.getElem?_map, List.getElem?_set]
  by_cases h : i < ns.length
  · rw [List.getElem?_range h]
    have ci : ns[i]? = some (cel ns (i : Int)) := by
      unfold cel
      rw [List.getD_eq_getElem?_getD, Int.toNat_natCast, List.getElem?_eq_getElem h]
      rfl
    by_cases e : a = i
    · subst e
      rw [if_pos rfl, if_pos h]
      simp
    · rw [if_neg e, ci]
      have z : ¬ ((i : Int) = (a : Int)) := fun z => e (by omega)
      simp [z]
  · rw [List.getElem?_eq_none (by rw [List.length_range]; omega)]
    have ne : ¬ a = i := by omega
    rw [if_neg ne, List.getElem?_eq_none (by omega)]
    rfl
end
end Hx
namespace Hx
open PySem PySem.Spec PyProof.Rows L2 Evl
/-- evaluates to something of which P is true -/
def EvX (te : TE) (σ : L2.St) (H : Hp) (P : V → Hp → Prop) : Prop := ∀ H1, Ex H H1 → ∀ Q : VK, (∀ x H2, Ex H1 H2 → P x H2 → Q x H2) → te σ H1 Q
section
variable {K : PySem.W.Frag} {σ : L2.St} {H : Hp} {te te1 te2 ti : TE} {ta : TA} {D : Ends} {P : List V → Hp → Prop} {R R1 R2 : V → Hp → Prop}
theorem evx_of {v : V} (h : Ev te σ H v) (r : ∀ H1, Ex H H1 → R v H1) : EvX te σ H R := fun H1 e1 Q q => h H1 e1 _ fun H2 e2 => q v H2 e2 (r H2 (e1.trans e2))
theorem evx_ix {i : Int} (h : EvAX ta σ H P) (hl : ∀ vs H2, P vs H2 → vs.length ≤ 100000) (hi : Ev ti σ H (.int i)) (hv : ∀ vs H2, P vs H2 → ∃ v, atI vs i = some v ∧ ∀ H3, Ex H2 H3 → R v H3) : EvX (tOp (rIxL K) (tLst ta) ti) σ H R := fun H1 e1 Q q =>
  h H1 e1 _ fun vs H2 e2 p => ⟨sz_of (hl vs H2 p), fun r nr => hi (upd H2 r (.lst vs)) (e1.trans (e2.trans (Ex.new nr))) _ fun H3 e3 => by
    obtain ⟨v, hv, hr⟩ := hv vs H2 p
    exact ⟨r, vs, i, v, rfl, rfl, sq_of (e3 _ _ upd_same), hv, q v H3 (e2.trans ((Ex.new nr).trans e3)) (hr H3 ((Ex.new nr).trans e3))⟩⟩
/-- return (.., ..) -/
theorem s_ret2X (h1 : EvX te1 σ H R1) (h2 : ∀ H1, Ex H H1 → EvX te2 σ H1 R2) (st : ∀ x H1 H2, Ex H1 H2 → R1 x H1 → R1 x H2) (st2 : ∀ x H1 H2, Ex H1 H2 → R2 x H1 → R2 x H2) (k : ∀ t x y H1, H t = none → Ex H H1 → H1 t = some (.tup [x, y]) → R1 x H1 → R2 y H1 → D.rt (.ref t) H1) :
    tRet (tTup (tCons te1 (tCons te2 tNil))) D σ H :=
  h1 H (Ex.refl H) _ fun x H1 e1 r1 => h2 H1 e1 H1 (Ex.refl H1) _ fun y H2 e2 r2 => ⟨sz_of (Nat.le_of_ble_eq_true rfl), fun t nt => k t x y _ (fresh_back (e1.trans e2) nt) ((e1.trans e2).trans (Ex.new nt)) upd_same (st _ _ _ (e2.trans (Ex.new nt)) r1) (st2 _ _ _ (Ex.new nt) r2)⟩
end
/-- a deed's place and height: none, no place, or a place and some height or what is none -/
def DeedOk (n : Nat) (x y : V) (H : Hp) : Prop := (x = .non ∧ ∃ b : Int, y = .int b) ∨ (x ≠ .non ∧ BadPl H n x) ∨ ∃ a : Nat, x = .int (a : Int) ∧ a < n ∧ ((∃ b : Int, y = .int b) ∨ NoInt H y)
def spDeed : Sp := fun vs H Q _ => ∃ (hp : Addr) (ns : List Int) (c : Int), vs = [.int c, .ref hp] ∧ H hp = some (.lst (ns.map V.int)) ∧ 1 ≤ ns.length ∧ ns.length ≤ 60 ∧ ∀ t x y H', H t = none → Ex H H' → H' t = some (.tup [x, y]) → DeedOk ns.length x y H' → Q (.ref t) H'
end Hx
namespace Hx
open PySem PySem.Spec PyProof.Rows L2 Evl
theorem dec_eqI2 {i j : Int} : decide (V.int i = V.int j) = decide (i = j) := by
  by_cases h : i = j
  · rw [decide_eq_true h, decide_eq_true (congrArg V.int h)]
  · rw [decide_eq_false h, decide_eq_false fun z => h (V.int.inj z)]
end Hx
namespace Hx
open PySem PySem.Spec PyProof.Rows L2 Evl
def RStands (C : Addr) (vs : List V) (H : Hp) (v : V) : Prop := ∃ (p dx hp lp l : Addr) (ns : List Int), vs = [.ref p, .ref l] ∧ H p = some (.ins C dx (fldsL hp lp)) ∧ H hp = some (.lst (ns.map V.int)) ∧ H l = some (.lst (ns.map V.int)) ∧ ns.length ≤ 60 ∧ v = .bl true
section
variable {K : PySem.W.Frag} {σ : L2.St} {H : Hp} {ta tb te : TE} {ps qs : List (Int × Int)}
theorem ev_opPP {r : R2} {z : V} (ha : EvP ta σ H ps) (hb : ∀ H1, Ex H H1 → EvP tb σ H1 qs) (hr : ∀ p q H1, PrL H1 p ps → PrL H1 q qs → Ex H H1 → RV r (.ref p) (.ref q) H1 z) : Ev (tOp r ta tb) σ H z := fun H1 e Q k =>
  ha H1 e _ fun p H2 as _ e2 h2 t2 => hb H2 (e.trans e2) H2 (Ex.refl _) _ fun q H3 bs _ e3 h3 t3 => hr p q H3 (PrL.ex e3 ⟨as, h2, t2⟩) ⟨bs, h3, t3⟩ ((e.trans e2).trans e3) H3 (Ex.refl _) _ fun H4 e4 => k H4 ((e2.trans e3).trans e4)
/-- xs[:-1], of pairs -/
theorem ep_init {p : Addr} {q : Int × Int} {tk : TE} (h : Ev te σ H (.ref p)) (hk : Ev tk σ H (.int (-1))) (hp : PrL H p (ps ++ [q])) : EvP (tSl (rSlL K) te tNoPart (tPart tk)) σ H ps := fun H1 e1 Q k => by
  obtain ⟨as, h1, t1⟩ := hp
  have len := t1.1
  rw [List.length_append, List.length_cons, List.length_nil] at len
  obtain ⟨as0, u, rfl⟩ : ∃ as0 u, as = as0 ++ [u] := ⟨as.dropLast, as.getLast (fun z => by rw [z] at len; simp at len), (List.dropLast_concat_getLast _).symm⟩
  have t0 : Tups H as0 ps := by
    rw [List.length_append, List.length_cons, List.length_nil] at len
    exact ⟨by omega, fun i c r x y => t1.2 i c r (by rw [List.getElem?_append_left (List.getElem?_eq_some_iff.mp x).1]; exact x) (by rw [List.getElem?_append_left (List.getElem?_eq_some_iff.mp y).1]; exact y)⟩
  have z := el_sl (K := K) h eo_none (eo_some hk) (sq_of h1)
  rw [List.map_append, List.map_cons, List.map_nil, cutV_init] at z
  exact z H1 e1 Q fun r H2 nr e2 hr => k r H2 as0 nr e2 hr ((t0.ex e1).ex e2)
end
end Hx
namespace Hx
open PySem PySem.Spec PyProof.Rows L2 Evl
/-- alike: a text and the same text; two pairs of equal lists of pairs, of which the first then gets (0, 0) at both ends -/
def spAlike : Sp := fun vs H Q _ => (∃ a : Str, vs = [.str a, .str a] ∧ ∀ H', Ex H H' → Q (.bl true) H') ∨
  (∃ (t u x y x2 y2 : Addr) (ps qs : List (Int × Int)) (Hb : Hp), vs = [.ref t, .ref u] ∧ H t = some (.tup [.ref x, .ref y]) ∧ H u = some (.tup [.ref x2, .ref y2]) ∧ PrL H x ps ∧ PrL H y qs ∧ PrL H x2 ps ∧ PrL H y2 qs ∧ x ≠ y ∧ ps.length ≤ 5000 ∧ qs.length ≤ 5000 ∧ Hb x = none ∧ Hb y = none ∧ Ex Hb H ∧
    ∀ H', Ex Hb H' → PrL H' x (ps ++ [(0, 0)]) → PrL H' y (qs ++ [(0, 0)]) → Q (.bl true) H')
theorem kb_tuple_str : kitB "tuple" "str" = some false := by decide +kernel
theorem kb_str_str2 : kitB "str" "str" = some true := by decide +kernel
theorem rv_ixT2 {K : PySem.W.Frag} {H : Hp} {t : Addr} {x y : V} (h : H t = some (.tup [x, y])) : RV (rIxT K) (.ref t) (.int 0) H x ∧ RV (rIxT K) (.ref t) (.int 1) H y := ⟨rv_ixT (st_of h) rfl, rv_ixT (st_of h) rfl⟩
end Hx
namespace Hx
open PySem PySem.Spec PyProof.Rows L2 Evl
/-- the heights after some lifts -/
def afterL (ns : List Int) (ls : List (Int × Int)) : List Int := ls.foldl (fun ms q => liftL ms q.1.toNat q.2) ns
theorem afterL_snoc (ns : List Int) (ls : List (Int × Int)) (a : Nat) (b : Int) : afterL ns (ls ++ [((a : Int), b)]) = liftL (afterL ns ls) a b := by
  unfold afterL
  rw [List.foldl_append]
  rfl
theorem afterL_len (ns : List Int) : ∀ ls : List (Int × Int), (afterL ns ls).length = ns.length := fun ls => by
  unfold afterL
  induction ls generalizing ns with
  | nil => rfl
  | cons q r ih => rw [List.foldl_cons, ih, liftL_len]
/-- a lift taken back -/
theorem liftL_back {ns : List Int} {a : Nat} (lt : a < ns.length) (b : Int) : liftL (liftL ns a b) a (-b) = ns := by
  have z : cel ns (a : Int) = ns[a] := by
    unfold cel
    rw [List.getD_eq_getElem?_getD, Int.toNat_natCast, List.getElem?_eq_getElem lt]
    rfl
  have c : cel (liftL ns a b) (a : Int) = cel ns (a : Int) + b := by
    unfold liftL
    conv => lhs; unfold cel
    rw [List.getD_eq_getElem?_getD, Int.toNat_natCast, List.getElem?_set]
    simp [lt, z]
  have e : liftL (liftL ns a b) a (-b) = (liftL ns a b).set a (cel (liftL ns a b) (a : Int) + -b) := rfl
  rw [e, c]
  unfold liftL
  rw [List.set_set, show cel ns (a : Int) + b + -b = cel ns (a : Int) by omega, z]
  exact List.set_getElem_self lt
/-- the heights in bound after each of the lifts, each at a place of the land -/
def HistOk (ns : List Int) (ls : List (Int × Int)) : Prop := (∀ q ∈ ls, ∃ a : Nat, q.1 = (a : Int) ∧ a < ns.length) ∧ ∀ k ≤ ls.length, ∀ i ∈ afterL ns (ls.take k), inB i = true
/-- Land at p, the law's own heights at h, what was done at d: all of one mind -/
structure Same (C : Addr) (H : Hp) (p dx hp lp h d : Addr) (begun : List Int) (ls : List (Int × Int)) : Prop where
  x : H p = some (.ins C dx (fldsL hp lp))
  hh : H hp = some (.lst ((afterL begun ls).map V.int))
  hs : H h = some (.lst ((afterL begun ls).map V.int))
  pl : PrL H lp ls
  pd : PrL H d ls
  ne : hp ≠ lp ∧ hp ≠ h ∧ hp ≠ d ∧ lp ≠ h ∧ lp ≠ d ∧ h ≠ d
  n1 : 1 ≤ begun.length
  few : begun.length ≤ 60
  ok : HistOk begun ls
end Hx
namespace Hx
open PySem PySem.Spec PyProof.Rows L2 Evl
theorem liftL_mem {ns : List Int} {a : Nat} {b i : Int} (h : i ∈ liftL ns a b) : i ∈ ns ∨ i = cel ns (a : Int) + b := by
  unfold liftL at h
  exact List.mem_or_eq_of_mem_set h
theorem HistOk.nil {ns : List Int} (h : ∀ i ∈ ns, inB i = true) : HistOk ns [] := ⟨fun q m => (nomatch m), fun k le i hi => by
  have : k = 0 := Nat.le_zero.mp le
  subst this
  exact h i hi⟩
theorem HistOk.snoc {ns : List Int} {ls : List (Int × Int)} {a : Nat} {b : Int} (h : HistOk ns ls) (lt : a < ns.length) (ib : inB (cel (afterL ns ls) (a : Int) + b) = true) : HistOk ns (ls ++ [((a : Int), b)]) := by
  refine ⟨fun q m => ?_, fun k le i hi => ?_⟩
  · rcases List.mem_append.mp m with m | m
    · exact h.1 q m
    · rw [List.mem_singleton.mp m]
      exact ⟨a, rfl, lt⟩
  · rw [List.length_append, List.length_cons, List.length_nil] at le
    by_cases e : k ≤ ls.length
    · rw [List.take_append_of_le_length e] at hi
      exact h.2 k e i hi
    · have : k = ls.length + 1 := by omega
      subst this
      rw [List.take_of_length_le (by simp), afterL_snoc] at hi
      rcases liftL_mem hi with hi | hi
      · have z := h.2 ls.length (Nat.le_refl _) i
        rw [List.take_length] at z
        exact z hi
      · rw [hi]
        exact ib
theorem HistOk.init {ns : List Int} {ls : List (Int × Int)} {q : Int × Int} (h : HistOk ns (ls ++ [q])) : HistOk ns ls := ⟨fun r m => h.1 r (List.mem_append.mpr (.inl m)), fun k le i hi => h.2 k (by rw [List.length_append]; omega) i (by rw [List.take_append_of_le_length le]; exact hi)⟩
section
variable {σ : L2.St} {H : Hp} {to : TE} {ta : TA} {D : Ends} {tz : TS} {C p dx hp lp : Addr} {m : Str} {sp : Sp} {E : XK} {vs : List V}
/-- land.m(..) as a statement -/
theorem q_dropM (ho : Ev to σ H (.ref p)) (ha : EvA ta σ H vs) (hx : H p = some (.ins C dx (fldsL hp lp))) (nm : (fldsL hp lp).lookup m = none) (k : ∀ H1, Ex H H1 → sp (.ref p :: vs) H1 (fun _ H2 => tz D σ H2) E) : tSeq (tDrop (tMeth C m sp [] E to ta)) tz D σ H :=
  ho H (Ex.refl H) _ fun H1 e1 => ⟨p, dx, fldsL hp lp, rfl, e1 _ _ hx, nm, ha H1 e1 _ fun H2 e2 => by
    rw [List.append_nil]
    exact k H2 (e1.trans e2)⟩
end
end Hx
namespace Hx
open PySem PySem.Spec PyProof.Rows L2 Evl
def spLifted (C : Addr) : Sp := fun vs H Q _ => ∃ (p dx hp lp h d : Addr) (begun : List Int) (Hb : Hp), vs = [.ref p, .ref h, .ref d] ∧ Same C H p dx hp lp h d begun [] ∧ (∀ i ∈ begun, -1000000 ≤ i ∧ i ≤ 1000000) ∧ Hb hp = none ∧ Hb lp = none ∧ Hb h = none ∧ Hb d = none ∧ Ex Hb H ∧
  ∀ H' ls, Ex Hb H' → Same C H' p dx hp lp h d begun ls → ls.length ≤ 90 → Q .non H'
end Hx
namespace Hx
open PySem PySem.Spec PyProof.Rows L2 Evl
def spAllBack (C : Addr) : Sp := fun vs H Q _ => ∃ (p dx hp lp h d : Addr) (begun : List Int) (ls : List (Int × Int)) (Hb : Hp), vs = [.ref p, .ref h, .ref d] ∧ Same C H p dx hp lp h d begun ls ∧ ls.length ≤ 1000 ∧ Hb hp = none ∧ Hb lp = none ∧ Hb h = none ∧ Hb d = none ∧ Ex Hb H ∧
  ∀ H', Ex Hb H' → Same C H' p dx hp lp h d begun [] → Q (.bl true) H'
end Hx
/-! The law's own state: heaps without some addresses; what is kept of what was told; calls that change lists within tests and assignments. -/
namespace Hx
open PySem PySem.Spec PyProof.Rows L2 Evl
/-- all but some addresses -/
def offs (H : Hp) (M : List Addr) : Hp := fun b => if b ∈ M then none else H b
theorem offs_none {H : Hp} {M : List Addr} {a : Addr} (h : a ∈ M) : offs H M a = none := if_pos h
theorem offs_ex (H : Hp) (M : List Addr) : Ex (offs H M) H := fun b o h => by
  unfold offs at h
  split at h
  · cases h
  · exact h
theorem offs_at {H : Hp} {M : List Addr} {a : Addr} {o : HO} (n : a ∉ M) (h : H a = some o) : offs H M a = some o := by
  unfold offs
  rw [if_neg n]
  exact h
theorem offs_inv {H : Hp} {M : List Addr} {a : Addr} {o : HO} (h : offs H M a = some o) : a ∉ M ∧ H a = some o := by
  unfold offs at h
  split at h
  · cases h
  · rename_i n
    exact ⟨n, h⟩
/-- each of them a list -/
def Lsts (H : Hp) (M : List Addr) : Prop := ∀ m ∈ M, ∃ xs, H m = some (.lst xs)
section
variable {H H' H2 : Hp} {M A : List Addr} {a x : Addr} {ps : List (Int × Int)}
theorem Lsts.no_tup {xs : List V} (l : Lsts H M) (h : H a = some (.tup xs)) : a ∉ M := fun m => by
  obtain ⟨ys, hy⟩ := l a m
  rw [h] at hy
  cases hy
theorem Lsts.no_ins {C dx : Addr} {fs : List (Str × V)} (l : Lsts H M) (h : H a = some (.ins C dx fs)) : a ∉ M := fun m => by
  obtain ⟨ys, hy⟩ := l a m
  rw [h] at hy
  cases hy
theorem Lsts.no_new (l : Lsts H M) (h : H a = none) : a ∉ M := fun m => by
  obtain ⟨ys, hy⟩ := l a m
  rw [h] at hy
  cases hy
theorem Lsts.ex (e : Ex H H') (l : Lsts H M) : Lsts H' M := fun m h => by
  obtain ⟨xs, hx⟩ := l m h
  exact ⟨xs, e _ _ hx⟩
theorem Lsts.step (l : Lsts H M) (e : Ex (offs H A) H') (la : Lsts H' A) : Lsts H' M := fun m h => by
  by_cases z : m ∈ A
  · exact la m z
  · obtain ⟨xs, hx⟩ := l m h
    exact ⟨xs, e _ _ (offs_at z hx)⟩
theorem offs_pr (h : PrL H x ps) (n : x ∉ M) (l : Lsts H M) : PrL (offs H M) x ps := by
  obtain ⟨as, h1, h2⟩ := h
  exact ⟨as, offs_at n h1, h2.1, fun i b q e1 e2 => offs_at (l.no_tup (h2.2 i b q e1 e2)) (h2.2 i b q e1 e2)⟩
theorem offs_step (sub : ∀ b ∈ A, b ∈ M ∨ H b = none) (e : Ex (offs H A) H') : Ex (offs H M) (offs H' M) := fun b o h => by
  obtain ⟨n, hb⟩ := offs_inv h
  refine offs_at n (e _ _ (offs_at (fun m => ?_) hb))
  rcases sub b m with z | z
  · exact n z
  · rw [hb] at z
    cases z
theorem offs_trans (e : Ex (offs H M) H') (sub : ∀ b ∈ A, b ∈ M ∨ H b = none) (e2 : Ex (offs H' A) H2) : Ex (offs H M) H2 := fun b o h => by
  obtain ⟨n, hb⟩ := offs_inv h
  refine e2 _ _ (offs_at (fun m => ?_) (e _ _ h))
  rcases sub b m with z | z
  · exact n z
  · rw [hb] at z
    cases z
theorem offs_sub (sub : ∀ b ∈ A, b ∈ M) (e : Ex (offs H A) H') : Ex (offs H M) H' := fun b o h => by
  obtain ⟨n, hb⟩ := offs_inv h
  exact e _ _ (offs_at (fun m => n (sub b m)) hb)
/-- what is free behind was free ahead -/
theorem offs_back (e : Ex (offs H A) H') (l : Lsts H' A) (n : H' a = none) : H a = none := by
  cases h : H a with
  | none => rfl
  | some o =>
    have z := e _ _ (offs_at (l.no_new n) h)
    rw [n] at z
    cases z
/-- a list changed -/
theorem offs_upd {o : HO} (e : Ex (offs H M) H') (m : a ∈ M) : Ex (offs H M) (upd H' a o) := Ex.mut e (offs_none m)
theorem ex_off (e : Ex H H') : Ex (offs H M) H' := (offs_ex H M).trans e
theorem offs_nil (H : Hp) : offs H [] = H := by
  funext b
  unfold Hx.offs
  rw [if_neg (by simp)]
end
/-- what is kept of one deed: the answer, and both its lists once more -/
def EntOk (H : Hp) (t : Addr) : Prop := ∃ (f l m x y : Addr) (ps qs : List (Int × Int)), H t = some (.tup [.ref f, .ref l, .ref m]) ∧ H f = some (.tup [.ref x, .ref y]) ∧ PrL H x ps ∧ PrL H y qs ∧ PrL H l ps ∧ PrL H m qs
theorem EntOk.ex {H H' : Hp} {t : Addr} (e : Ex H H') (h : EntOk H t) : EntOk H' t := by
  obtain ⟨f, l, m, x, y, ps, qs, h1, h2, h3, h4, h5, h6⟩ := h
  exact ⟨f, l, m, x, y, ps, qs, e _ _ h1, e _ _ h2, h3.ex e, h4.ex e, h5.ex e, h6.ex e⟩
/-- told_here at th, none of what it holds among the lists that change -/
structure Kept (H : Hp) (M : List Addr) (th : Addr) (ts : List Addr) : Prop where
  l : H th = some (.lst (ts.map V.ref))
  e : ∀ t ∈ ts, EntOk (offs H M) t
theorem Kept.step {H H' : Hp} {M A : List Addr} {th : Addr} {ts : List Addr} (k : Kept H M th ts) (sub : ∀ b ∈ A, b ∈ M ∨ H b = none) (e : Ex (offs H A) H') (n : th ∉ A) : Kept H' M th ts := ⟨e _ _ (offs_at n k.l), fun t m => (k.e t m).ex (offs_step sub e)⟩
theorem Kept.ex {H H' : Hp} {M : List Addr} {th : Addr} {ts : List Addr} (k : Kept H M th ts) (e : Ex H H') : Kept H' M th ts := k.step (A := []) (fun _ m => (nomatch m)) (by rw [offs_nil]; exact e) (by simp)
section
variable {K : PySem.W.Frag} {σ : L2.St} {H : Hp} {te to tl : TE} {ta : TA} {D : Ends} {tz : TS} {Q : VK} {E : XK} {vs : List V} {sp : Sp}
/-- a call, as it is -/
theorem t_call (h : EvA ta σ H vs) (k : ∀ H1, Ex H H1 → sp vs H1 Q E) : tCall sp [] E ta σ H Q := h H (Ex.refl H) _ fun H1 e1 => by
  rw [List.append_nil]
  exact k H1 e1
theorem and_go {tb : TE} (h : tb σ H Q) : ∃ c, V.bl true = .bl c ∧ if c = true then tb σ H Q else Q (.bl false) H := ⟨true, rfl, by rw [if_pos rfl]; exact h⟩
/-- f(..) and .. -/
theorem t_and {tb : TE} (h : EvA ta σ H vs) (k : ∀ H1, Ex H H1 → sp vs H1 (fun x H2 => ∃ c, x = .bl c ∧ if c = true then tb σ H2 Q else Q (.bl false) H2) E) : tAndV (tCall sp [] E ta) tb σ H Q := t_call h k
/-- x = f(..) -/
theorem q_asgC {i : Nat} (h : EvA ta σ H vs) (k : ∀ H1, Ex H H1 → sp vs H1 (fun x H2 => tz D (σ.set i (some x)) H2) E) : tSeq (tAsg (tCall sp [] E ta) (gName i)) tz D σ H := t_call h k
/-- if not f(..): .. -/
theorem q_ifNot {tu : TS} (h : EvA ta σ H vs) (k : ∀ H1, Ex H H1 → sp vs H1 (fun x H2 => ∃ c, x = .bl c ∧ if (!c) = true then tu { D with nx := tz D } σ H2 else tz D σ H2) E) : tSeq (tIfS (tNot (tB (tCall sp [] E ta))) tu tNext) tz D σ H := t_call h k
theorem not_go {A B : Prop} (h : B) : ∃ c, V.bl true = .bl c ∧ if (!c) = true then A else B := ⟨true, rfl, by rw [Bool.not_true, if_neg Bool.false_ne_true]; exact h⟩
end
section
variable {K : PySem.W.Frag} {σ : L2.St} {H : Hp} {tl : TE}
theorem g_tup3 {i j k : Nat} {p : Addr} {x y z : V} {Q : L2.St → Hp → Prop} (h : SqT K H p [x, y, z]) (q : Q (((σ.set i (some x)).set j (some y)).set k (some z)) H) : gTup K 3 (gCons (gName i) (gCons (gName j) (gCons (gName k) gNil))) (.ref p) σ H Q :=
  ⟨p, [x, y, z], rfl, h, rfl, x, [y, z], rfl, y, [z], rfl, z, [], rfl, rfl, q⟩
/-- all([pair[0] == one and pair[1] == other for pair, one, other in xs]) -/
theorem ev_allKept {th : Addr} {ts : List Addr} {i j k : Nat} {vs : List Nat} (h : Ev tl σ H (.ref th)) (hl : H th = some (.lst (ts.map V.ref))) (few : ts.length ≤ 40000) (ok : ∀ t ∈ ts, EntOk H t) (hw : ∀ x y z, wipe ((((wipe σ vs).set i (some x)).set j (some y)).set k (some z)) vs = wipe σ vs)
    (h1 : ∀ x y z, ((((wipe σ vs).set i (some x)).set j (some y)).set k (some z))[i]? = some (some x)) (h2 : ∀ x y z, ((((wipe σ vs).set i (some x)).set j (some y)).set k (some z))[j]? = some (some y)) (h3 : ∀ x y z, ((((wipe σ vs).set i (some x)).set j (some y)).set k (some z))[k]? = some (some z)) :
    Ev (tCB (rAll K) (tCons (tLc (iList K tl) (gTup K 3 (gCons (gName i) (gCons (gName j) (gCons (gName k) gNil)))) tYes (tAndV (tOp (rEqD K) (tOp (rIxT K) (tVar i) (tC (.int 0))) (tVar j)) (tOp (rEqD K) (tOp (rIxT K) (tVar i) (tC (.int 1))) (tVar k))) vs) tNil)) σ H (.bl true) := by
  have z : (List.replicate ts.length true).all id = true := List.all_eq_true.mpr fun b hb => (List.eq_of_mem_replicate hb)
  rw [← z]
  refine ev_all ?_
  refine fun H0 e Q q => h H0 e _ fun H1 e1 => ⟨th, rfl, ⟨_, sq_of (e1 _ _ (e _ _ hl))⟩, fun Dl hD => ?_⟩
  refine lc_list (xs := ts.map V.ref) (fun n H' => Ex H1 H' ∧ H' Dl = some (.lst ((List.replicate n true).map V.bl))) ⟨Ex.new hD, upd_same⟩ (fun n H' _ p => sq_of (p.1 _ _ (e1 _ _ (e _ _ hl)))) ?_ ?_
  · rintro n x H' hx ⟨e2, hb⟩
    rw [List.getElem?_map] at hx
    obtain ⟨t, ht, rfl⟩ := Option.map_eq_some_iff.mp hx
    have nl : n < ts.length := (List.getElem?_eq_some_iff.mp ht).1
    obtain ⟨f, l, m, x, y, ps, qs, a1, a2, a3, a4, a5, a6⟩ := (ok t (List.mem_of_getElem? ht)).ex ((e.trans e1).trans e2)
    refine g_tup3 (st_of a1) ⟨hw _ _ _, ?_⟩
    refine t_yes ?_
    have ev : Ev (tAndV (tOp (rEqD K) (tOp (rIxT K) (tVar i) (tC (.int 0))) (tVar j)) (tOp (rEqD K) (tOp (rIxT K) (tVar i) (tC (.int 1))) (tVar k))) ((((wipe σ vs).set i (some (.ref f))).set j (some (.ref l))).set k (some (.ref m))) H' (.bl true) := by
      refine ev_is (v := .bl (decide (ps = ps) && decide (qs = qs))) (ev_andV (ev_op (ev_op (ev_var (h1 _ _ _)) ev_c (rv_ixT2 a2).1) (ev_var (h2 _ _ _)) (rv_eqP a3 a5)) fun _ => ev_op (ev_op (ev_var (h1 _ _ _)) ev_c (rv_ixT2 a2).2) (ev_var (h3 _ _ _)) (rv_eqP a4 a6)) (by simp)
    refine ev H' (Ex.refl _) _ fun H4 e4 => ⟨_, e4 _ _ hb, by rw [List.length_map, List.length_replicate, sizeLine_eq]; omega, Ex.mut (e2.trans e4) hD, ?_⟩
    rw [upd_same, List.replicate_succ', List.map_append]
    rfl
  · rintro H' ⟨e2, hb⟩
    rw [List.length_map] at hb
    exact q Dl H' (fresh_back e1 hD) (e1.trans e2) hb
end
/-- the promise of kept -/
def spKept (K : PySem.W.Frag) : Sp := fun vs H Q _ => ∃ (th : Addr) (v : V) (M ts : List Addr), vs = [.ref th, v] ∧ th ∈ M ∧ Lsts H M ∧ Kept H M th ts ∧ ts.length ≤ 1000 ∧
  (((v = .non ∨ ∃ s, v = .str s) ∧ ∀ H', Ex H H' → Q (.bl true) H') ∨
   (∃ (f x y : Addr) (ps qs : List (Int × Int)), v = .ref f ∧ H f = some (.tup [.ref x, .ref y]) ∧ x ∉ M ∧ y ∉ M ∧ PrL H x ps ∧ PrL H y qs ∧ ∀ H' ts', Ex (offs H [th]) H' → Kept H' M th ts' → ts'.length = ts.length + 1 → Q (.bl true) H'))
end Hx
namespace Hx
open PySem PySem.Spec PyProof.Rows L2 Evl
theorem kb_NoneType_tuple : kitB "NoneType" "tuple" = some false := by decide +kernel
theorem kb_str_tuple : kitB "str" "tuple" = some false := by decide +kernel
theorem Lsts.upd {H : Hp} {M : List Addr} {a : Addr} {xs : List V} (l : Lsts H M) : Lsts (upd H a (.lst xs)) M := fun m h => by
  by_cases z : m = a
  · rw [z]
    exact ⟨xs, upd_same⟩
  · rw [upd_ne z]
    exact l m h
section
variable {K : PySem.W.Frag} {σ : L2.St} {H : Hp} {t0 t1 tx ty : TE} {D : Ends}
/-- xs.append((v, a new list, a new list)) -/
theorem s_app3 {th : Addr} {zs xs ys : List V} {v : V} (hl : H th = some (.lst zs)) (h0 : Ev t0 σ H (.ref th)) (h1 : Ev t1 σ H v) (hx : EvL tx σ H xs) (hy : EvL ty σ H ys) (hz : zs.length < 100000)
    (k : ∀ l m u H1, H l = none → H m = none → H u = none → Ex H H1 → H1 l = some (.lst xs) → H1 m = some (.lst ys) → H1 u = some (.tup [v, .ref l, .ref m]) → D.nx σ (upd H1 th (.lst (zs ++ [.ref u])))) :
    tDrop (tBM K "list" rAppend t0 (tCons (tTup (tCons t1 (tCons tx (tCons ty tNil)))) tNil)) D σ H :=
  h0 H (Ex.refl H) _ fun H1 e1 => ⟨Or.inl ⟨rfl, zs, sq_of (e1 _ _ hl)⟩, h1 H1 e1 _ fun H2 e2 => hx H2 (e1.trans e2) _ fun l H3 nl e3 hl3 => hy H3 ((e1.trans e2).trans e3) _ fun m H4 nm e4 hm => ⟨sz_of (Nat.le_of_ble_eq_true rfl), fun u nu => by
    have e12 := e1.trans e2
    have e13 := e12.trans e3
    have e14 := e13.trans e4
    have e5 : Ex H4 (upd H4 u (.tup [v, .ref l, .ref m])) := Ex.new nu
    exact ⟨th, zs, .ref u, rfl, rfl, e5 _ _ (e14 _ _ hl), sz_lt hz, k l m u _ (fresh_back e12 nl) (fresh_back e13 nm) (fresh_back e14 nu) (e14.trans e5) (e5 _ _ (e4 _ _ hl3)) (e5 _ _ hm) upd_same⟩⟩⟩
end
section
variable {C : Addr} {H H' : Hp} {p dx hp lp h d : Addr} {begun : List Int} {ls : List (Int × Int)} {A : List Addr}
theorem Same.ex (s : Same C H p dx hp lp h d begun ls) (e : Ex H H') : Same C H' p dx hp lp h d begun ls := ⟨e _ _ s.x, e _ _ s.hh, e _ _ s.hs, s.pl.ex e, s.pd.ex e, s.ne, s.n1, s.few, s.ok⟩
/-- other lists changed -/
theorem Same.off (s : Same C H p dx hp lp h d begun ls) (e : Ex (offs H A) H') (l : Lsts H A) (n1 : hp ∉ A) (n2 : lp ∉ A) (n3 : h ∉ A) (n4 : d ∉ A) : Same C H' p dx hp lp h d begun ls :=
  ⟨e _ _ (offs_at (l.no_ins s.x) s.x), e _ _ (offs_at n1 s.hh), e _ _ (offs_at n3 s.hs), (offs_pr s.pl n2 l).ex e, (offs_pr s.pd n4 l).ex e, s.ne, s.n1, s.few, s.ok⟩
theorem PrL.lst {x : Addr} {ps : List (Int × Int)} (h : PrL H x ps) : ∃ xs, H x = some (.lst xs) := by
  obtain ⟨as, h, _⟩ := h
  exact ⟨_, h⟩
end
end Hx
namespace Hx
open PySem PySem.Spec PyProof.Rows L2 Evl
theorem Lsts.cons {H : Hp} {a : Addr} {M : List Addr} (h : ∃ xs, H a = some (.lst xs)) (l : Lsts H M) : Lsts H (a :: M) := fun m hm => by
  rcases List.mem_cons.mp hm with z | z
  · rw [z]
    exact h
  · exact l m z
theorem Lsts.nil (H : Hp) : Lsts H [] := fun _ m => (nomatch m)
theorem PrL.empty {H : Hp} {p : Addr} (h : H p = some (.lst [])) : PrL H p [] := ⟨[], h, Tups.nil _⟩
section
variable {C : Addr} {H0 H H' : Hp} {p dx hp lp h d th : Addr} {begun : List Int} {ls : List (Int × Int)} {A0 M ts : List Addr} {t u x y x2 y2 : Addr} {ps qs : List (Int × Int)} {Q : VK} {E : XK}
theorem Same.lsts (s : Same C H p dx hp lp h d begun ls) : Lsts H [hp, lp, h, d] := .cons ⟨_, s.hh⟩ (.cons s.pl.lst (.cons ⟨_, s.hs⟩ (.cons s.pd.lst (.nil H))))
/-- alike of an answer and what is due, both new: what is kept stays -/
theorem alike_new (lm0 : Lsts H0 M) (kp0 : Kept H0 M th ts) (e0 : Ex (offs H0 A0) H) (la : Lsts H A0) (subA : ∀ b ∈ A0, b ∈ M) (thA : th ∉ A0) (n1 : H0 x = none) (n2 : H0 y = none) (xy : x ≠ y) (ht : H t = some (.tup [.ref x, .ref y])) (hu : H u = some (.tup [.ref x2, .ref y2]))
    (px : PrL H x ps) (py : PrL H y qs) (px2 : PrL H x2 ps) (py2 : PrL H y2 qs) (l1 : ps.length ≤ 5000) (l2 : qs.length ≤ 5000)
    (k : ∀ H1, Ex (offs H0 A0) H1 → Ex (offs H [x, y]) H1 → Lsts H [x, y] → x ∉ M → y ∉ M → H1 t = some (.tup [.ref x, .ref y]) → PrL H1 x (ps ++ [(0, 0)]) → PrL H1 y (qs ++ [(0, 0)]) → Lsts H1 M → Kept H1 M th ts → Q (.bl true) H1) : spAlike [.ref t, .ref u] H Q E := by
  have lxy : Lsts H [x, y] := .cons px.lst (.cons py.lst (.nil H))
  have mx : ∀ {b}, b ∈ [x, y] → H0 b = none := fun {b} m => by
    rcases List.mem_cons.mp m with z | z
    · rw [z]
      exact n1
    · rw [List.mem_singleton.mp z]
      exact n2
  refine .inr ⟨t, u, x, y, x2, y2, ps, qs, offs H [x, y], rfl, ht, hu, px, py, px2, py2, xy, l1, l2, offs_none (by simp), offs_none (by simp), offs_ex _ _, fun H1 e1 px1 py1 => ?_⟩
  have lxy1 : Lsts H1 [x, y] := .cons px1.lst (.cons py1.lst (.nil H1))
  have e01 : Ex (offs H0 A0) H1 := offs_trans e0 (fun b m => .inr (mx m)) e1
  have lm : Lsts H M := lm0.step e0 la
  have lm1 : Lsts H1 M := lm.step e1 lxy1
  exact k H1 e01 e1 lxy (lm0.no_new n1) (lm0.no_new n2) (e1 _ _ (offs_at (lxy.no_tup ht) ht)) px1 py1 lm1 (kp0.step (fun b m => .inl (subA b m)) e01 thA)
end
section
variable {K : PySem.W.Frag} {σ : L2.St} {C : Addr} {H0 H H' : Hp} {p dx hp lp h d th : Addr} {begun : List Int} {ls : List (Int × Int)} {A0 M ts : List Addr} {t u x y x2 y2 : Addr} {ps qs : List (Int × Int)} {D : Ends} {E : XK} {ta1 ta2 ta3 : TA}
theorem stands_of (s : Same C H p dx hp lp h d begun ls) : RStands C [.ref p, .ref h] H (.bl true) := ⟨p, dx, hp, lp, h, afterL begun ls, rfl, s.x, s.hh, s.hs, by rw [afterL_len]; exact s.few, rfl⟩
/-- return alike(..) and kept(..) and stands(..), of a word -/
theorem s_tailS {s : Str} (a1 : ∀ G, EvA ta1 σ G [.str s, .str s]) (a2 : ∀ G, EvA ta2 σ G [.ref th, .str s]) (a3 : ∀ G, EvA ta3 σ G [.ref p, .ref h]) (sm : Same C H p dx hp lp h d begun ls) (lm : Lsts H M) (kp : Kept H M th ts) (tm : th ∈ M) (few : ts.length ≤ 1000)
    (k : ∀ H1, Ex H H1 → D.rt (.bl true) H1) : tRet (tAndV (tCall spAlike [] E ta1) (tAndV (tCall (spKept K) [] E ta2) (tCall (spV (RStands C)) [] E ta3))) D σ H := by
  refine t_and (a1 H) fun H1 e1 => .inl ⟨s, rfl, fun H2 e2 => and_go ?_⟩
  have e12 := e1.trans e2
  refine t_and (a2 H2) fun H3 e3 => ?_
  have e13 := e12.trans e3
  refine ⟨th, .str s, M, ts, rfl, tm, lm.ex e13, kp.ex e13, few, .inl ⟨.inr ⟨s, rfl⟩, fun H4 e4 => and_go ?_⟩⟩
  refine t_call (a3 H4) fun H5 e5 => ?_
  have e15 := (e13.trans e4).trans e5
  exact ⟨.bl true, stands_of (sm.ex e15), fun H6 e6 => k H6 (e15.trans e6)⟩
/-- .. of an answer and what is due -/
theorem s_tailT (a1 : ∀ G, EvA ta1 σ G [.ref t, .ref u]) (a2 : ∀ G, EvA ta2 σ G [.ref th, .ref t]) (a3 : ∀ G, EvA ta3 σ G [.ref p, .ref h]) (sm : Same C H p dx hp lp h d begun ls) (lm0 : Lsts H0 M) (kp0 : Kept H0 M th ts) (e0 : Ex (offs H0 [hp, lp, h, d]) H)
    (sub : ∀ b ∈ [hp, lp, h, d], b ∈ M) (tm : th ∈ M) (thA : th ∉ [hp, lp, h, d]) (n1 : H0 x = none) (n2 : H0 y = none) (xy : x ≠ y) (ht : H t = some (.tup [.ref x, .ref y])) (hu : H u = some (.tup [.ref x2, .ref y2]))
    (px : PrL H x ps) (py : PrL H y qs) (px2 : PrL H x2 ps) (py2 : PrL H y2 qs) (l1 : ps.length ≤ 5000) (l2 : qs.length ≤ 5000) (few : ts.length ≤ 1000)
    (k : ∀ H1 ts', Ex (offs H0 [hp, lp, h, d, th]) H1 → Same C H1 p dx hp lp h d begun ls → Kept H1 M th ts' → ts'.length = ts.length + 1 → D.rt (.bl true) H1) : tRet (tAndV (tCall spAlike [] E ta1) (tAndV (tCall (spKept K) [] E ta2) (tCall (spV (RStands C)) [] E ta3))) D σ H := by
  have la := sm.lsts
  refine t_and (a1 H) fun H1 e1 => ?_
  refine alike_new lm0 kp0 (e0.trans e1) (la.ex e1) sub thA n1 n2 xy (e1 _ _ ht) (e1 _ _ hu) (px.ex e1) (py.ex e1) (px2.ex e1) (py2.ex e1) l1 l2 fun H2 e02 e2 lxy nx ny ht2 px2 py2 lm2 kp2 => and_go ?_
  have nm : ∀ {b}, b ∈ M → b ∉ [x, y] := fun {b} m z => by
    rcases List.mem_cons.mp z with z | z
    · exact nx (z ▸ m)
    · exact ny (List.mem_singleton.mp z ▸ m)
  have sm2 := (sm.ex e1).off e2 lxy (nm (sub _ (by simp))) (nm (sub _ (by simp))) (nm (sub _ (by simp))) (nm (sub _ (by simp)))
  refine t_and (a2 H2) fun H3 e3 => ?_
  refine ⟨th, .ref t, M, ts, rfl, tm, lm2.ex e3, kp2.ex e3, few, .inr ⟨t, x, y, _, _, rfl, e3 _ _ ht2, nx, ny, px2.ex e3, py2.ex e3, fun H4 ts' e4 kp4 len => and_go ?_⟩⟩
  have lt : Lsts H3 [th] := .cons ⟨_, (kp2.ex e3).l⟩ (.nil H3)
  have e04 : Ex (offs H0 [hp, lp, h, d, th]) H4 := offs_trans (offs_sub (fun b m => by
    rcases List.mem_cons.mp m with z | z
    · rw [z]; simp
    · rcases List.mem_cons.mp z with z | z
      · rw [z]; simp
      · rcases List.mem_cons.mp z with z | z
        · rw [z]; simp
        · rw [List.mem_singleton.mp z]; simp) (e02.trans e3)) (fun b m => .inl (by rw [List.mem_singleton.mp m]; simp)) e4
  have nt : ∀ {b}, b ∈ [hp, lp, h, d] → b ∉ [th] := fun {b} m z => thA (List.mem_singleton.mp z ▸ m)
  have sm4 := (sm2.ex e3).off e4 lt (nt (by simp)) (nt (by simp)) (nt (by simp)) (nt (by simp))
  refine t_call (a3 H4) fun H5 e5 => ?_
  exact ⟨.bl true, stands_of (sm4.ex e5), fun H6 e6 => k H6 ts' (e04.trans (e5.trans e6)) (sm4.ex (e5.trans e6)) (kp4.ex (e5.trans e6)) len⟩
end
/-- the promise of goes, of done -/
def spGoes (C : Addr) : Sp := fun vs H Q _ => ∃ (p dx hp lp h d th : Addr) (begun : List Int) (ls : List (Int × Int)) (ts M : List Addr) (x y : V), vs = [.ref p, .ref h, .ref d, x, y, .ref th] ∧ Same C H p dx hp lp h d begun ls ∧ DeedOk begun.length x y H ∧ (∀ b ∈ [hp, lp, h, d, th], b ∈ M) ∧ Lsts H M ∧ Kept H M th ts ∧
  th ∉ [hp, lp, h, d] ∧ ls.length ≤ 500 ∧ ts.length ≤ 500 ∧ ∀ H' ls' ts', Ex (offs H [hp, lp, h, d, th]) H' → Same C H' p dx hp lp h d begun ls' → ls'.length ≤ ls.length + 1 → Kept H' M th ts' → ts'.length ≤ ts.length + 1 → Q (.bl true) H'
end Hx
namespace Hx
open PySem PySem.Spec PyProof.Rows L2 Evl
/-- a Land with heights ns and lifts ls, the law's heights ms and its list ds of what was done -/
structure LS (C : Addr) (H : Hp) (p dx hp lp h d : Addr) (ns ms : List Int) (ls ds : List (Int × Int)) : Prop where
  x : H p = some (.ins C dx (fldsL hp lp))
  hh : H hp = some (.lst (ns.map V.int))
  hs : H h = some (.lst (ms.map V.int))
  pl : PrL H lp ls
  pd : PrL H d ds
  ne : hp ≠ lp ∧ hp ≠ h ∧ hp ≠ d ∧ lp ≠ h ∧ lp ≠ d ∧ h ≠ d
section
variable {C : Addr} {H H' : Hp} {p dx hp lp h d : Addr} {ns ms ns' ms' begun : List Int} {ls ds ls' ds' : List (Int × Int)}
theorem Same.toLS (s : Same C H p dx hp lp h d begun ls) : LS C H p dx hp lp h d (afterL begun ls) (afterL begun ls) ls ls := ⟨s.x, s.hh, s.hs, s.pl, s.pd, s.ne⟩
theorem LS.ex (s : LS C H p dx hp lp h d ns ms ls ds) (e : Ex H H') : LS C H' p dx hp lp h d ns ms ls ds := ⟨e _ _ s.x, e _ _ s.hh, e _ _ s.hs, s.pl.ex e, s.pd.ex e, s.ne⟩
theorem LS.lsts (s : LS C H p dx hp lp h d ns ms ls ds) : Lsts H [hp, lp, h, d] := .cons ⟨_, s.hh⟩ (.cons s.pl.lst (.cons ⟨_, s.hs⟩ (.cons s.pd.lst (.nil H))))
theorem LS.setD {xs : List V} (s : LS C H p dx hp lp h d ns ms ls ds) (q : PrL (upd H d (.lst xs)) d ds') : LS C (upd H d (.lst xs)) p dx hp lp h d ns ms ls ds' := by
  obtain ⟨m1, m2, m3, m4, m5, m6⟩ := id s.ne
  obtain ⟨ys, hd⟩ := s.pd.lst
  refine ⟨?_, ?_, ?_, s.pl.set m5 hd, q, s.ne⟩
  · rw [upd_ne (fun z => by have w := s.x; rw [z, hd] at w; cases w)]
    exact s.x
  · rw [upd_ne m3]
    exact s.hh
  · rw [upd_ne m6]
    exact s.hs
theorem LS.setH {xs : List V} (s : LS C H p dx hp lp h d ns ms ls ds) (q : xs = ms'.map V.int) : LS C (upd H h (.lst xs)) p dx hp lp h d ns ms' ls ds := by
  obtain ⟨m1, m2, m3, m4, m5, m6⟩ := id s.ne
  refine ⟨?_, ?_, ?_, s.pl.set m4 s.hs, s.pd.set m6.symm s.hs, s.ne⟩
  · rw [upd_ne (fun z => by have w := s.x; rw [z, s.hs] at w; cases w)]
    exact s.x
  · rw [upd_ne m2]
    exact s.hh
  · rw [upd_same, q]
theorem LS.told (s : LS C H p dx hp lp h d ns ms ls ds) (e : Ex (offs H [hp, lp]) H') (hh : H' hp = some (.lst (ns'.map V.int))) (pl : PrL H' lp ls') : LS C H' p dx hp lp h d ns' ms ls' ds := by
  obtain ⟨m1, m2, m3, m4, m5, m6⟩ := id s.ne
  have l2 : Lsts H [hp, lp] := .cons ⟨_, s.hh⟩ (.cons s.pl.lst (.nil H))
  have no : ∀ {b}, b ≠ hp → b ≠ lp → b ∉ [hp, lp] := fun {b} a1 a2 m => by
    rcases List.mem_cons.mp m with z | z
    · exact a1 z
    · exact a2 (List.mem_singleton.mp z)
  exact ⟨e _ _ (offs_at (l2.no_ins s.x) s.x), hh, e _ _ (offs_at (no m2.symm m4.symm) s.hs), pl, (offs_pr s.pd (no m3.symm m5.symm) l2).ex e, s.ne⟩
theorem LS.same (s : LS C H p dx hp lp h d (afterL begun ls) (afterL begun ls) ls ls) (n1 : 1 ≤ begun.length) (few : begun.length ≤ 60) (ok : HistOk begun ls) : Same C H p dx hp lp h d begun ls := ⟨s.x, s.hh, s.hs, s.pl, s.pd, s.ne, n1, few, ok⟩
end
theorem cel_mem {ns : List Int} {a : Nat} (lt : a < ns.length) : cel ns (a : Int) ∈ ns := by
  unfold cel
  rw [List.getD_eq_getElem?_getD, Int.toNat_natCast, List.getElem?_eq_getElem lt]
  exact List.getElem_mem lt
theorem get_celN {ns : List Int} {a : Nat} (lt : a < ns.length) : ns[a]? = some (cel ns (a : Int)) := by
  unfold cel
  rw [List.getD_eq_getElem?_getD, Int.toNat_natCast, List.getElem?_eq_getElem lt]
  rfl
theorem get_celV {ns : List Int} {a : Nat} (lt : a < ns.length) : (ns.map V.int)[a]? = some (V.int (cel ns (a : Int))) := by
  rw [List.getElem?_map, get_celN lt]
  rfl
theorem cel_lift {ns : List Int} {a : Nat} {b : Int} (lt : a < ns.length) : cel (liftL ns a b) (a : Int) = cel ns (a : Int) + b := by
  unfold liftL
  conv => lhs; unfold cel
  rw [List.getD_eq_getElem?_getD, Int.toNat_natCast, List.getElem?_set]
  have z : cel ns (a : Int) = ns[a] := by
    unfold cel
    rw [List.getD_eq_getElem?_getD, Int.toNat_natCast, List.getElem?_eq_getElem lt]
    rfl
  simp [lt, z]
theorem lift_set {ns : List Int} {a : Nat} {b : Int} : (ns.map V.int).set a (.int (cel ns (a : Int) + b)) = (liftL ns a b).map V.int := by
  unfold liftL
  rw [List.map_set]
theorem back_set {ns : List Int} {a : Nat} {b : Int} : (ns.map V.int).set a (.int (cel ns (a : Int) - b)) = (liftL ns a (-b)).map V.int := by
  rw [← lift_set]
  rfl
/-- a lift that is taken back stays in bound -/
theorem HistOk.back {begun : List Int} {l0 : List (Int × Int)} {a : Nat} {b : Int} (h : HistOk begun (l0 ++ [((a : Int), b)])) (lt : a < begun.length) : liftL (afterL begun (l0 ++ [((a : Int), b)])) a (-b) = afterL begun l0 ∧ inB (cel (afterL begun (l0 ++ [((a : Int), b)])) (a : Int) + -b) = true := by
  have n0 : (afterL begun l0).length = begun.length := afterL_len begun l0
  have n1 : (afterL begun (l0 ++ [((a : Int), b)])).length = begun.length := afterL_len begun _
  have bk : liftL (afterL begun (l0 ++ [((a : Int), b)])) a (-b) = afterL begun l0 := by
    rw [afterL_snoc]
    exact liftL_back (by omega) b
  refine ⟨bk, ?_⟩
  have z := h.2 l0.length (by rw [List.length_append]; omega) (cel (afterL begun l0) (a : Int)) (by
    rw [List.take_left]
    exact cel_mem (by omega))
  rw [← bk, cel_lift (by omega)] at z
  exact z
end Hx
namespace Hx
open PySem PySem.Spec PyProof.Rows L2 Evl
def spAllBack2 (C : Addr) : Sp := fun vs H Q _ => ∃ (p dx hp lp h d : Addr) (begun : List Int) (ls : List (Int × Int)), vs = [.ref p, .ref h, .ref d] ∧ Same C H p dx hp lp h d begun ls ∧ ls.length ≤ 1000 ∧ ∀ H', Ex (offs H [hp, lp, h, d]) H' → Same C H' p dx hp lp h d begun [] → Q (.bl true) H'
section
variable {K : PySem.W.Frag} {σ : L2.St} {H : Hp} {t : TT} {tu : TS} {ta : TA} {D : Ends} {tz : TS} {Q : VK} {E : XK} {vs : List V} {sp : Sp} {T : String}
theorem q_while (W : Nat → L2.St → Hp → Prop) (m0 : Nat) (h0 : W m0 σ H)
    (hs : ∀ m σ' H', W m σ' H' → ∃ b, EvT t σ' H' b ∧ (b = true → ∀ H1, Ex H' H1 → ∃ N : L2.St → Hp → Prop, (∀ σ2 H2, N σ2 H2 → ∃ m', m' < m ∧ W m' σ2 H2) ∧ tu { D with nx := N, ct := N, bk := tz D } σ' H1) ∧ (b = false → ∀ H1, Ex H' H1 → tz D σ' H1)) : tSeq (tWhile t tu) tz D σ H := s_while (D := { D with nx := tz D }) W m0 h0 hs
/-- if not isinstance(f(..), T): .. -/
theorem q_ifNotIs (h : EvA ta σ H vs) (k : ∀ H1, Ex H H1 → sp vs H1 (fun x H2 => rIsi K [x, .ty T] H2 fun z H3 => ∃ c, z = .bl c ∧ if (!c) = true then tu { D with nx := tz D } σ H3 else tz D σ H3) E) : tSeq (tIfS (tNot (tB (tCB (rIsi K) (tCons (tCall sp [] E ta) (tCons (tC (.ty T)) tNil))))) tu tNext) tz D σ H := t_call h k
/-- return f(..) == 'word' and .. -/
theorem s_andEq {s : Str} {tb : TE} (h : EvA ta σ H vs) (k : ∀ H1, Ex H H1 → sp vs H1 (fun x H2 => rEq x (.str s) H2 fun z H3 => ∃ c, z = .bl c ∧ if c = true then tb σ H3 D.rt else D.rt (.bl false) H3) E) : tRet (tAndV (tOp rEq (tCall sp [] E ta) (tC (.str s))) tb) D σ H := t_call h k
theorem andEq_go {s : Str} {A B : Prop} (h : A) : scal (.str s) (.str s) = true ∧ ∃ c, V.bl (decide (V.str s = .str s)) = .bl c ∧ if c = true then A else B := ⟨rfl, true, by simp, by rw [if_pos rfl]; exact h⟩
end
end Hx
namespace Hx
open PySem PySem.Spec PyProof.Rows L2 Evl
theorem sub45 {a b c d e z : Addr} (m : z ∈ [a, b, c, d]) : z ∈ [a, b, c, d, e] := by
  rw [show [a, b, c, d, e] = [a, b, c, d] ++ [e] from rfl]
  exact List.mem_append.mpr (.inl m)
theorem sub24 {a b c d z : Addr} (m : z ∈ [a, b]) : z ∈ [a, b, c, d] := by
  rw [show [a, b, c, d] = [a, b] ++ [c, d] from rfl]
  exact List.mem_append.mpr (.inl m)
theorem no2 {H : Hp} {x a b : Addr} {xs : List V} {ps : List (Int × Int)} (n : H x = none) (ha : H a = some (.lst xs)) (hb : PrL H b ps) : x ∉ [a, b] := Lsts.no_new (.cons ⟨_, ha⟩ (.cons hb.lst (.nil H))) n
theorem tup_set {H : Hp} {u a : Addr} {xs zs ys : List V} (hu : H u = some (.tup xs)) (ha : H a = some (.lst zs)) : upd H a (.lst ys) u = some (.tup xs) := by
  rw [upd_ne (fun z => by rw [z, ha] at hu; cases hu)]
  exact hu
theorem lack_few {ns ms : List Int} (h : ns.length ≤ 60) : (lackOf (sightsOf ns) (sightsOf ms)).length ≤ 5000 := by
  have z := sights_few h
  have w : (lackOf (sightsOf ns) (sightsOf ms)).length ≤ (sightsOf ns).length := List.length_filter_le ..
  omega
end Hx
namespace Hx
open PySem PySem.Spec PyProof.Rows L2 Evl
section
variable {K : PySem.W.Frag} {σ : L2.St} {H : Hp} {t1 t2 : TE} {D : Ends} {tz : TS}
/-- x = [a new list, a new list of pairs] -/
theorem q_lstLP {i : Nat} {xs : List V} {ps : List (Int × Int)} (h1 : EvL t1 σ H xs) (h2 : ∀ H1, Ex H H1 → EvP t2 σ H1 ps) (k : ∀ r a b H1, H r = none → H a = none → H b = none → Ex H H1 → H1 r = some (.lst [.ref a, .ref b]) → H1 a = some (.lst xs) → PrL H1 b ps → tz D (σ.set i (some (.ref r))) H1) :
    tSeq (tAsg (tLst (tCons t1 (tCons t2 tNil))) (gName i)) tz D σ H :=
  h1 H (Ex.refl H) _ fun a H1 na e1 ha => h2 H1 e1 H1 (Ex.refl H1) _ fun b H2 as nb e2 hb tb => ⟨sz_of (Nat.le_of_ble_eq_true rfl), fun r nr => by
    have e3 : Ex H2 (upd H2 r (.lst [.ref a, .ref b])) := Ex.new nr
    exact k r a b _ (fresh_back (e1.trans e2) nr) na (fresh_back e1 nb) ((e1.trans e2).trans e3) upd_same (e3 _ _ (e2 _ _ ha)) (PrL.ex e3 ⟨as, hb, tb⟩)⟩
theorem q_lstLL {i : Nat} {xs ys : List V} (h1 : EvL t1 σ H xs) (h2 : EvL t2 σ H ys) (k : ∀ r a b H1, H r = none → H a = none → H b = none → Ex H H1 → H1 r = some (.lst [.ref a, .ref b]) → H1 a = some (.lst xs) → H1 b = some (.lst ys) → tz D (σ.set i (some (.ref r))) H1) :
    tSeq (tAsg (tLst (tCons t1 (tCons t2 tNil))) (gName i)) tz D σ H :=
  h1 H (Ex.refl H) _ fun a H1 na e1 ha => h2 H1 e1 _ fun b H2 nb e2 hb => ⟨sz_of (Nat.le_of_ble_eq_true rfl), fun r nr => by
    have e3 : Ex H2 (upd H2 r (.lst [.ref a, .ref b])) := Ex.new nr
    exact k r a b _ (fresh_back (e1.trans e2) nr) na (fresh_back e1 nb) ((e1.trans e2).trans e3) upd_same (e3 _ _ (e2 _ _ ha)) (e3 _ _ hb)⟩
/-- [heights, pairs] == [heights, pairs] -/
theorem rv_eqN {p q a b c d : Addr} {ns : List Int} {ps : List (Int × Int)} (hp : H p = some (.lst [.ref a, .ref b])) (hq : H q = some (.lst [.ref c, .ref d])) (ha : H a = some (.lst (ns.map V.int))) (hc : H c = some (.lst (ns.map V.int))) (hb : PrL H b ps) (hd : PrL H d ps) :
    RV (rEqD K) (.ref p) (.ref q) H (.bl true) := fun H1 e Q k => by
  have one : ∀ {u v w : Addr}, H u = some (.lst [.ref v, .ref w]) → H v = some (.lst (ns.map V.int)) → PrL H w ps → Dp K H1 (.ref u) (.list [.list (ns.map PyData.int), .list (ps.map pD)]) := fun hu hv hw =>
    .lst (sq_of (e _ _ hu)) (.cons (.lst (sq_of (e _ _ hv)) (dp_ints ns)) (.cons (hw.ex e).dp .nil))
  have sh : SeqAt.shaped (.list [.list (ns.map PyData.int), .list (ps.map pD)]) = true := by
    have h1 := pDs_depth ps
    have h3 := ints_depth ns
    have h2 : PyData.depth (.list [.list (ns.map PyData.int), .list (ps.map pD)]) ≤ 64 := by
      simp only [PyData.depth, PyData.depthAll]
      omega
    show (PyData.canLay0 (.list [.list (ns.map PyData.int), .list (ps.map pD)]) && decide (PyData.depth (.list [.list (ns.map PyData.int), .list (ps.map pD)]) ≤ 64)) = true
    rw [Bool.and_eq_true]
    refine ⟨?_, decide_eq_true h2⟩
    simp only [PyData.canLay0, PyData.canLayAll0, ints_lay, pDs_lay, Bool.and_self, Bool.and_true]
  refine ⟨_, _, one hp ha hb, one hq hc hd, sh, sh, ?_⟩
  have ev : PyData.eqv (.list [.list (ns.map PyData.int), .list (ps.map pD)]) (.list [.list (ns.map PyData.int), .list (ps.map pD)]) = true := by
    rw [show PyData.eqv (.list [.list (ns.map PyData.int), .list (ps.map pD)]) (.list [.list (ns.map PyData.int), .list (ps.map pD)]) = (PyData.eqv (.list (ns.map PyData.int)) (.list (ns.map PyData.int)) && (PyData.eqv (.list (ps.map pD)) (.list (ps.map pD)) && true)) by simp only [PyData.eqv, PyData.eqvAll]]
    rw [ints_eqv, pDs_eqv]
    simp
  rw [ev]
  exact k H1 (Ex.refl H1)
end
end Hx
namespace Hx
open PySem PySem.Spec PyProof.Rows L2 Evl
theorem DeedOk.ex {n : Nat} {x y : V} {H H' : Hp} (e : Ex H H') (h : DeedOk n x y H) : DeedOk n x y H' := by
  rcases h with h | ⟨h1, h2⟩ | ⟨a, h1, h2, h3⟩
  · exact .inl h
  · exact .inr (.inl ⟨h1, h2.ex e⟩)
  · exact .inr (.inr ⟨a, h1, h2, h3.imp id (·.ex e)⟩)
end Hx
namespace Hx
open PySem PySem.Spec PyProof.Rows L2 Evl
/-- a Land with heights ns and lifts ls, the law's heights ms -/
structure LAt (C : Addr) (H : Hp) (p dx hp lp s : Addr) (ns ms : List Int) (ls : List (Int × Int)) : Prop where
  x : H p = some (.ins C dx (fldsL hp lp))
  hh : H hp = some (.lst (ns.map V.int))
  hs : H s = some (.lst (ms.map V.int))
  pl : PrL H lp ls
  ne : hp ≠ lp ∧ hp ≠ s ∧ lp ≠ s
section
variable {C : Addr} {H H' : Hp} {p dx hp lp s : Addr} {ns ms ns' ms' : List Int} {ls ls' : List (Int × Int)} {A M : List Addr}
theorem LAt.ex (t : LAt C H p dx hp lp s ns ms ls) (e : Ex H H') : LAt C H' p dx hp lp s ns ms ls := ⟨e _ _ t.x, e _ _ t.hh, e _ _ t.hs, t.pl.ex e, t.ne⟩
theorem LAt.lsts (t : LAt C H p dx hp lp s ns ms ls) : Lsts H [hp, lp, s] := .cons ⟨_, t.hh⟩ (.cons t.pl.lst (.cons ⟨_, t.hs⟩ (.nil H)))
theorem LAt.off (t : LAt C H p dx hp lp s ns ms ls) (e : Ex (offs H A) H') (l : Lsts H A) (n1 : hp ∉ A) (n2 : lp ∉ A) (n3 : s ∉ A) : LAt C H' p dx hp lp s ns ms ls :=
  ⟨e _ _ (offs_at (l.no_ins t.x) t.x), e _ _ (offs_at n1 t.hh), e _ _ (offs_at n3 t.hs), (offs_pr t.pl n2 l).ex e, t.ne⟩
theorem LAt.setH {xs : List V} (t : LAt C H p dx hp lp s ns ms ls) (q : xs = ms'.map V.int) : LAt C (upd H s (.lst xs)) p dx hp lp s ns ms' ls := by
  obtain ⟨m1, m2, m3⟩ := id t.ne
  refine ⟨?_, ?_, ?_, t.pl.set m3 t.hs, t.ne⟩
  · rw [upd_ne (fun z => by have w := t.x; rw [z, t.hs] at w; cases w)]
    exact t.x
  · rw [upd_ne m2]
    exact t.hh
  · rw [upd_same, q]
theorem LAt.told (t : LAt C H p dx hp lp s ns ms ls) (e : Ex (offs H [hp, lp]) H') (hh : H' hp = some (.lst (ns'.map V.int))) (pl : PrL H' lp ls') : LAt C H' p dx hp lp s ns' ms ls' := by
  obtain ⟨m1, m2, m3⟩ := id t.ne
  have l2 : Lsts H [hp, lp] := .cons ⟨_, t.hh⟩ (.cons t.pl.lst (.nil H))
  exact ⟨e _ _ (offs_at (l2.no_ins t.x) t.x), hh, e _ _ (offs_at (by
    intro m
    rcases List.mem_cons.mp m with z | z
    · exact m2 z.symm
    · exact m3 (List.mem_singleton.mp z).symm) t.hs), pl, t.ne⟩
theorem growL {a : Addr} (g : Lsts H M ∧ M.Nodup) (n : H a = none) (e : Ex H H') (ha : ∃ xs, H' a = some (.lst xs)) : Lsts H' (a :: M) ∧ (a :: M).Nodup := ⟨.cons ha (g.1.ex e), List.nodup_cons.mpr ⟨g.1.no_new n, g.2⟩⟩
theorem growL2 {a b : Addr} (g : Lsts H M ∧ M.Nodup) (n : H a = none) (n2 : H b = none) (ne : a ≠ b) (e : Ex H H') (ha : ∃ xs, H' a = some (.lst xs)) (hb : ∃ xs, H' b = some (.lst xs)) : Lsts H' (b :: a :: M) ∧ (b :: a :: M).Nodup :=
  ⟨.cons hb (.cons ha (g.1.ex e)), List.nodup_cons.mpr ⟨fun m => by
    rcases List.mem_cons.mp m with z | z
    · exact ne z.symm
    · exact g.1.no_new n2 z, List.nodup_cons.mpr ⟨g.1.no_new n, g.2⟩⟩⟩
theorem ex_base {Hc : Hp} (b : Ex Hc H) (no : ∀ a ∈ A, Hc a = none) (e : Ex (offs H A) H') : Ex Hc H' := fun c o hc => e _ _ (offs_at (fun m => by rw [no c m] at hc; cases hc) (b _ _ hc))
end
section
variable {K : PySem.W.Frag} {σ : L2.St} {H : Hp} {te : TE} {ta : TA} {D : Ends} {tz tu : TS} {u : TT} {Q : VK} {QT : Bool → Hp → Prop} {E : XK} {vs : List V} {sp : Sp}
theorem el_mid {p : Addr} {ns : List Int} (j k : Nat) (h : Ev te σ H (.ref p)) (hs : SqL K H p (ns.map V.int)) : EvL (tSl (rSlL K) te (tPart (tC (.int (j : Int)))) (tPart (tC (.int (k : Int))))) σ H (((ns.drop j).take (k - j)).map V.int) := by
  have z := el_sl (K := K) h (eo_some (ev_c (v := .int (j : Int)))) (eo_some (ev_c (v := .int (k : Int)))) hs
  rw [cutV_mid, ← List.map_drop, ← List.map_take] at z
  exact z
/-- f(..), as a statement -/
theorem s_dropC (h : EvA ta σ H vs) (k : ∀ H1, Ex H H1 → sp vs H1 (fun _ H2 => D.nx σ H2) E) : tDrop (tCall sp [] E ta) D σ H := t_call h k
/-- x, y = f(..) -/
theorem q_asg2C {i j : Nat} (h : EvA ta σ H vs) (k : ∀ H1, Ex H H1 → sp vs H1 (fun x H2 => gTup K 2 (gCons (gName i) (gCons (gName j) gNil)) x σ H2 (tz D)) E) : tSeq (tAsg (tCall sp [] E ta) (gTup K 2 (gCons (gName i) (gCons (gName j) gNil)))) tz D σ H := t_call h k
/-- if not f(..): .., the last -/
theorem s_ifNot (h : EvA ta σ H vs) (k : ∀ H1, Ex H H1 → sp vs H1 (fun x H2 => ∃ c, x = .bl c ∧ if (!c) = true then tu D σ H2 else D.nx σ H2) E) : tIfS (tNot (tB (tCall sp [] E ta))) tu tNext D σ H := t_call h k
/-- if not f(..) or ..: .., the last -/
theorem s_ifOr (h : EvA ta σ H vs) (k : ∀ H1, Ex H H1 → sp vs H1 (fun x H2 => ∃ c, x = .bl c ∧ if (!c) = true then (if true = true then tu D σ H2 else D.nx σ H2) else u σ H2 (fun b H3 => if b = true then tu D σ H3 else D.nx σ H3)) E) : tIfS (tOr (tNot (tB (tCall sp [] E ta))) u) tu tNext D σ H := t_call h k
theorem q_ifOr (h : EvA ta σ H vs) (k : ∀ H1, Ex H H1 → sp vs H1 (fun x H2 => ∃ c, x = .bl c ∧ if (!c) = true then (if true = true then tu { D with nx := tz D } σ H2 else tz D σ H2) else u σ H2 (fun b H3 => if b = true then tu { D with nx := tz D } σ H3 else tz D σ H3)) E) : tSeq (tIfS (tOr (tNot (tB (tCall sp [] E ta))) u) tu tNext) tz D σ H := t_call h k
theorem t_orNot (h : EvA ta σ H vs) (k : ∀ H1, Ex H H1 → sp vs H1 (fun x H2 => ∃ c, x = .bl c ∧ if (!c) = true then QT true H2 else u σ H2 QT) E) : tOr (tNot (tB (tCall sp [] E ta))) u σ H QT := t_call h k
theorem t_notC (h : EvA ta σ H vs) (k : ∀ H1, Ex H H1 → sp vs H1 (fun x H2 => ∃ c, x = .bl c ∧ QT (!c) H2) E) : tNot (tB (tCall sp [] E ta)) σ H QT := t_call h k
theorem no_go {A B : Prop} (h : B) : if (!true) = true then A else B := by rw [Bool.not_true, if_neg Bool.false_ne_true]; exact h
theorem no_go2 {A B : Prop} (h : B) : if false = true then A else B := by rw [if_neg Bool.false_ne_true]; exact h
end
end Hx
local macro_rules | `(tactic| walk_at "as") => `(tactic| with_reducible assumption)
local macro_rules | `(tactic| walk_at "sq") => `(tactic| first
  | (with_reducible assumption)
  | ((with_reducible apply Evl.sq_of); with_reducible assumption)
  | ((with_reducible apply Evl.st_of); with_reducible assumption)
  | ((with_reducible apply Evl.ex_l); (with_reducible assumption); (walk_at "sq"))
  | ((with_reducible apply Evl.ex_t); (with_reducible assumption); (walk_at "sq")))
local macro_rules | `(tactic| walk_at "hp") => `(tactic| first
  | (with_reducible assumption)
  | (with_reducible exact L2.upd_same)
  | ((with_reducible apply Hx.ex_at); (with_reducible assumption); (walk_at "hp")))
local macro_rules | `(tactic| walk_at "ex") => `(tactic| first
  | (with_reducible assumption)
  | (with_reducible exact Evl.Ex.refl _)
  | ((with_reducible apply Hx.ex_step); (with_reducible assumption); (walk_at "ex")))
local macro_rules | `(tactic| walk_at "sd") => `(tactic| first
  | (with_reducible assumption)
  | omega
  | (dsimp only; omega)
  | (refine Or.inr ⟨?_, ?_⟩ <;> omega)
  | (refine Or.inl ⟨?_, ?_⟩ <;> omega)
  | (refine ⟨?_, ?_⟩ <;> omega)
  | (refine ⟨?_, ?_, ?_⟩ <;> decide))
local macro_rules | `(tactic| walk_at "ix") => `(tactic| first
  | (with_reducible assumption)
  | ((with_reducible refine Hx.getD_ix ?_ ?_) <;> omega)
  | rfl)
local macro_rules | `(tactic| walk_at "rv") => `(tactic| first
  | (with_reducible exact Evl.rv_I0)
  | ((with_reducible apply Evl.rv_I); walk_at "sd")
  | ((with_reducible refine Evl.rv_eq ?_); rfl)
  | ((with_reducible refine Evl.rv_ne ?_); rfl)
  | (with_reducible exact Hx.rv_isN)
  | (with_reducible exact Hx.rv_notN)
  | ((with_reducible apply Evl.rv_ixL); (walk_at "sq"); (walk_at "ix"))
  | ((with_reducible apply Evl.rv_ixT); (walk_at "sq"); (walk_at "ix"))
  | ((with_reducible apply Hx.rv_eqI); (walk_at "sq"); (walk_at "sq"))
  | ((with_reducible apply Hx.rv_neI); (walk_at "sq"); (walk_at "sq")))
local macro_rules | `(tactic| walk_at "rc") => `(tactic| first
  | (with_reducible exact Hx.rc_min)
  | (with_reducible exact Hx.rc_max)
  | (with_reducible exact Hx.rc_intb)
  | ((with_reducible apply Hx.rc_len); walk_at "sq")
  | ((with_reducible apply Hx.rc_lenT); walk_at "sq")
  | with_reducible exact Hx.rc_isi_int Hx.kb_int_int
  | with_reducible exact Hx.rc_isi_int Hx.kb_int_bool
  | with_reducible exact Hx.rc_isi_bl Hx.kb_bool_int
  | with_reducible exact Hx.rc_isi_bl Hx.kb_bool_bool
  | with_reducible exact Hx.rc_isi_non Hx.kb_NoneType_int
  | with_reducible exact Hx.rc_isi_non Hx.kb_NoneType_bool
  | with_reducible exact Hx.rc_isi_str Hx.kb_str_int
  | with_reducible exact Hx.rc_isi_str Hx.kb_str_bool
  | ((with_reducible apply Hx.rc_isi_lst (e := Hx.kb_list_list)); walk_at "hp")
  | ((with_reducible apply Hx.rc_isi_tup (e := Hx.kb_tuple_tuple)); walk_at "hp")
  | ((with_reducible apply Hx.rc_isi_lst (e := Hx.kb_list_int)); walk_at "hp")
  | ((with_reducible apply Hx.rc_isi_tup (e := Hx.kb_tuple_int)); walk_at "hp")
  | ((with_reducible apply Hx.rc_isi_lst (e := Hx.kb_list_bool)); walk_at "hp")
  | ((with_reducible apply Hx.rc_isi_tup (e := Hx.kb_tuple_bool)); walk_at "hp")
  | ((with_reducible apply Hx.rc_isi_lst (e := Hx.kb_list_tuple)); walk_at "hp")
  | ((with_reducible apply Hx.rc_isi_tup (e := Hx.kb_tuple_list)); walk_at "hp")
  | with_reducible exact Hx.rc_isi_int Hx.kb_int_list
  | with_reducible exact Hx.rc_isi_int Hx.kb_int_tuple)
local macro_rules | `(tactic| walk_at "ea") => `(tactic| first
  | (with_reducible exact Evl.ea_nil)
  | ((with_reducible apply Evl.ea_cons); (walk_at "ev"); (walk_at "ea")))
local macro_rules | `(tactic| walk_at "ev") => `(tactic| first
  | ((with_reducible apply Evl.ev_var); rfl)
  | (with_reducible exact Evl.ev_c)
  | (with_reducible exact Hx.ev_pow18)
  | (with_reducible exact Hx.ev_pow14)
  | (with_reducible exact Hx.ev_pow9)
  | ((with_reducible apply Evl.ev_op); (walk_at "ev"); (walk_at "ev"); (walk_at "rv"))
  | ((with_reducible apply Evl.ev_un); (walk_at "ev"); (with_reducible exact Evl.ru_neg))
  | ((with_reducible apply Evl.ev_cb); (walk_at "ea"); (walk_at "rc"))
  | ((with_reducible apply Evl.ev_notV); walk_at "ev")
  | ((with_reducible apply Evl.ev_andV); (walk_at "ev"); (intro _; walk_at "ev"))
  | ((with_reducible apply Evl.ev_orV); (walk_at "ev"); (intro _; walk_at "ev"))
  | walk_at "cal")
local macro_rules | `(tactic| walk_at "et") => `(tactic| first
  | ((with_reducible apply Evl.et_test); walk_at "ev")
  | ((with_reducible apply Evl.et_B); walk_at "ev")
  | ((with_reducible apply Evl.et_not); walk_at "et")
  | ((with_reducible apply Evl.et_and); (walk_at "et"); (intro _; walk_at "et"))
  | ((with_reducible apply Evl.et_or); (walk_at "et"); (intro _; walk_at "et")))
local macro_rules | `(tactic| walk_at "eu") => `(tactic| first
  | ((with_reducible apply Evl.eu_tup); (walk_at "ea"); (exact Nat.le_of_ble_eq_true rfl))
  | ((with_reducible apply Evl.el_lst); (walk_at "ea"); (exact Nat.le_of_ble_eq_true rfl))
  | ((with_reducible apply Evl.el_cb); (walk_at "ea"); ((with_reducible apply Hx.rcl_list); walk_at "sq"))
  | walk_at "calu")
local macro_rules | `(tactic| walk_at "st") => `(tactic| (try dsimp only [List.set]))
local macro_rules | `(tactic| walk_at "wi") => `(tactic| (try dsimp only [List.map, L2.wipe, List.set]))
local macro_rules | `(tactic| walk_at "om") => `(tactic| first | decide | omega)
local macro_rules | `(tactic| walk_at "cal") => `(tactic| first
  | ((with_reducible apply Hx.ev_cel); (walk_at "ea"); (walk_at "sq"); (walk_at "om"))
  | ((with_reducible apply Hx.ev_whole); (walk_at "ea"))
  | ((with_reducible apply Hx.ev_height); (walk_at "ea"); (walk_at "om"); (walk_at "om"); (walk_at "om"); (walk_at "om"))
  | ((with_reducible apply Hx.ev_steeper); (walk_at "ea"); (walk_at "sq"); (walk_at "sq"); (omega); (omega); (omega); (omega)))
local macro_rules | `(tactic| walk_at "calu") => `(tactic| first
  | ((with_reducible apply Hx.eu_slope); (walk_at "ea"); (walk_at "sq"); (omega); (omega); (omega); (omega))
  | ((with_reducible apply Hx.el_land); (walk_at "ea"); (walk_at "sq"); (walk_at "om"); (walk_at "om"))
  | ((with_reducible apply Hx.el_longer); (walk_at "ea"); (walk_at "sq"); (walk_at "sq"); (walk_at "om"); (walk_at "om"); (walk_at "om"); (walk_at "om")))
local macro_rules | `(tactic| walk_at "ix") => `(tactic| ((with_reducible refine Hx.getD_neg ?_ ?_) <;> omega))
local macro_rules | `(tactic| walk_at "rv") => `(tactic| first
  | (with_reducible exact Hx.rv_isB)
  | (with_reducible exact Hx.rv_notB))
local macro_rules | `(tactic| walk_at "rc") => `(tactic| first
  | (with_reducible exact Hx.rc_abs)
  | (with_reducible exact Hx.rc_isi_non Hx.kb_NoneType_list)
  | (with_reducible exact Hx.rc_isi_str Hx.kb_str_list)
  | ((with_reducible apply Hx.rc_isi_dic (e := Hx.kb_dict_list)); walk_at "hp"))
local macro_rules | `(tactic| walk_at "rc") => `(tactic| first
  | ((with_reducible apply Hx.rc_isZ); with_reducible assumption)
  | ((with_reducible apply Hx.rc_isZt); with_reducible assumption))

namespace Hx
open PySem PySem.Spec PyProof.Rows L2 Evl
def topS (i : Nat) : Stmt := PySem.Challenge.pw_hillsight_k10_whole_changes.main.body.getD i (.Pass ⟨0, 0, 0, 0⟩)

section
variable {P : Program} {w : World} {K : PySem.W.Frag} {mg : Str → Option Value} {base : Heap}
abbrev s_law_cell_at : Stmt := topS 26
theorem sc_law_cell_at : FnScope ["_law_script", "_law_k"] ["_law_script", "_law_k"] (defScope s_law_cell_at) := ⟨rfl, rfl, rfl, by decide +kernel, rfl, by decide +kernel, by decide +kernel⟩

theorem ok_cel {f : Addr} {fd : FuncData} (F : Fun K "_law_cell_at" "_law_cell_at" s_law_cell_at f fd) (B : Blt mg) : FnOk P w K mg base CX0 1 f fd ["_law_script", "_law_k"] (spV (RCel K)) := by
  refine F.ok sc_law_cell_at (fun vs H Q E h => ?_) (fun cdv A outer s H vs Q E hr h => ?_)
  · obtain ⟨_, ⟨_, _, _, rfl, _⟩, _⟩ := h
    rfl
  · obtain ⟨v, ⟨l, ns, j, rfl, h0, hs, rfl⟩, q⟩ := h
    refine ⟨_, (pss_cons (ps_if (pt_cmpR op_lt (pv 1) (pe_callB call_len_seq (by rfl) B.m_len PySem.boot_len (pa_cons (pv 0) pa_nil)) (nomark _)) (pss_one (ps_ret (pe_ix ix_list (pv 0) (pv 1) (fun _ _ => rfl)))) pss_nil)
      (pss_one (ps_ret pe_int))), ?_⟩
    try dsimp only [cxOf, Cx.nox, Cx.wish]
    have hl : (ns.map V.int).length = ns.length := List.length_map ..
    apply q_when (b := decide (j < ((ns.map V.int).length : Int)))
    · walk_at "et"
    · intro hb H1 e1
      have hb := of_decide_eq_true hb
      rw [hl] at hb
      apply s_ret
      · walk_at "ev"
      · intro H2 e2
        exact q H2 (by walk_at "ex")
    · intro hb H1 e1
      have hb := of_decide_eq_false hb
      rw [hl] at hb
      apply s_ret
      · walk_at "ev"
      · intro H2 e2
        have e : cel ns j = 0 := by
          unfold cel
          rw [List.getD_eq_getElem?_getD, List.getElem?_eq_none (by omega)]
          rfl
        rw [e] at q
        exact q H2 (by walk_at "ex")
abbrev s_law_whole : Stmt := topS 25
theorem sc_law_whole : FnScope ["_law_found"] ["_law_found"] (defScope s_law_whole) := ⟨rfl, rfl, rfl, by decide +kernel, rfl, by decide +kernel, by decide +kernel⟩

theorem ok_whole10 {f : Addr} {fd : FuncData} (F : Fun K "_law_whole" "_law_whole" s_law_whole f fd) (B : Blt mg) : FnOk P w K mg base CX0 1 f fd ["_law_found"] (spV RWholeV) := by
  refine F.ok sc_law_whole (fun vs H Q E h => ?_) (fun cdv A outer s H vs Q E hr h => ?_)
  · obtain ⟨_, ⟨_, rfl, _⟩, _⟩ := h
    rfl
  · obtain ⟨v, ⟨x, rfl, hx⟩, q⟩ := h
    refine ⟨_, (pss_one (ps_ret (pe_and (pe_callB call_isi (by rfl) B.m_isinstance (by decide +kernel) (pa_cons (pv 0) (pa_cons (pe_bltn (v := .ty "int") (by rfl) B.m_int (by decide +kernel) rfl) pa_nil))) (pe_one (pe_not (pe_callB call_isi (by rfl) B.m_isinstance (by decide +kernel) (pa_cons (pv 0) (pa_cons (pe_bltn (v := .ty "bool") (by rfl) B.m_bool (by decide +kernel) rfl) pa_nil)))))))), ?_⟩
    try dsimp only [cxOf, Cx.nox, Cx.wish]
    rcases hx with ⟨i, rfl, rfl⟩ | ⟨hx, rfl⟩
    · apply s_ret
      · walk_at "ev"
      · intro H2 e2
        exact q H2 (by walk_at "ex")
    cases hx
    all_goals (
      apply s_ret
      · walk_at "ev"
      · intro H2 e2
        exact q H2 (by walk_at "ex"))
abbrev sis_whole : Stmt := topS 8
theorem scis_whole : FnScope ["number"] ["number"] (defScope sis_whole) := ⟨rfl, rfl, rfl, by decide +kernel, rfl, by decide +kernel, by decide +kernel⟩

theorem ok_is_whole {f : Addr} {fd : FuncData} (F : Fun K "is_whole" "is_whole" sis_whole f fd) (B : Blt mg) : FnOk P w K mg base CX0 1 f fd ["number"] (spV RWholeV) := by
  refine F.ok scis_whole (fun vs H Q E h => ?_) (fun cdv A outer s H vs Q E hr h => ?_)
  · obtain ⟨_, ⟨_, rfl, _⟩, _⟩ := h
    rfl
  · obtain ⟨v, ⟨x, rfl, hx⟩, q⟩ := h
    refine ⟨_, (pss_one (ps_ret (pe_and (pe_callB call_isi (by rfl) B.m_isinstance (by decide +kernel) (pa_cons (pv 0) (pa_cons (pe_bltn (v := .ty "int") (by rfl) B.m_int (by decide +kernel) rfl) pa_nil))) (pe_one (pe_not (pe_callB call_isi (by rfl) B.m_isinstance (by decide +kernel) (pa_cons (pv 0) (pa_cons (pe_bltn (v := .ty "bool") (by rfl) B.m_bool (by decide +kernel) rfl) pa_nil)))))))), ?_⟩
    try dsimp only [cxOf, Cx.nox, Cx.wish]
    rcases hx with ⟨i, rfl, rfl⟩ | ⟨hx, rfl⟩
    · apply s_ret
      · walk_at "ev"
      · intro H2 e2
        exact q H2 (by walk_at "ex")
    cases hx
    all_goals (
      apply s_ret
      · walk_at "ev"
      · intro H2 e2
        exact q H2 (by walk_at "ex"))
abbrev scheck_hill : Stmt := topS 9
theorem sccheck_hill : FnScope ["land", "place"] ["land", "place"] (defScope scheck_hill) := ⟨rfl, rfl, rfl, by decide +kernel, rfl, by decide +kernel, by decide +kernel⟩

theorem ok_check {f : Addr} {fd : FuncData} {N : Addr} (F : Fun K "check_hill" "check_hill" scheck_hill f fd) (B : Blt mg) (C_is_whole : Cal P w K mg base "is_whole" 1 ["number"] (spV RWholeV)) (X_NoHill : ExK K mg "NoHill" N) : FnOk P w K mg base (L2.CX P w) 2 f fd ["land", "place"] (spVX (RPlace K) (RNoPlace K N)) := by
  refine F.okX sccheck_hill (fun vs H Q E h => ?_) (fun cdv A outer s H vs Q E hr h => ?_)
  · rcases h with ⟨_, ⟨_, _, _, rfl, _⟩, _⟩ | ⟨_, ⟨_, _, _, rfl, _⟩, _⟩ <;> rfl
  · rcases h with ⟨v, ⟨l, land, i, rfl, hs, h0, h1, rfl⟩, q⟩ | ⟨C, ⟨l, land, x, rfl, hs, hb, rfl⟩, q⟩
    · refine ⟨_, (pss_cons (ps_if (pt_not (pt_val (pe_cal C_is_whole hr (pa_cons (pv 1) pa_nil)))) (pss_one (ps_raise rfl (takes_of rfl rfl rfl rfl) (pmk_own PySem.F.excBase_ValueError X_NoHill.x X_NoHill.g X_NoHill.k (raises_own X_NoHill.b X_NoHill.t) (by rfl)))) pss_nil)
      (pss_one (ps_if (PW.pt (pw_or (pt_cmpR op_lt (pv 1) pe_int (nomark _)) (pw_or1 (pt_cmpR op_ge (pv 1) (pe_callB call_len_seq (by rfl) B.m_len PySem.boot_len (pa_cons (pv 0) pa_nil)) (nomark _))))) (pss_one (ps_raise rfl (takes_of rfl rfl rfl rfl) (pmk_own PySem.F.excBase_ValueError X_NoHill.x X_NoHill.g X_NoHill.k (raises_own X_NoHill.b X_NoHill.t) (by rfl)))) pss_nil))), ?_⟩
      try dsimp only [cxOf, Cx.nox, Cx.wish]
      rw [show L2.start ["land", "place"] [.ref l, .int i] = [some (.ref l), some (.int i)] from rfl]
      have hll : (land.map V.int).length = land.length := List.length_map ..
      apply q_when (b := false)
      · exact et_not (a := true) (et_B (ev_isW (by walk_at "ea")))
      · intro z
        cases z
      intro _ H1 e1
      apply s_when (b := false)
      · refine et_is (by walk_at "et") ?_
        rw [hll, decide_eq_false (by omega), decide_eq_false (by omega)]
        rfl
      · intro z
        cases z
      intro _ H2 e2
      exact q H2 (by walk_at "ex")
    · refine ⟨_, (pss_cons (ps_if (pt_not (pt_val (pe_cal C_is_whole hr (pa_cons (pv 1) pa_nil)))) (pss_one (ps_raise rfl (takes_of rfl rfl rfl rfl) (pmk_own PySem.F.excBase_ValueError X_NoHill.x X_NoHill.g X_NoHill.k (raises_own X_NoHill.b X_NoHill.t) (by rfl)))) pss_nil)
      (pss_one (ps_if (PW.pt (pw_or (pt_cmpR op_lt (pv 1) pe_int (nomark _)) (pw_or1 (pt_cmpR op_ge (pv 1) (pe_callB call_len_seq (by rfl) B.m_len PySem.boot_len (pa_cons (pv 0) pa_nil)) (nomark _))))) (pss_one (ps_raise rfl (takes_of rfl rfl rfl rfl) (pmk_own PySem.F.excBase_ValueError X_NoHill.x X_NoHill.g X_NoHill.k (raises_own X_NoHill.b X_NoHill.t) (by rfl)))) pss_nil))), ?_⟩
      try dsimp only [cxOf, Cx.nox, Cx.wish]
      rw [show L2.start ["land", "place"] [.ref l, x] = [some (.ref l), some (x)] from rfl]
      have hll : (land.map V.int).length = land.length := List.length_map ..
      rcases hb.int_or with ⟨i, rfl, h⟩ | hn
      · apply q_when (b := false)
        · exact et_not (a := true) (et_B (ev_isW (by walk_at "ea")))
        · intro z
          cases z
        intro _ H1 e1
        apply s_when (b := true)
        · refine et_is (by walk_at "et") ?_
          rw [hll]
          rcases h with h | h
          · rw [decide_eq_true h, Bool.true_or]
          · rw [decide_eq_true (p := (land.length : Int) ≤ i) h, Bool.or_true]
        · intro _ H2 e2
          exact q H2 (by walk_at "ex")
        intro z
        cases z
      · apply q_when (b := true)
        · exact et_not (a := false) (et_B (ev_isN (by walk_at "ea") hn))
        · intro _ H1 e1
          exact q H1 (by walk_at "ex")
        intro z
        cases z
abbrev sslope : Stmt := topS 11
theorem scslope : FnScope ["land", "a", "b"] ["land", "a", "b"] (defScope sslope) := ⟨rfl, rfl, rfl, by decide +kernel, rfl, by decide +kernel, by decide +kernel⟩

theorem ok_slope {f : Addr} {fd : FuncData} (F : Fun K "slope" "slope" sslope f fd) : FnOk P w K mg base CX0 1 f fd ["land", "a", "b"] (spU (RSlope K)) := by
  refine F.ok scslope (fun vs H Q E h => ?_) (fun cdv A outer s H vs Q E hr h => ?_)
  · obtain ⟨_, ⟨_, _, _, _, rfl, _⟩, _⟩ := h
    rfl
  · obtain ⟨v, ⟨l, ns, a, b, rfl, a0, a1, b0, b1, hs, rfl⟩, q⟩ := h
    refine ⟨_, (pss_one (ps_ret (pe_tup (pa_cons (pe_op op_sub (pe_ix ix_list (pv 0) (pv 2) (fun _ _ => rfl)) (pe_ix ix_list (pv 0) (pv 1) (fun _ _ => rfl))) (pa_cons (pe_op op_sub (pv 2) (pv 1)) pa_nil))))), ?_⟩
    try dsimp only [cxOf, Cx.nox, Cx.wish]
    apply s_retU
    · walk_at "eu"
    · intro p H1 hp e1 h1
      exact q p H1 hp e1 h1
abbrev ssteeper : Stmt := topS 12
theorem scsteeper : FnScope ["one", "other", "rise", "run", "lift", "length"] ["one", "other"] (defScope ssteeper) := ⟨rfl, rfl, rfl, by decide +kernel, rfl, by decide +kernel, by decide +kernel⟩

theorem ok_steeper {f : Addr} {fd : FuncData} (F : Fun K "steeper" "steeper" ssteeper f fd) : FnOk P w K mg base CX0 1 f fd ["one", "other"] (spV (RSteeper K)) := by
  refine F.ok scsteeper (fun vs H Q E h => ?_) (fun cdv A outer s H vs Q E hr h => ?_)
  · obtain ⟨_, ⟨_, _, _, _, _, _, rfl, _⟩, _⟩ := h
    rfl
  · obtain ⟨v, ⟨p1, p2, r1, n1, r2, n2, rfl, hp1, hp2, b1, b2, b3, b4, rfl⟩, q⟩ := h
    refine ⟨_, (pss_cons (ps_asg (pv 0) (pg_tup rfl (pgs_cons (pg_name (i := 2) scsteeper.nd rfl (Or.inl rfl)) (pgs_cons (pg_name (i := 3) scsteeper.nd rfl (Or.inl rfl)) pgs_nil))))
      (pss_cons (ps_asg (pv 1) (pg_tup rfl (pgs_cons (pg_name (i := 4) scsteeper.nd rfl (Or.inl rfl)) (pgs_cons (pg_name (i := 5) scsteeper.nd rfl (Or.inl rfl)) pgs_nil))))
      (pss_one (ps_ret (pe_cmpR op_gt (pe_op op_mul (pv 2) (pv 5)) (pe_op op_mul (pv 4) (pv 3)) (nomark _)))))), ?_⟩
    try dsimp only [cxOf, Cx.nox, Cx.wish]
    refine q_unpack (x := .int r1) (y := .int n1) (by walk_at "ev") (by walk_at "sq") fun H1 e1 => ?_
    refine q_unpack (x := .int r2) (y := .int n2) (by walk_at "ev") (by walk_at "sq") fun H2 e2 => ?_
    apply s_ret
    · walk_at "ev"
    · intro H3 e3
      exact q H3 (by walk_at "ex")
abbrev s_seen_ahead : Stmt := topS 15
theorem sc_seen_ahead : FnScope ["land", "a", "found", "steepest", "place", "climb"] ["land", "a"] (defScope s_seen_ahead) := ⟨rfl, rfl, rfl, by decide +kernel, rfl, by decide +kernel, by decide +kernel⟩

theorem ok_ahead {f : Addr} {fd : FuncData} (F : Fun K "_seen_ahead" "_seen_ahead" s_seen_ahead f fd) (B : Blt mg) (C_slope : Cal P w K mg base "slope" 1 ["land", "a", "b"] (spU (RSlope K))) (C_steeper : Cal P w K mg base "steeper" 1 ["one", "other"] (spV (RSteeper K))) :
    FnOk P w K mg base CX0 2 f fd ["land", "a"] (spL (RAhead K)) := by
  refine F.ok sc_seen_ahead (fun vs H Q E h => ?_) (fun cdv A outer s H vs Q E hr h => ?_)
  · obtain ⟨_, ⟨_, _, _, rfl, _⟩, _⟩ := h
    rfl
  · obtain ⟨v, ⟨l, land, a, rfl, h1, h2, h3, hs, rfl⟩, q⟩ := h
    refine ⟨_, (pss_cons (ps_set (i := 2) sc_seen_ahead.nd rfl (Or.inl rfl) (pe_lst pa_nil))
      (pss_cons (ps_set (i := 3) sc_seen_ahead.nd rfl (Or.inl rfl) pe_non)
      (pss_cons (ps_for PassesOwn.never rfl (pi_range2 (by rfl) B.m_range (pa_cons (pe_op op_add (pv 1) pe_int) (pa_cons (pe_callB call_len_seq (by rfl) B.m_len PySem.boot_len (pa_cons (pv 0) pa_nil)) pa_nil))) (pg_name (i := 4) sc_seen_ahead.nd rfl (Or.inl rfl)) (pss_cons (ps_set (i := 5) sc_seen_ahead.nd rfl (Or.inl rfl) (pe_cal C_slope hr (pa_cons (pv 0) (pa_cons (pv 1) (pa_cons (pv 4) pa_nil)))))
      (pss_one (ps_if (PW.pt (pw_or (pt_cmpR op_isN (pv 3) pe_non (nomark _)) (pw_or1 (pt_val (pe_cal C_steeper hr (pa_cons (pv 5) (pa_cons (pv 3) pa_nil))))))) (pss_cons (ps_set (i := 3) sc_seen_ahead.nd rfl (Or.inl rfl) (pv 5))
      (pss_one (ps_expr (pe_bm PySem.F.plainAttrs_list PySem.F.slot_list_append PySem.F.type_list_append mt_append (pv 2) (pa_cons (pv 4) pa_nil))))) pss_nil))))
      (pss_one (ps_ret (pv 2)))))), ?_⟩
    try dsimp only [cxOf, Cx.nox, Cx.wish]
    have hll : (land.map V.int).length = land.length := List.length_map ..
    refine q_asgL (xs := []) (by walk_at "eu") fun lp H1 nl e1 hl => ?_
    refine q_asg (v := .non) (by walk_at "ev") fun H2 e2 => ?_
    refine q_forR2 (lo := a + 1) (n := ((land.map V.int).length : Nat)) (by walk_at "ea") (by omega) (fun i σ' H' => (Ex H H' ∧ H' lp = some (.lst ((aheadN land a i).map V.int))) ∧
      ∃ v3 v4 v5, σ' = [some (.ref l), some (.int a), some (.ref lp), some v3, v4, v5] ∧ ((i = 0 ∧ v3 = .non) ∨ ∃ t best, v3 = .ref t ∧ H' t = some (.tup [.int (cel land best - cel land a), .int (best - a)]) ∧ Best land a i best))
      (fun H3 e3 => ⟨⟨by walk_at "ex", by (have z := e3 _ _ (e2 _ _ hl)); exact z⟩, .non, none, none, rfl, .inl ⟨rfl, rfl⟩⟩) ?_ ?_
    · rintro i σ' H3 hi ⟨⟨e3, hl3⟩, v3, v4, v5, rfl, hv⟩
      rw [hll] at hi
      have hsl : SqL K H3 l (land.map V.int) := by walk_at "sq"
      refine q_asgU (xs := [.int (cel land (a + 1 + i) - cel land a), .int (a + 1 + i - a)]) (by walk_at "eu") fun t4 H4 n4 e4 h4 => ?_
      have hl4 := e4 _ _ hl3
      rcases hv with ⟨rfl, rfl⟩ | ⟨t, best, rfl, ht, hb⟩
      · apply s_when (b := true)
        · refine et_is (b := true) ?_ rfl
          refine et_or (a := true) (b := true) (et_is (by walk_at "et") (by rfl)) (fun z => by cases z)
        · intro _ H5 e5
          have hl5 := e5 _ _ hl4
          refine q_asg (v := .ref t4) (by walk_at "ev") fun H6 e6 => ?_
          refine s_app (e6 _ _ hl5) (by walk_at "ev") (by walk_at "ev") (by rw [List.length_map]; exact Nat.lt_of_le_of_lt (aheadN_len land a 0) (by decide)) fun H7 e7 => ?_
          have hy : seesB land a (a + 1 + ((0 : Nat) : Int)) = true := by
            have z := sees_next land a
            simpa using z
          have hne : t4 ≠ lp := ne_of h4 hl4 (by intro z; cases z)
          refine ⟨⟨Ex.mut (by walk_at "ex") nl, ?_⟩, _, _, _, rfl, .inr ⟨t4, a + 1 + ((0 : Nat) : Int), rfl, ?_, ?_⟩⟩
          · rw [upd_same, aheadN_yes hy, List.map_append]
            rfl
          · rw [upd_ne hne]
            exact e7 _ _ (e6 _ _ (e5 _ _ h4))
          · have z := best_one land a
            simpa using z
        · intro z
          cases z
      · have ht4 := e4 _ _ ht
        obtain ⟨hb1, hb2, _⟩ := id hb
        apply s_when (b := decide ((cel land best - cel land a) * (a + 1 + i - a) < (cel land (a + 1 + i) - cel land a) * (best - a)))
        · refine et_is (b := false || decide ((cel land best - cel land a) * (a + 1 + i - a) < (cel land (a + 1 + i) - cel land a) * (best - a))) ?_ (Bool.false_or _)
          refine et_or (et_is (by walk_at "et") (by rfl)) (fun _ => ?_)
          refine et_B ?_
          exact ev_steeper (by walk_at "ea") (by walk_at "sq") (by walk_at "sq") (by omega) (by omega) (by omega) (by omega)
        · intro hyes H5 e5
          obtain ⟨hB, hy⟩ := best_yes hb (of_decide_eq_true hyes)
          have hl5 := e5 _ _ hl4
          refine q_asg (v := .ref t4) (by walk_at "ev") fun H6 e6 => ?_
          refine s_app (e6 _ _ hl5) (by walk_at "ev") (by walk_at "ev") (by rw [List.length_map]; exact Nat.lt_of_le_of_lt (aheadN_len land a i) (by omega)) fun H7 e7 => ?_
          have hne : t4 ≠ lp := ne_of h4 hl4 (by intro z; cases z)
          refine ⟨⟨Ex.mut (by walk_at "ex") nl, ?_⟩, _, _, _, rfl, .inr ⟨t4, a + 1 + (i : Int), rfl, ?_, hB⟩⟩
          · rw [upd_same, aheadN_yes hy, List.map_append]
            rfl
          · rw [upd_ne hne]
            exact e7 _ _ (e6 _ _ (e5 _ _ h4))
        · intro hno H5 e5
          obtain ⟨hB, hy⟩ := best_no hb (of_decide_eq_false hno)
          refine ⟨⟨by walk_at "ex", ?_⟩, _, _, _, rfl, .inr ⟨t, best, rfl, e5 _ _ ht4, hB⟩⟩
          rw [aheadN_no hy]
          exact e5 _ _ hl4
    · rintro σ' H3 ⟨⟨e3, hl3⟩, v3, v4, v5, rfl, _⟩
      apply s_ret
      · walk_at "ev"
      · intro H4 e4
        refine q lp H4 nl (by walk_at "ex") ?_
        have z := e4 _ _ hl3
        rw [hll] at z
        exact z
abbrev ssights : Stmt := topS 14
theorem scsights : FnScope ["land", "a", "b"] ["land"] (defScope ssights) := ⟨rfl, rfl, rfl, by decide +kernel, rfl, by decide +kernel, by decide +kernel⟩

theorem ok_sights {f : Addr} {fd : FuncData} (F : Fun K "sights" "sights" ssights f fd) (B : Blt mg) (C__seen_ahead : Cal P w K mg base "_seen_ahead" 2 ["land", "a"] (spL (RAhead K))) : FnOk P w K mg base CX0 3 f fd ["land"] (spP (RSights K)) := by
  refine F.ok scsights (fun vs H Q E h => ?_) (fun cdv A outer s H vs Q E hr h => ?_)
  · obtain ⟨_, ⟨_, _, rfl, _⟩, _⟩ := h
    rfl
  · obtain ⟨v, ⟨l, land, rfl, h1, h2, rfl⟩, q⟩ := h
    refine ⟨_, (pss_one (ps_ret (pe_lc2 (wi1 := iList K (tCall (spL (RAhead K)) [] E0 (tCons (tVar 0) (tCons (tVar 1) tNil)))) (own := [("a", 1), ("b", 2)]) (vs1 := [2]) (g := gName 1) (g1 := gName 2) (tt := tYes) (tt1 := tYes) rfl scsights.nd (pi_range1 (by rfl) B.m_range (pa_cons (pe_callB call_len_seq (by rfl) B.m_len PySem.boot_len (pa_cons (pv 0) pa_nil)) pa_nil)) (blkOk_by (N := ["land", "a", "b"]) (sc := defScope ssights) (by decide +kernel)) (by decide) (fun _ _ _ _ _ => pg_name (i := 1) scsights.nd rfl (Or.inl rfl)) (fun _ _ _ _ _ => pts_nil) (fun _ _ _ _ _ => (pi_list (pe_cal C__seen_ahead hr (pa_cons (pv 0) (pa_cons (pv 1) pa_nil))))) (fun _ _ _ _ _ => pg_name (i := 2) scsights.nd rfl (Or.inl rfl)) (fun _ _ _ _ _ => pts_nil) (fun _ _ _ _ _ => (pe_tup (pa_cons (pv 1) (pa_cons (pv 2) pa_nil))))))), ?_⟩
    try dsimp only [cxOf, Cx.nox, Cx.wish]
    refine s_retP (ps := flatP (fun k => aheadOf land (k : Int)) ((((land.map V.int).length : Nat) : Int)).toNat) ?_ ?_
    · refine ep_lc2 (fun k => aheadOf land (k : Int)) (by walk_at "ea") (by rw [List.length_map]; omega) (fun k => ?_) (fun _ => rfl) (fun _ _ => rfl) ?_ ?_
      · have := aheadN_len land (k : Int) ((land.length : Int) - ((k : Int) + 1)).toNat
        unfold aheadOf
        omega
      · intro k H1 e1 hk
        rw [List.length_map] at hk
        have hsl : SqL K H1 l (land.map V.int) := by walk_at "sq"
        refine el_ahead (by walk_at "ea") (by walk_at "sq") (by omega) (by omega) h1
      · intro k b H1 e1 hk
        walk_at "ea"
    · intro p H1 as hp e1 hl t1
      rw [List.length_map] at t1
      exact q p H1 as hp e1 hl t1
abbrev s_is_in_bound : Stmt := topS 21
theorem sc_is_in_bound : FnScope ["height"] ["height"] (defScope s_is_in_bound) := ⟨rfl, rfl, rfl, by decide +kernel, rfl, by decide +kernel, by decide +kernel⟩

theorem ok_inB {f : Addr} {fd : FuncData} (F : Fun K "_is_in_bound" "_is_in_bound" s_is_in_bound f fd) (T : Csts mg) : FnOk P w K mg base CX0 1 f fd ["height"] (spV RInB) := by
  refine F.ok sc_is_in_bound (fun vs H Q E h => ?_) (fun cdv A outer s H vs Q E hr h => ?_)
  · obtain ⟨_, ⟨_, rfl, _⟩, _⟩ := h
    rfl
  · obtain ⟨v, ⟨i, rfl, rfl⟩, q⟩ := h
    obtain ⟨tb, g_BOUND⟩ := T.bound
    refine ⟨_, (pss_one (ps_ret (pe_chain op_le op_le (pe_un un_neg (pe_glob (v := .int 1000000000000000000) (by rfl) g_BOUND ⟨_, rfl⟩)) (pv 0) (pe_glob (v := .int 1000000000000000000) (by rfl) g_BOUND ⟨_, rfl⟩)))), ?_⟩
    try dsimp only [cxOf, Cx.nox, Cx.wish]
    rw [show L2.start ["height"] [.int i] = [some (.int i)] from rfl]
    refine s_ret (v := .bl (decide (-1000000000000000000 ≤ i) && decide (i ≤ 1000000000000000000))) (ev_chain (x := .int (-1000000000000000000)) (ev_int (i := -1000000000000000000) (by walk_at "ev") rfl) (by walk_at "ev") (by walk_at "ev") (by walk_at "rv") (by walk_at "rv")) fun H1 e1 => q H1 e1
abbrev schecked : Stmt := topS 19
theorem scchecked : FnScope ["land", "height"] ["land"] (defScope schecked) := ⟨rfl, rfl, rfl, by decide +kernel, rfl, by decide +kernel, by decide +kernel⟩

theorem ok_checked {f N : Addr} {fd : FuncData} (F : Fun K "checked" "checked" schecked f fd) (B : Blt mg) (T : Csts mg) (X_NoLand : ExK K mg "NoLand" N) (C_is_whole : Cal P w K mg base "is_whole" 1 ["number"] (spV RWholeV)) (C__is_in_bound : Cal P w K mg base "_is_in_bound" 1 ["height"] (spV RInB)) :
    FnOk P w K mg base (L2.CX P w) 2 f fd ["land"] (spLX (RChecked K) (RNoLand N)) := by
  refine F.okX scchecked (fun vs H Q E h => ?_) (fun cdv A outer s H vs Q E hr h => ?_)
  · rcases h with ⟨_, ⟨_, _, rfl, _⟩, _⟩ | ⟨_, ⟨_, rfl, _⟩, _⟩ <;> rfl
  · obtain ⟨tm, g_MOST_HILLS⟩ := T.most
    rcases h with ⟨v, ⟨l, ns, rfl, hl, h1, h2, h3, rfl⟩, q⟩ | ⟨C, ⟨x, rfl, hb, rfl⟩, q⟩
    · refine ⟨_, (pss_cons (ps_if (pt_not (pt_val (pe_callB call_isi (by rfl) B.m_isinstance (by decide +kernel) (pa_cons (pv 0) (pa_cons (pe_bltn (v := .ty "list") (by rfl) B.m_list (by decide +kernel) rfl) pa_nil))))) (pss_one (ps_raise rfl (takes_of rfl rfl rfl rfl) (pmk_own PySem.F.excBase_ValueError X_NoLand.x X_NoLand.g X_NoLand.k (raises_own X_NoLand.b X_NoLand.t) (by rfl)))) pss_nil)
      (pss_cons (ps_if (PW.pt (pw_or (pt_cmpR op_lt (pe_callB call_len_seq (by rfl) B.m_len PySem.boot_len (pa_cons (pv 0) pa_nil)) pe_int (nomark _)) (pw_or1 (pt_cmpR op_gt (pe_callB call_len_seq (by rfl) B.m_len PySem.boot_len (pa_cons (pv 0) pa_nil)) (pe_glob (v := .int 200) (by rfl) g_MOST_HILLS ⟨_, rfl⟩) (nomark _))))) (pss_one (ps_raise rfl (takes_of rfl rfl rfl rfl) (pmk_own PySem.F.excBase_ValueError X_NoLand.x X_NoLand.g X_NoLand.k (raises_own X_NoLand.b X_NoLand.t) (by rfl)))) pss_nil)
      (pss_cons (ps_for (passes_of rfl) rfl (pi_list (pv 0)) (pg_name (i := 1) scchecked.nd rfl (Or.inl rfl)) (pss_one (ps_if (PW.pt (pw_or (pt_not (pt_val (pe_cal C_is_whole hr (pa_cons (pv 1) pa_nil)))) (pw_or1 (pt_not (pt_val (pe_cal C__is_in_bound hr (pa_cons (pv 1) pa_nil))))))) (pss_one (ps_raise rfl (takes_of rfl rfl rfl rfl) (pmk_own PySem.F.excBase_ValueError X_NoLand.x X_NoLand.g X_NoLand.k (raises_own X_NoLand.b X_NoLand.t) (by rfl)))) pss_nil)))
      (pss_one (ps_ret (pe_callTy call_list_of (by rfl) B.m_list (by decide +kernel) (pa_cons (pv 0) pa_nil))))))), ?_⟩
      try dsimp only [cxOf, Cx.nox, Cx.wish]
      rw [show L2.start ["land", "height"] [.ref l] = [some (.ref l), none] from rfl]
      have hll : (ns.map V.int).length = ns.length := List.length_map ..
      apply q_when (b := false)
      · exact et_is (a := !true) (by walk_at "et") rfl
      · intro z
        cases z
      intro _ H1 e1
      have hl1 := e1 _ _ hl
      apply q_when (b := false)
      · refine et_is (by walk_at "et") ?_
        rw [hll, decide_eq_false (by omega), decide_eq_false (by omega)]
        rfl
      · intro z
        cases z
      intro _ H2 e2
      have hl2 := e2 _ _ hl1
      refine q_forLn (a := l) (xs := ns.map V.int) (by walk_at "ev") (sq_of hl2) (fun i σ' H' => Ex H2 H' ∧ ∃ v1, σ' = [some (.ref l), v1]) (fun H3 e3 => ⟨e3, none, rfl⟩) (fun i σ' H' _ w => sq_of (w.1 _ _ hl2)) ?_ ?_
      · rintro i x σ' H3 hx ⟨e3, v1, rfl⟩
        obtain ⟨hi, rfl⟩ := map_at hx
        have z := get_cel (ns := ns) (j := (i : Int)) (by omega) (by omega)
        have hin := h3 _ (List.mem_of_getElem? z)
        walk_at "st"
        apply s_when (b := false)
        · refine et_is (et_or (et_not (et_B (ev_isW (by walk_at "ea")))) fun _ => et_not (et_B (ev_inB (by walk_at "ea")))) ?_
          rw [hin]
          rfl
        · intro z
          cases z
        intro _ H4 e4
        exact ⟨by walk_at "ex", _, rfl⟩
      · rintro σ' H3 ⟨e3, v1, rfl⟩
        refine s_retL (xs := ns.map V.int) (by walk_at "eu") fun p H4 np e4 hp => ?_
        exact q p H4 (fresh_back (by walk_at "ex") np) (by walk_at "ex") hp
    · refine ⟨_, (pss_cons (ps_if (pt_not (pt_val (pe_callB call_isi (by rfl) B.m_isinstance (by decide +kernel) (pa_cons (pv 0) (pa_cons (pe_bltn (v := .ty "list") (by rfl) B.m_list (by decide +kernel) rfl) pa_nil))))) (pss_one (ps_raise rfl (takes_of rfl rfl rfl rfl) (pmk_own PySem.F.excBase_ValueError X_NoLand.x X_NoLand.g X_NoLand.k (raises_own X_NoLand.b X_NoLand.t) (by rfl)))) pss_nil)
      (pss_cons (ps_if (PW.pt (pw_or (pt_cmpR op_lt (pe_callB call_len_seq (by rfl) B.m_len PySem.boot_len (pa_cons (pv 0) pa_nil)) pe_int (nomark _)) (pw_or1 (pt_cmpR op_gt (pe_callB call_len_seq (by rfl) B.m_len PySem.boot_len (pa_cons (pv 0) pa_nil)) (pe_glob (v := .int 200) (by rfl) g_MOST_HILLS ⟨_, rfl⟩) (nomark _))))) (pss_one (ps_raise rfl (takes_of rfl rfl rfl rfl) (pmk_own PySem.F.excBase_ValueError X_NoLand.x X_NoLand.g X_NoLand.k (raises_own X_NoLand.b X_NoLand.t) (by rfl)))) pss_nil)
      (pss_cons (ps_for (passes_of rfl) rfl (pi_list (pv 0)) (pg_name (i := 1) scchecked.nd rfl (Or.inl rfl)) (pss_one (ps_if (PW.pt (pw_or (pt_not (pt_val (pe_cal C_is_whole hr (pa_cons (pv 1) pa_nil)))) (pw_or1 (pt_not (pt_val (pe_cal C__is_in_bound hr (pa_cons (pv 1) pa_nil))))))) (pss_one (ps_raise rfl (takes_of rfl rfl rfl rfl) (pmk_own PySem.F.excBase_ValueError X_NoLand.x X_NoLand.g X_NoLand.k (raises_own X_NoLand.b X_NoLand.t) (by rfl)))) pss_nil)))
      (pss_one (ps_ret (pe_callTy call_list_of (by rfl) B.m_list (by decide +kernel) (pa_cons (pv 0) pa_nil))))))), ?_⟩
      try dsimp only [cxOf, Cx.nox, Cx.wish]
      rw [show L2.start ["land", "height"] [x] = [some (x), none] from rfl]
      cases hb with
      | lst a xs h h1 h2 ok b hbm hbb =>
        apply q_when (b := false)
        · exact et_is (a := !true) (by walk_at "et") rfl
        · intro z
          cases z
        intro _ H1 e1
        have hl1 := e1 _ _ h
        apply q_when (b := false)
        · refine et_is (by walk_at "et") ?_
          rw [decide_eq_false (by omega), decide_eq_false (by omega)]
          rfl
        · intro z
          cases z
        intro _ H2 e2
        have hl2 := e2 _ _ hl1
        refine q_forLn (a := a) (xs := xs) (by walk_at "ev") (sq_of hl2) (fun i σ' H' => Ex H2 H' ∧ (∀ j x, j < i → xs[j]? = some x → ∃ n : Int, x = .int n ∧ inB n = true) ∧ ∃ v1, σ' = [some (.ref a), v1]) (fun H3 e3 => ⟨e3, fun j x hj => absurd hj (Nat.not_lt_zero j), none, rfl⟩) (fun i σ' H' _ w => sq_of (w.1 _ _ hl2)) ?_ ?_
        · rintro i x σ' H3 hx ⟨e3, good, v1, rfl⟩
          walk_at "st"
          rcases ok x (List.mem_of_getElem? hx) with ⟨n, rfl, hin⟩ | hbx
          · apply s_when (b := false)
            · refine et_is (et_or (et_not (et_B (ev_isW (by walk_at "ea")))) fun _ => et_not (et_B (ev_inB (by walk_at "ea")))) ?_
              rw [hin]
              rfl
            · intro z
              cases z
            intro _ H4 e4
            refine ⟨by walk_at "ex", fun j y hj hy => ?_, _, rfl⟩
            by_cases ej : j = i
            · subst ej
              rw [hx] at hy
              cases hy
              exact ⟨n, rfl, hin⟩
            · exact good j y (by omega) hy
          · have hbx := hbx.ex (e1.trans (e2.trans e3))
            apply s_when (b := true)
            · cases hbx with
              | int n hn =>
                refine et_is (et_or (et_not (et_B (ev_isW (by walk_at "ea")))) fun _ => et_not (et_B (ev_inB (by walk_at "ea")))) ?_
                rw [hn]
                rfl
              | no _ hn => exact et_is (et_or (b := false) (et_not (et_B (ev_isN (by walk_at "ea") hn))) fun z => by cases z) rfl
            · intro _ H4 e4
              exact q H4 (by walk_at "ex")
            intro z
            cases z
        · rintro σ' H3 ⟨e3, good, v1, rfl⟩
          obtain ⟨j, hj⟩ := List.getElem?_of_mem hbm
          obtain ⟨n, rfl, hin⟩ := good j b (List.getElem?_eq_some_iff.mp hj).1 hj
          cases hbb with
          | int _ hn =>
            rw [hin] at hn
            cases hn
          | no _ hn => cases hn
      | none a h =>
        apply q_when (b := false)
        · exact et_is (a := !true) (by walk_at "et") rfl
        · intro z
          cases z
        intro _ H1 e1
        have hl1 := e1 _ _ h
        apply q_when (b := true)
        · exact et_is (et_or (a := true) (b := false) (et_is (by walk_at "et") (by rfl)) fun z => by cases z) rfl
        · intro _ H2 e2
          exact q H2 (by walk_at "ex")
        intro z
        cases z
      | many a xs h hl hm =>
        apply q_when (b := false)
        · exact et_is (a := !true) (by walk_at "et") rfl
        · intro z
          cases z
        intro _ H1 e1
        have hl1 := e1 _ _ h
        apply q_when (b := true)
        · refine et_is (by walk_at "et") ?_
          rw [decide_eq_true (p := (200 : Int) < (xs.length : Int)) (by omega), Bool.or_true]
        · intro _ H2 e2
          exact q H2 (by walk_at "ex")
        intro z
        cases z
      | _ =>
        apply q_when (b := true)
        · exact et_is (a := !false) (by walk_at "et") rfl
        · intro _ H1 e1
          exact q H1 e1
        intro z
        cases z
abbrev s__init__ : Stmt := inClass (topS 20) 0
theorem sc__init__ : FnScope ["self", "heights"] ["self", "heights"] (defScope s__init__) := ⟨rfl, rfl, rfl, by decide +kernel, rfl, by decide +kernel, by decide +kernel⟩

theorem ok_init {f C N : Addr} {fd : FuncData} (F : Fun K "__init__" "Land.__init__" s__init__ f fd) (L : LandK K C) (C_checked : CalX P w K mg base "checked" 2 ["land"] (spLX (RChecked K) (RNoLand N))) :
    FnOk P w K mg base (L2.CX P w) 3 f fd ["self", "heights"] (spInit C N) := by
  refine F.okX sc__init__ (fun vs H Q E h => ?_) (fun cdv A outer s H vs Q E hr h => ?_)
  · rcases h with ⟨_, _, _, _, rfl, _⟩ | ⟨_, _, rfl, _⟩ <;> rfl
  · rcases h with ⟨p, dx, l, ns, rfl, hp, hl, nlp, h1, h2, h3, q⟩ | ⟨p, x, rfl, hb, q⟩
    · refine ⟨_, (pss_cons (ps_fld (pv 0) (pe_calX C_checked hr (takes_of rfl rfl rfl rfl) (pa_cons (pv 1) pa_nil)) rfl)
      (pss_one (ps_fld (pv 0) (pe_lst pa_nil) rfl))), ?_⟩
      try dsimp only [cxOf, Cx.nox, Cx.wish]
      rw [show L2.start ["self", "heights"] [.ref p, .ref l] = [some (.ref p), some (.ref l)] from rfl]
      refine q_fldL (ys := ns.map V.int) (el_calX (vs := [.ref l]) (by walk_at "ea") fun H1 e1 => ⟨l, ns, rfl, e1 _ _ hl, h1, h2, h3, rfl⟩) (by walk_at "ev") hp L.cl L.nh (by show 0 < 1000; decide) fun hp2 H1 nh e1 hh => ?_
      have nph : p ≠ hp2 := fun z => by rw [← z, hp] at nh; cases nh
      have hh2 : upd H1 p (.ins C dx (putF "_heights" (.ref hp2) [])) hp2 = some (.lst (ns.map V.int)) := by
        rw [upd_ne (fun z => nph z.symm)]
        exact hh
      have hp2' : upd H1 p (.ins C dx (putF "_heights" (.ref hp2) [])) p = some (.ins C dx (putF "_heights" (.ref hp2) [])) := upd_same
      have keep : ∀ b o, b ≠ p → H b = some o → upd H1 p (.ins C dx (putF "_heights" (.ref hp2) [])) b = some o := fun b o hb ho => by
        rw [upd_ne hb]
        exact e1 _ _ ho
      revert hh2 hp2' keep
      generalize upd H1 p (.ins C dx (putF "_heights" (.ref hp2) [])) = H2
      intro hh2 hp2' keep
      refine s_fldL (ys := []) (by walk_at "eu") (by walk_at "ev") hp2' L.cl L.nl (by show 1 < 1000; decide) fun lp H3 nl e3 hlp => ?_
      have npl : p ≠ lp := fun z => by rw [← z, hp2'] at nl; cases nl
      have nhl : hp2 ≠ lp := fun z => by rw [← z, hh2] at nl; cases nl
      refine q hp2 lp _ nh ?_ nhl (fun b o hb ho => ?_) upd_same ?_ ?_
      · cases e : H lp with
        | none => rfl
        | some o =>
          rw [keep lp o (fun z => npl z.symm) e] at nl
          cases nl
      · rw [upd_ne hb]
        exact e3 _ _ (keep b o hb ho)
      · rw [upd_ne (fun z => nph z.symm)]
        exact e3 _ _ hh2
      · rw [upd_ne (fun z => npl z.symm)]
        exact hlp
    · refine ⟨_, (pss_cons (ps_fld (pv 0) (pe_calX C_checked hr (takes_of rfl rfl rfl rfl) (pa_cons (pv 1) pa_nil)) rfl)
      (pss_one (ps_fld (pv 0) (pe_lst pa_nil) rfl))), ?_⟩
      try dsimp only [cxOf, Cx.nox, Cx.wish]
      rw [show L2.start ["self", "heights"] [.ref p, x] = [some (.ref p), some (x)] from rfl]
      exact rx_calL (vs := [x]) (by walk_at "ea") (fun H1 e1 => ⟨x, rfl, hb.ex e1, rfl⟩) fun H1 e1 => q H1 e1
abbrev stold : Stmt := inClass (topS 20) 1
theorem sctold : FnScope ["self"] ["self"] (defScope stold) := ⟨rfl, rfl, rfl, by decide +kernel, rfl, by decide +kernel, by decide +kernel⟩

theorem ok_told {f C : Addr} {fd : FuncData} (F : Fun K "told" "Land.told" stold f fd) (B : Blt mg) (L : LandK K C) : FnOk P w K mg base CX0 1 f fd ["self"] (spL (RTold C)) := by
  refine F.ok sctold (fun vs H Q E h => ?_) (fun cdv A outer s H vs Q E hr h => ?_)
  · obtain ⟨_, ⟨_, _, _, _, _, rfl, _⟩, _⟩ := h
    rfl
  · obtain ⟨v, ⟨p, dx, hp, lp, ns, rfl, hx, hh, rfl⟩, q⟩ := h
    refine ⟨_, (pss_one (ps_ret (pe_callTy call_list_of (by rfl) B.m_list (by decide +kernel) (pa_cons (pe_fld (pv 0) rfl) pa_nil)))), ?_⟩
    try dsimp only [cxOf, Cx.nox, Cx.wish]
    rw [show L2.start ["self"] [.ref p] = [some (.ref p)] from rfl]
    refine s_retL (xs := ns.map V.int) (el_cb (ea_cons (ev_fld (by walk_at "ev") hx L.cl L.nh (fldsL_h hp lp)) ea_nil) (rcl_list (sq_of hh))) fun r H1 nr e1 hr => q r H1 nr e1 hr
abbrev sseen : Stmt := inClass (topS 20) 2
theorem scseen : FnScope ["self"] ["self"] (defScope sseen) := ⟨rfl, rfl, rfl, by decide +kernel, rfl, by decide +kernel, by decide +kernel⟩

theorem ok_seen {f C : Addr} {fd : FuncData} (F : Fun K "seen" "Land.seen" sseen f fd) (B : Blt mg) (L : LandK K C) (C_sights : Cal P w K mg base "sights" 3 ["land"] (spP (RSights K))) : FnOk P w K mg base CX0 4 f fd ["self"] (spP (RSeen C)) := by
  refine F.ok scseen (fun vs H Q E h => ?_) (fun cdv A outer s H vs Q E hr h => ?_)
  · obtain ⟨_, ⟨_, _, _, _, _, rfl, _⟩, _⟩ := h
    rfl
  · obtain ⟨xs, ⟨p, dx, hp, lp, ns, rfl, hx, hh, few, rfl⟩, q⟩ := h
    refine ⟨_, (pss_one (ps_ret (pe_cal C_sights hr (pa_cons (pe_fld (pv 0) rfl) pa_nil)))), ?_⟩
    try dsimp only [cxOf, Cx.nox, Cx.wish]
    rw [show L2.start ["self"] [.ref p] = [some (.ref p)] from rfl]
    exact s_retP (ep_sights (ea_cons (ev_fld (by walk_at "ev") hx L.cl L.nh (fldsL_h hp lp)) ea_nil) (sq_of hh) (by omega)) fun r H3 bs nr e3 hr tr => q r H3 bs nr e3 hr tr
abbrev s_without : Stmt := topS 22
theorem sc_without : FnScope ["pairs", "others", "known", "pair"] ["pairs", "others"] (defScope s_without) := ⟨rfl, rfl, rfl, by decide +kernel, rfl, by decide +kernel, by decide +kernel⟩

theorem ok_without {f : Addr} {fd : FuncData} (F : Fun K "_without" "_without" s_without f fd) (B : Blt mg) : FnOk P w K mg base CX0 1 f fd ["pairs", "others"] (spP RWithout) := by
  refine F.ok sc_without (fun vs H Q E h => ?_) (fun cdv A outer s H vs Q E hr h => ?_)
  · obtain ⟨_, ⟨_, _, _, _, rfl, _⟩, _⟩ := h
    rfl
  · obtain ⟨xs, ⟨p, o, ps, os, rfl, hp, ho, h1, h2, rfl⟩, q⟩ := h
    refine ⟨_, (pss_cons (ps_set (i := 2) sc_without.nd rfl (Or.inr rfl) (pe_callTy (cr_setP rfl hr.units) (by rfl) B.m_set (by decide +kernel) (pa_cons (pv 1) pa_nil)))
      (pss_one (ps_ret (pe_lc (own := [("pair", 3)]) (g := gName 3) (tt := tTest (tOp (rNotInP K P w) (tVar 3) (tVar 2))) rfl sc_without.nd (pi_list (pv 0)) (blkOk_by (N := ["pairs", "others", "known", "pair"]) (sc := defScope s_without) (by decide +kernel)) (fun _ _ _ _ _ => (pg_name (i := 3) sc_without.nd rfl (Or.inl rfl))) (fun _ _ _ _ _ => (pts_one (pt_cmpR (op_notInP hr.units) (pv 3) (pv 2) rfl))) (fun _ _ _ _ _ => (pv 3)))))), ?_⟩
    try dsimp only [cxOf, Cx.nox, Cx.wish]
    rw [show L2.start ["pairs", "others", "known", "pair"] [.ref p, .ref o] = [some (.ref p), some (.ref o), none, none] from rfl]
    refine q_setP (by walk_at "ea") ho h2 fun a H1 na e1 hset => ?_
    walk_at "st"
    refine s_retP (ep_keep (fun q => !decide (q ∈ os)) (by walk_at "ev") (hp.ex e1) (by omega) (fun _ => rfl) (fun _ => rfl) fun q b H2 e2 hb _ => ?_) fun r H2 as nr e2 hr tr => q r H2 as (fresh_back e1 nr) (e1.trans e2) hr tr
    walk_at "wi"
    exact et_test (ev_op (by walk_at "ev") (by walk_at "ev") (rv_notInP (hset.ex e2) hb))
abbrev s_moved : Stmt := inClass (topS 20) 5
theorem sc_moved : FnScope ["self", "place", "by", "ahead", "behind"] ["self", "place", "by"] (defScope s_moved) := ⟨rfl, rfl, rfl, by decide +kernel, rfl, by decide +kernel, by decide +kernel⟩

theorem ok_moved {f C : Addr} {fd : FuncData} (F : Fun K "_moved" "Land._moved" s_moved f fd) (B : Blt mg) (L : LandK K C) (C_sights : Cal P w K mg base "sights" 3 ["land"] (spP (RSights K))) (C__without : Cal P w K mg base "_without" 1 ["pairs", "others"] (spP RWithout)) :
    FnOk P w K mg base CX0 4 f fd ["self", "place", "by"] (spMoved C) := by
  refine F.ok sc_moved (fun vs H Q E h => ?_) (fun cdv A outer s H vs Q E hr h => ?_)
  · obtain ⟨_, _, _, _, _, _, _, _, rfl, _⟩ := h
    rfl
  · obtain ⟨p, dx, hp, lp, ns, a, b, Hb, rfl, hx, hh, lt, few, nb, eb, q⟩ := h
    refine ⟨_, (pss_cons (ps_set (i := 3) sc_moved.nd rfl (Or.inl rfl) (pe_cal C_sights hr (pa_cons (pe_fld (pv 0) rfl) pa_nil)))
      (pss_cons (ps_augS (pe_fld (pv 0) rfl) (pv 1) get_listI (pv 2) ip_add set_list)
      (pss_cons (ps_set (i := 4) sc_moved.nd rfl (Or.inl rfl) (pe_cal C_sights hr (pa_cons (pe_fld (pv 0) rfl) pa_nil)))
      (pss_one (ps_ret (pe_tup (pa_cons (pe_cal C__without hr (pa_cons (pv 4) (pa_cons (pv 3) pa_nil))) (pa_cons (pe_cal C__without hr (pa_cons (pv 3) (pa_cons (pv 4) pa_nil))) pa_nil)))))))), ?_⟩
    try dsimp only [cxOf, Cx.nox, Cx.wish]
    rw [show L2.start ["self", "place", "by", "ahead", "behind"] [.ref p, .int (a : Int), .int b] = [some (.ref p), some (.int (a : Int)), some (.int b), none, none] from rfl]
    have fh := fldsL_h hp lp
    refine q_asgP (ps := sightsOf ns) (ep_sights (ea_cons (ev_fld (by walk_at "ev") hx L.cl L.nh fh) ea_nil) (sq_of hh) (by omega)) fun ap H1 as na e1 hap tap => ?_
    walk_at "st"
    have at_a : (ns.map V.int)[a]? = some (.int (cel ns (a : Int))) := by
      rw [List.getElem?_map]
      unfold cel
      rw [List.getD_eq_getElem?_getD, Int.toNat_natCast, List.getElem?_eq_getElem lt]
      rfl
    refine q_augL (p := hp) (k := a) (b := b) (ev_fld (by walk_at "ev") (e1 _ _ hx) L.cl L.nh fh) (by walk_at "ev") (by walk_at "ev") (e1 _ _ hh) at_a fun H2 e2 => ?_
    have hh2 := e2 _ _ (e1 _ _ hh)
    have nap : ap ≠ hp := fun z => by rw [z, hh] at na; cases na
    have npp : p ≠ hp := fun z => by rw [z, hh] at hx; cases hx
    have pa := (PrL.ex e2 ⟨as, hap, tap⟩).set (ys := (ns.map V.int).set a (.int (cel ns (a : Int) + b))) nap hh2
    have hx3 : upd H2 hp (.lst ((ns.map V.int).set a (.int (cel ns (a : Int) + b)))) p = some (.ins C dx (fldsL hp lp)) := by
      rw [upd_ne npp]
      exact e2 _ _ (e1 _ _ hx)
    have hh3 : upd H2 hp (.lst ((ns.map V.int).set a (.int (cel ns (a : Int) + b)))) hp = some (.lst ((liftL ns a b).map V.int)) := by
      rw [upd_same]
      unfold liftL
      rw [List.map_set]
    have eb3 : Ex Hb (upd H2 hp (.lst ((ns.map V.int).set a (.int (cel ns (a : Int) + b))))) := Ex.mut ((eb.trans e1).trans e2) nb
    have back : ∀ t, upd H2 hp (.lst ((ns.map V.int).set a (.int (cel ns (a : Int) + b)))) t = none → H t = none := fun t z => free_set (e1.trans e2) z
    revert pa hx3 hh3 eb3 back
    generalize upd H2 hp (.lst ((ns.map V.int).set a (.int (cel ns (a : Int) + b)))) = H3
    intro pa hx3 hh3 eb3 back
    have ll := liftL_len ns a b
    refine q_asgP (ps := sightsOf (liftL ns a b)) (ep_sights (ea_cons (ev_fld (by walk_at "ev") hx3 L.cl L.nh fh) ea_nil) (sq_of hh3) (by omega)) fun bp H4 bs nbp e4 hbp tbp => ?_
    walk_at "st"
    have pa4 := pa.ex e4
    have pb4 : PrL H4 bp (sightsOf (liftL ns a b)) := ⟨bs, hbp, tbp⟩
    have f1 := sights_few few
    have f2 : (sightsOf (liftL ns a b)).length ≤ 2000 := sights_few (by omega)
    refine s_ret2P (ep_cal (vs := [.ref bp, .ref ap]) (by walk_at "ea") fun H5 e5 => ⟨bp, ap, _, _, rfl, pb4.ex e5, pa4.ex e5, f2, f1, rfl⟩) (fun H6 e6 => ep_cal (vs := [.ref ap, .ref bp]) (by walk_at "ea") fun H5 e5 => ⟨ap, bp, _, _, rfl, (pa4.ex e6).ex e5, (pb4.ex e6).ex e5, f1, f2, rfl⟩) fun t x y H5 nt nx ny xy tx ty e5 ht px py => ?_
    exact q t x y H5 (back t (fresh_back e4 nt)) (back x (fresh_back e4 nx)) (back y (fresh_back e4 ny)) xy tx ty (eb3.trans (e4.trans e5)) (e5 _ _ (e4 _ _ hh3)) ht px py
abbrev slift : Stmt := inClass (topS 20) 3
theorem sclift : FnScope ["self", "place", "by"] ["self", "place", "by"] (defScope slift) := ⟨rfl, rfl, rfl, by decide +kernel, rfl, by decide +kernel, by decide +kernel⟩

theorem ok_lift {f C N T : Addr} {fd : FuncData} (F : Fun K "lift" "Land.lift" slift f fd) (B : Blt mg) (L : LandK K C) (X_TooHigh : ExK K mg "TooHigh" T) (C_is_whole : Cal P w K mg base "is_whole" 1 ["number"] (spV RWholeV)) (C__is_in_bound : Cal P w K mg base "_is_in_bound" 1 ["height"] (spV RInB))
    (C_check_hill : CalX P w K mg base "check_hill" 2 ["land", "place"] (spVX (RPlace K) (RNoPlace K N))) (C__moved : CalM P w K mg base CX0 C "_moved" 4 ["self", "place", "by"] (spMoved C)) : FnOk P w K mg base (L2.CX P w) 5 f fd ["self", "place", "by"] (spLift C N T) := by
  refine F.okX sclift (fun vs H Q E h => ?_) (fun cdv A outer s H vs Q E hr h => ?_)
  · obtain ⟨_, _, _, _, _, _, _, _, _, _, _, _, ⟨_, _, _, rfl, _⟩ | ⟨_, _, rfl, _⟩ | ⟨_, _, rfl, _⟩⟩ := h <;> rfl
  · obtain ⟨p, dx, hp, lp, ns, lifts, hx, hh, hl, ne, few, fl, h⟩ := h
    have fh := fldsL_h hp lp
    have fll := fldsL_l hp lp
    have at_a : ∀ a : Nat, a < ns.length → atI (ns.map V.int) (a : Int) = some (.int (cel ns (a : Int))) := fun a lt => getD_ix (by omega) (by omega)
    rcases h with ⟨a, b, Hb, rfl, lt, ib, n1, n2, eb, q⟩ | ⟨x, y, rfl, bad, q⟩ | ⟨a, y, rfl, lt, bad, q⟩
    · refine ⟨_, (pss_cons (ps_expr (pe_calX C_check_hill hr (takes_of rfl rfl rfl rfl) (pa_cons (pe_fld (pv 0) rfl) (pa_cons (pv 1) pa_nil))))
      (pss_cons (ps_if (pt_not (pt_val (pe_cal C_is_whole hr (pa_cons (pv 2) pa_nil)))) (pss_one (ps_raise rfl (takes_of rfl rfl rfl rfl) (pmk_own PySem.F.excBase_ValueError X_TooHigh.x X_TooHigh.g X_TooHigh.k (raises_own X_TooHigh.b X_TooHigh.t) (by rfl)))) pss_nil)
      (pss_cons (ps_if (pt_not (pt_val (pe_cal C__is_in_bound hr (pa_cons (pe_op op_add (pe_ix ix_list (pe_fld (pv 0) rfl) (pv 1) (fun _ _ => rfl)) (pv 2)) pa_nil)))) (pss_one (ps_raise rfl (takes_of rfl rfl rfl rfl) (pmk_own PySem.F.excBase_ValueError X_TooHigh.x X_TooHigh.g X_TooHigh.k (raises_own X_TooHigh.b X_TooHigh.t) (by rfl)))) pss_nil)
      (pss_cons (ps_expr (pe_bm PySem.F.plainAttrs_list PySem.F.slot_list_append PySem.F.type_list_append mt_append (pe_fld (pv 0) rfl) (pa_cons (pe_tup (pa_cons (pv 1) (pa_cons (pv 2) pa_nil))) pa_nil)))
      (pss_one (ps_ret (pe_methC (pv 0) C__moved hr (pa_cons (pv 1) (pa_cons (pv 2) pa_nil))))))))), ?_⟩
      try dsimp only [cxOf, Cx.nox, Cx.wish]
      rw [show L2.start ["self", "place", "by"] [.ref p, .int (a : Int), .int b] = [some (.ref p), some (.int (a : Int)), some (.int b)] from rfl]
      refine q_drop (v := .non) (ev_calX (vs := [.ref hp, .int (a : Int)]) (ea_cons (ev_fld (by walk_at "ev") hx L.cl L.nh fh) (by walk_at "ea")) fun H1 e1 => ⟨hp, ns, a, rfl, sq_of (e1 _ _ hh), by omega, by omega, rfl⟩) fun H1 e1 => ?_
      have hx1 := e1 _ _ hx
      have hh1 := e1 _ _ hh
      apply q_when (b := false)
      · exact et_is (a := !true) (et_not (et_B (ev_isW (by walk_at "ea")))) rfl
      · intro z
        cases z
      intro _ H2 e2
      have hx2 := e2 _ _ hx1
      have hh2 := e2 _ _ hh1
      apply q_when (b := false)
      · exact et_is (et_not (et_B (ev_inB (i := cel ns (a : Int) + b) (ea_cons (ev_op (ev_op (ev_fld (by walk_at "ev") hx2 L.cl L.nh fh) (by walk_at "ev") (rv_ixL (sq_of hh2) (at_a a lt))) (by walk_at "ev") (by walk_at "rv")) ea_nil)))) (by rw [ib]; rfl)
      · intro z
        cases z
      intro _ H3 e3
      have hx3 := e3 _ _ hx2
      have hh3 := e3 _ _ hh2
      obtain ⟨as, hl3, tl3⟩ := hl.ex ((e1.trans e2).trans e3)
      have ls : (as.map V.ref).length < 100000 := by rw [List.length_map, tl3.1]; omega
      refine q_appU (ys := [.int (a : Int), .int b]) hl3 (ev_fld (by walk_at "ev") hx3 L.cl L.nl fll) (by walk_at "eu") ls fun u H4 nu e4 hu => ?_
      have e14 := ((e1.trans e2).trans e3).trans e4
      have hx5 : upd H4 lp (.lst (as.map V.ref ++ [.ref u])) p = some (.ins C dx (fldsL hp lp)) := by
        rw [upd_ne (fun z => by rw [z, hl3] at hx3; cases hx3)]
        exact e4 _ _ hx3
      have hh5 : upd H4 lp (.lst (as.map V.ref ++ [.ref u])) hp = some (.lst (ns.map V.int)) := by
        rw [upd_ne ne]
        exact e4 _ _ hh3
      have hl5 : PrL (upd H4 lp (.lst (as.map V.ref ++ [.ref u]))) lp (lifts ++ [((a : Int), b)]) := ⟨as ++ [u], by rw [upd_same, List.map_append]; rfl, ((tl3.ex e4).snoc (p := u) (q := ((a : Int), b)) hu).upd (e4 _ _ hl3)⟩
      have eb5 : Ex Hb (upd H4 lp (.lst (as.map V.ref ++ [.ref u]))) := Ex.mut (eb.trans e14) n2
      have back : ∀ t, upd H4 lp (.lst (as.map V.ref ++ [.ref u])) t = none → H t = none := fun t z => free_set e14 z
      revert hx5 hh5 hl5 eb5 back
      generalize upd H4 lp (.lst (as.map V.ref ++ [.ref u])) = H5
      intro hx5 hh5 hl5 eb5 back
      refine ret_moved (by walk_at "ev") (by walk_at "ev") (by walk_at "ev") hx5 (fldsL_no _ _ (by decide +kernel) (by decide +kernel)) hh5 lt few fun t x y H' nt nx ny xy tx ty e6 hh6 ht px py => ?_
      refine q t x y H' (back t nt) (back x nx) (back y ny) xy tx ty (fun c o hc => ?_) hh6 ((offH_pr hl5 ne.symm hh5).ex e6) ht px py
      exact e6 _ _ (offH_at (fun z => by rw [z, n1] at hc; cases hc) (eb5 _ _ hc))
    · refine ⟨_, (pss_cons (ps_expr (pe_calX C_check_hill hr (takes_of rfl rfl rfl rfl) (pa_cons (pe_fld (pv 0) rfl) (pa_cons (pv 1) pa_nil))))
      (pss_cons (ps_if (pt_not (pt_val (pe_cal C_is_whole hr (pa_cons (pv 2) pa_nil)))) (pss_one (ps_raise rfl (takes_of rfl rfl rfl rfl) (pmk_own PySem.F.excBase_ValueError X_TooHigh.x X_TooHigh.g X_TooHigh.k (raises_own X_TooHigh.b X_TooHigh.t) (by rfl)))) pss_nil)
      (pss_cons (ps_if (pt_not (pt_val (pe_cal C__is_in_bound hr (pa_cons (pe_op op_add (pe_ix ix_list (pe_fld (pv 0) rfl) (pv 1) (fun _ _ => rfl)) (pv 2)) pa_nil)))) (pss_one (ps_raise rfl (takes_of rfl rfl rfl rfl) (pmk_own PySem.F.excBase_ValueError X_TooHigh.x X_TooHigh.g X_TooHigh.k (raises_own X_TooHigh.b X_TooHigh.t) (by rfl)))) pss_nil)
      (pss_cons (ps_expr (pe_bm PySem.F.plainAttrs_list PySem.F.slot_list_append PySem.F.type_list_append mt_append (pe_fld (pv 0) rfl) (pa_cons (pe_tup (pa_cons (pv 1) (pa_cons (pv 2) pa_nil))) pa_nil)))
      (pss_one (ps_ret (pe_methC (pv 0) C__moved hr (pa_cons (pv 1) (pa_cons (pv 2) pa_nil))))))))), ?_⟩
      try dsimp only [cxOf, Cx.nox, Cx.wish]
      rw [show L2.start ["self", "place", "by"] [.ref p, x, y] = [some (.ref p), some (x), some (y)] from rfl]
      exact rx_calV (vs := [.ref hp, x]) (ea_cons (ev_fld (by walk_at "ev") hx L.cl L.nh fh) (by walk_at "ea")) (fun H1 e1 => ⟨hp, ns, x, rfl, sq_of (e1 _ _ hh), bad.ex e1, rfl⟩) fun H1 e1 => q H1 e1
    · refine ⟨_, (pss_cons (ps_expr (pe_calX C_check_hill hr (takes_of rfl rfl rfl rfl) (pa_cons (pe_fld (pv 0) rfl) (pa_cons (pv 1) pa_nil))))
      (pss_cons (ps_if (pt_not (pt_val (pe_cal C_is_whole hr (pa_cons (pv 2) pa_nil)))) (pss_one (ps_raise rfl (takes_of rfl rfl rfl rfl) (pmk_own PySem.F.excBase_ValueError X_TooHigh.x X_TooHigh.g X_TooHigh.k (raises_own X_TooHigh.b X_TooHigh.t) (by rfl)))) pss_nil)
      (pss_cons (ps_if (pt_not (pt_val (pe_cal C__is_in_bound hr (pa_cons (pe_op op_add (pe_ix ix_list (pe_fld (pv 0) rfl) (pv 1) (fun _ _ => rfl)) (pv 2)) pa_nil)))) (pss_one (ps_raise rfl (takes_of rfl rfl rfl rfl) (pmk_own PySem.F.excBase_ValueError X_TooHigh.x X_TooHigh.g X_TooHigh.k (raises_own X_TooHigh.b X_TooHigh.t) (by rfl)))) pss_nil)
      (pss_cons (ps_expr (pe_bm PySem.F.plainAttrs_list PySem.F.slot_list_append PySem.F.type_list_append mt_append (pe_fld (pv 0) rfl) (pa_cons (pe_tup (pa_cons (pv 1) (pa_cons (pv 2) pa_nil))) pa_nil)))
      (pss_one (ps_ret (pe_methC (pv 0) C__moved hr (pa_cons (pv 1) (pa_cons (pv 2) pa_nil))))))))), ?_⟩
      try dsimp only [cxOf, Cx.nox, Cx.wish]
      rw [show L2.start ["self", "place", "by"] [.ref p, .int (a : Int), y] = [some (.ref p), some (.int (a : Int)), some (y)] from rfl]
      refine q_drop (v := .non) (ev_calX (vs := [.ref hp, .int (a : Int)]) (ea_cons (ev_fld (by walk_at "ev") hx L.cl L.nh fh) (by walk_at "ea")) fun H1 e1 => ⟨hp, ns, a, rfl, sq_of (e1 _ _ hh), by omega, by omega, rfl⟩) fun H1 e1 => ?_
      have hx1 := e1 _ _ hx
      have hh1 := e1 _ _ hh
      rcases bad with bad | ⟨b, rfl, ib⟩
      · have bad := bad.ex e1
        apply q_when (b := true)
        · exact et_is (a := !false) (et_not (et_B (ev_isN (by walk_at "ea") bad))) rfl
        · intro _ H2 e2
          exact q H2 (by walk_at "ex")
        intro z
        cases z
      · apply q_when (b := false)
        · exact et_is (a := !true) (et_not (et_B (ev_isW (by walk_at "ea")))) rfl
        · intro z
          cases z
        intro _ H2 e2
        have hx2 := e2 _ _ hx1
        have hh2 := e2 _ _ hh1
        apply q_when (b := true)
        · exact et_is (et_not (et_B (ev_inB (i := cel ns (a : Int) + b) (ea_cons (ev_op (ev_op (ev_fld (by walk_at "ev") hx2 L.cl L.nh fh) (by walk_at "ev") (rv_ixL (sq_of hh2) (at_a a lt))) (by walk_at "ev") (by walk_at "rv")) ea_nil)))) (by rw [ib]; rfl)
        · intro _ H3 e3
          exact q H3 (by walk_at "ex")
        intro z
        cases z
abbrev sback : Stmt := inClass (topS 20) 4
theorem scback : FnScope ["self", "place", "by"] ["self"] (defScope sback) := ⟨rfl, rfl, rfl, by decide +kernel, rfl, by decide +kernel, by decide +kernel⟩

theorem ok_back {f C U : Addr} {fd : FuncData} (F : Fun K "back" "Land.back" sback f fd) (B : Blt mg) (L : LandK K C) (X_NothingDone : ExK K mg "NothingDone" U) (C__moved : CalM P w K mg base CX0 C "_moved" 4 ["self", "place", "by"] (spMoved C)) : FnOk P w K mg base (L2.CX P w) 5 f fd ["self"] (spBack C U) := by
  refine F.okX scback (fun vs H Q E h => ?_) (fun cdv A outer s H vs Q E hr h => ?_)
  · obtain ⟨_, _, _, _, _, _, rfl, _⟩ := h
    rfl
  · obtain ⟨p, dx, hp, lp, ns, lifts, rfl, hx, hh, hl, ne, few, fl, h⟩ := h
    have fll := fldsL_l hp lp
    refine ⟨_, (pss_cons (ps_if (pt_not (pt_truth (pe_fld (pv 0) rfl) (fun _ => rfl))) (pss_one (ps_raise rfl (takes_of rfl rfl rfl rfl) (pmk_own PySem.F.excBase_ValueError X_NothingDone.x X_NothingDone.g X_NothingDone.k (raises_own X_NothingDone.b X_NothingDone.t) (by rfl)))) pss_nil)
      (pss_cons (ps_asg (pe_bm0 PySem.F.plainAttrs_list PySem.F.slot_list_pop PySem.F.type_list_pop mt_pop (pe_fld (pv 0) rfl)) (pg_tup rfl (pgs_cons (pg_name (i := 1) scback.nd rfl (Or.inl rfl)) (pgs_cons (pg_name (i := 2) scback.nd rfl (Or.inl rfl)) pgs_nil))))
      (pss_one (ps_ret (pe_methC (pv 0) C__moved hr (pa_cons (pv 1) (pa_cons (pe_un un_neg (pv 2)) pa_nil))))))), ?_⟩
    try dsimp only [cxOf, Cx.nox, Cx.wish]
    rw [show L2.start ["self", "place", "by"] [.ref p] = [some (.ref p), none, none] from rfl]
    rcases h with ⟨l0, a, b, Hb, rfl, lt, n1, n2, eb, q⟩ | ⟨rfl, q⟩
    · apply q_when (b := false)
      · exact et_is (et_not (et_truP (ev_fld (by walk_at "ev") hx L.cl L.nl fll) hl)) (by simp)
      · intro z
        cases z
      intro _ H1 e1
      have hx1 := e1 _ _ hx
      have hh1 := e1 _ _ hh
      refine q_popP (ev_fld (by walk_at "ev") hx1 L.cl L.nl fll) (hl.ex e1) fun H2 xs e2 hl2 => ?_
      walk_at "st"
      have e12 := e1.trans e2
      obtain ⟨as, hlp, _⟩ := hl.ex e12
      have hx3 : upd H2 lp (.lst xs) p = some (.ins C dx (fldsL hp lp)) := by
        rw [upd_ne (fun z => by rw [← z, e12 _ _ hx] at hlp; cases hlp)]
        exact e12 _ _ hx
      have hh3 : upd H2 lp (.lst xs) hp = some (.lst (ns.map V.int)) := by
        rw [upd_ne ne]
        exact e12 _ _ hh
      have eb3 : Ex Hb (upd H2 lp (.lst xs)) := Ex.mut (eb.trans e12) n2
      have back : ∀ t, upd H2 lp (.lst xs) t = none → H t = none := fun t z => free_set e12 z
      revert hl2 hx3 hh3 eb3 back
      generalize upd H2 lp (.lst xs) = H3
      intro hl2 hx3 hh3 eb3 back
      refine ret_moved (a := a) (b := -b) (by walk_at "ev") (by walk_at "ev") (by walk_at "ev") hx3 (fldsL_no _ _ (by decide +kernel) (by decide +kernel)) hh3 lt few fun t x y H' nt nx ny xy tx ty e6 hh6 ht px py => ?_
      refine q t x y H' (back t nt) (back x nx) (back y ny) xy tx ty (fun c o hc => ?_) hh6 ((offH_pr hl2 ne.symm hh3).ex e6) ht px py
      exact e6 _ _ (offH_at (fun z => by rw [z, n1] at hc; cases hc) (eb3 _ _ hc))
    · apply q_when (b := true)
      · exact et_is (et_not (et_truP (ev_fld (by walk_at "ev") hx L.cl L.nl fll) hl)) rfl
      · intro _ H1 e1
        exact q H1 (by walk_at "ex")
      intro z
      cases z
abbrev s_law_sole : Stmt := topS 24
theorem sc_law_sole : FnScope ["_law_error", "_law_many"] ["_law_error"] (defScope s_law_sole) := ⟨rfl, rfl, rfl, by decide +kernel, rfl, by decide +kernel, by decide +kernel⟩

theorem ok_sole {f L N S T U HE C : Addr} {fd : FuncData} (F : Fun K "_law_sole" "_law_sole" s_law_sole f fd) (B : Blt mg) (X_NoLand : ExK K mg "NoLand" L) (X_NoHill : ExK K mg "NoHill" N) (X_SameHill : ExK K mg "SameHill" S) (X_TooHigh : ExK K mg "TooHigh" T)
    (X_NothingDone : ExK K mg "NothingDone" U) (X_HillError : ExK K mg "HillError" HE) (h : SoleK K L N S T U HE C) : FnZ P w K mg base 1 f fd "_law_error" C (.bl true) := by
  refine Fun.okZ F sc_law_sole (fun cdv A out s G q hr hz hf => ?_)
  refine ⟨_, (pss_cons (ps_set (i := 1) sc_law_sole.nd rfl (Or.inl rfl) pe_int)
      (pss_cons (ps_set (i := 1) sc_law_sole.nd rfl (Or.inl rfl) (pe_op op_add (pv 1) (pe_callTy call_int1 (by rfl) B.m_int (by decide +kernel) (pa_cons (pe_callB (call_isZ h.e hz hf List.mem_cons_self) (by rfl) B.m_isinstance (by decide +kernel) (pa_cons (pv 0) (pa_cons (pe_glob (v := .ref L) (by rfl) X_NoLand.g rfl) pa_nil))) pa_nil))))
      (pss_cons (ps_set (i := 1) sc_law_sole.nd rfl (Or.inl rfl) (pe_op op_add (pv 1) (pe_callTy call_int1 (by rfl) B.m_int (by decide +kernel) (pa_cons (pe_callB (call_isZ h.e hz hf List.mem_cons_self) (by rfl) B.m_isinstance (by decide +kernel) (pa_cons (pv 0) (pa_cons (pe_glob (v := .ref N) (by rfl) X_NoHill.g rfl) pa_nil))) pa_nil))))
      (pss_cons (ps_set (i := 1) sc_law_sole.nd rfl (Or.inl rfl) (pe_op op_add (pv 1) (pe_callTy call_int1 (by rfl) B.m_int (by decide +kernel) (pa_cons (pe_callB (call_isZ h.e hz hf List.mem_cons_self) (by rfl) B.m_isinstance (by decide +kernel) (pa_cons (pv 0) (pa_cons (pe_glob (v := .ref S) (by rfl) X_SameHill.g rfl) pa_nil))) pa_nil))))
      (pss_cons (ps_set (i := 1) sc_law_sole.nd rfl (Or.inl rfl) (pe_op op_add (pv 1) (pe_callTy call_int1 (by rfl) B.m_int (by decide +kernel) (pa_cons (pe_callB (call_isZ h.e hz hf List.mem_cons_self) (by rfl) B.m_isinstance (by decide +kernel) (pa_cons (pv 0) (pa_cons (pe_glob (v := .ref T) (by rfl) X_TooHigh.g rfl) pa_nil))) pa_nil))))
      (pss_cons (ps_set (i := 1) sc_law_sole.nd rfl (Or.inl rfl) (pe_op op_add (pv 1) (pe_callTy call_int1 (by rfl) B.m_int (by decide +kernel) (pa_cons (pe_callB (call_isZ h.e hz hf List.mem_cons_self) (by rfl) B.m_isinstance (by decide +kernel) (pa_cons (pv 0) (pa_cons (pe_glob (v := .ref U) (by rfl) X_NothingDone.g rfl) pa_nil))) pa_nil))))
      (pss_one (ps_ret (pe_and (pe_cmpR op_eq (pv 1) pe_int (nomark _)) (pe_and (pe_callB (call_isZ h.e hz hf List.mem_cons_self) (by rfl) B.m_isinstance (by decide +kernel) (pa_cons (pv 0) (pa_cons (pe_glob (v := .ref HE) (by rfl) X_HillError.g rfl) pa_nil))) (pe_one (pe_callB (call_isZ h.e hz hf List.mem_cons_self) (by rfl) B.m_isinstance (by decide +kernel) (pa_cons (pv 0) (pa_cons (pe_bltn (v := .ty "ValueError") (by rfl) B.m_ValueError (by decide +kernel) rfl) pa_nil)))))))))))))), ?_⟩
  try dsimp only [L2H.cxH, cxOf, Cx.nox, Cx.wish]
  rw [show L2.start ["_law_error", "_law_many"] [.ref q.1] = [some (.ref q.1), none] from rfl]
  obtain ⟨b1, b2, b3, b4, b5, k1, k2, k3, k4, k5, one⟩ := h.one
  have kh := h.h
  have kv := h.v
  refine q_asg (v := .int 0) (by walk_at "ev") fun H1 e1 => ?_
  walk_at "st"
  refine q_asg (v := .int (0 + (if b1 then 1 else 0))) (by walk_at "ev") fun H2 e2 => ?_
  walk_at "st"
  refine q_asg (v := .int (0 + (if b1 then 1 else 0) + (if b2 then 1 else 0))) (by walk_at "ev") fun H3 e3 => ?_
  walk_at "st"
  refine q_asg (v := .int (0 + (if b1 then 1 else 0) + (if b2 then 1 else 0) + (if b3 then 1 else 0))) (by walk_at "ev") fun H4 e4 => ?_
  walk_at "st"
  refine q_asg (v := .int (0 + (if b1 then 1 else 0) + (if b2 then 1 else 0) + (if b3 then 1 else 0) + (if b4 then 1 else 0))) (by walk_at "ev") fun H5 e5 => ?_
  walk_at "st"
  refine q_asg (v := .int (0 + (if b1 then 1 else 0) + (if b2 then 1 else 0) + (if b3 then 1 else 0) + (if b4 then 1 else 0) + (if b5 then 1 else 0))) (by walk_at "ev") fun H6 e6 => ?_
  walk_at "st"
  have e : (0 + (if b1 then 1 else 0) + (if b2 then 1 else 0) + (if b3 then 1 else 0) + (if b4 then 1 else 0) + (if b5 then 1 else 0) : Int) = 1 := by
    cases b1 <;> cases b2 <;> cases b3 <;> cases b4 <;> cases b5 <;> first | rfl | cases one
  rw [e]
  refine s_ret (v := .bl true) (ev_is (v := .bl (decide (V.int 1 = V.int 1) && (true && true))) (by walk_at "ev") (by simp)) fun H7 e7 => ⟨rfl, by walk_at "ex"⟩
abbrev s_law_base : Stmt := topS 28
theorem sc_law_base : FnScope ["_law_error"] ["_law_error"] (defScope s_law_base) := ⟨rfl, rfl, rfl, by decide +kernel, rfl, by decide +kernel, by decide +kernel⟩

theorem ok_base {f L N S T U HE C : Addr} {fd : FuncData} (F : Fun K "_law_base" "_law_base" s_law_base f fd) (C__law_sole : CalZ P w K mg base "_law_sole" 1 "_law_error" fun C v => SoleK K L N S T U HE C ∧ v = .bl true) (h : SoleK K L N S T U HE C) : FnZ P w K mg base 2 f fd "_law_error" C (.bl true) := by
  refine Fun.okZ F sc_law_base (fun cdv A out s G q hr hz hf => ?_)
  refine ⟨_, (pss_one (ps_ret (pe_calZ (j := 1) C__law_sole hr hz hf List.mem_cons_self (pa_cons (pv 0) pa_nil)))), ?_⟩
  try dsimp only [L2H.cxH, cxOf, Cx.nox, Cx.wish]
  rw [show L2.start ["_law_error"] [.ref q.1] = [some (.ref q.1)] from rfl]
  exact s_ret (v := .bl true) (ev_calZ (by walk_at "ea") ⟨h, rfl⟩) fun H1 e1 => ⟨rfl, by walk_at "ex"⟩
abbrev s_law_told : Stmt := topS 29
theorem sc_law_told : FnScope ["_law_land", "_law_place", "_law_by", "_law_error"] ["_law_land", "_law_place", "_law_by"] (defScope s_law_told) := ⟨rfl, rfl, rfl, by decide +kernel, rfl, by decide +kernel, by decide +kernel⟩

theorem ok_told10 {f C L N S T U HE : Addr} {fd : FuncData} (F : Fun K "_law_told" "_law_told" s_law_told f fd) (B : Blt mg) (X_NoHill : ExK K mg "NoHill" N) (X_TooHigh : ExK K mg "TooHigh" T) (X_NothingDone : ExK K mg "NothingDone" U)
    (tn : PySem.W.exmOne K (.ref T) (.ref N) = some false) (un : PySem.W.exmOne K (.ref U) (.ref N) = some false) (ut : PySem.W.exmOne K (.ref U) (.ref T) = some false) (soleN : SoleK K L N S T U HE N) (soleT : SoleK K L N S T U HE T) (soleU : SoleK K L N S T U HE U)
    (C__law_base : CalZ P w K mg base "_law_base" 2 "_law_error" fun C v => SoleK K L N S T U HE C ∧ v = .bl true) (C_lift : CalM P w K mg base (L2.CX P w) C "lift" 5 ["self", "place", "by"] (spLift C N T)) (C_back : CalM P w K mg base (L2.CX P w) C "back" 5 ["self"] (spBack C U)) :
    FnOk P w K mg base CX0 6 f fd ["_law_land", "_law_place", "_law_by"] (spTold C) := by
  refine F.ok sc_law_told (fun vs H Q E h => ?_) (fun cdv A outer s H vs Q E hr h => ?_)
  · obtain ⟨_, _, _, _, _, _, _, _, _, _, _, _, ⟨_, _, _, rfl, _⟩ | ⟨_, _, rfl, _⟩ | ⟨_, _, rfl, _⟩ | ⟨_, _, _, _, _, rfl, _⟩ | ⟨_, rfl, _⟩⟩ := h <;> rfl
  · obtain ⟨p, dx, hp, lp, ns, lifts, hx, hh, hl, ne, few, fl, h⟩ := h
    have nmb : (fldsL hp lp).lookup ("back" : Str) = none := fldsL_no _ _ (by decide +kernel) (by decide +kernel)
    have nml : (fldsL hp lp).lookup ("lift" : Str) = none := fldsL_no _ _ (by decide +kernel) (by decide +kernel)
    have nb : ∀ {H' : Hp} {n : Nat} {x : V}, BadPl H' n x → x ≠ .non → decide (x = .non) = false := fun _ z => decide_eq_false z
    rcases h with ⟨a, b, Hb, rfl, lt, ib, n1, n2, eb, q⟩ | ⟨x, y, rfl, bad, nx, q⟩ | ⟨a, y, rfl, lt, bad, q⟩ | ⟨l0, a, b, Hb, y, rfl, el, lt, n1, n2, eb, q⟩ | ⟨y, rfl, el, q⟩
    · refine ⟨_, (pss_one (ps_catch rfl rfl sc_law_told.nd (fun W pn xe tk => (pss_cons (ps_if (pt_cmpR op_isN (pv 1) pe_non (nomark _)) (pss_one (ps_ret (pe_methX0 (pv 0) C_back hr tk))) pss_nil)
      (pss_one (ps_ret (pe_methX (pv 0) C_lift hr tk (pa_cons (pv 1) (pa_cons (pv 2) pa_nil))))))) (.cons (i := 3) rfl rfl ⟨rfl, by decide, Or.inl X_NoHill.g⟩ (fun a oe cls d pn hz hf => (pss_one (ps_ret (pe_op op_mul1 pe_str (pe_callTy call_int1 (by rfl) B.m_int (by decide +kernel) (pa_cons (pe_calZ (j := 5) C__law_base (L2H.RoomH.mk hr.dp hr.un) hz hf List.mem_cons_self (pa_cons (pv 3) pa_nil)) pa_nil)))))) (.cons (i := 3) rfl rfl ⟨rfl, by decide, Or.inl X_TooHigh.g⟩ (fun a oe cls d pn hz hf => (pss_one (ps_ret (pe_op op_mul1 pe_str (pe_callTy call_int1 (by rfl) B.m_int (by decide +kernel) (pa_cons (pe_calZ (j := 5) C__law_base (L2H.RoomH.mk hr.dp hr.un) hz hf List.mem_cons_self (pa_cons (pv 3) pa_nil)) pa_nil)))))) (.cons (i := 3) rfl rfl ⟨rfl, by decide, Or.inl X_NothingDone.g⟩ (fun a oe cls d pn hz hf => (pss_one (ps_ret (pe_op op_mul1 pe_str (pe_callTy call_int1 (by rfl) B.m_int (by decide +kernel) (pa_cons (pe_calZ (j := 5) C__law_base (L2H.RoomH.mk hr.dp hr.un) hz hf List.mem_cons_self (pa_cons (pv 3) pa_nil)) pa_nil)))))) .nil))))), ?_⟩
      try dsimp only [cxOf, Cx.nox, Cx.wish]
      rw [show L2.start ["_law_land", "_law_place", "_law_by", "_law_error"] [.ref p, .int (a : Int), .int b] = [some (.ref p), some (.int (a : Int)), some (.int b), none] from rfl]
      apply q_when (b := false)
      · exact et_is (by walk_at "et") (by rfl)
      · intro z
        cases z
      intro _ H1 e1
      refine t_meth2 (by walk_at "ev") (by walk_at "ev") (by walk_at "ev") (e1 _ _ hx) nml fun H2 e2 => ?_
      have e := e1.trans e2
      exact ⟨p, dx, hp, lp, ns, lifts, e _ _ hx, e _ _ hh, hl.ex e, ne, few, fl, .inl ⟨a, b, Hb, rfl, lt, ib, n1, n2, eb.trans e, q.ex e⟩⟩
    · refine ⟨_, (pss_one (ps_catch rfl rfl sc_law_told.nd (fun W pn xe tk => (pss_cons (ps_if (pt_cmpR op_isN (pv 1) pe_non (nomark _)) (pss_one (ps_ret (pe_methX0 (pv 0) C_back hr tk))) pss_nil)
      (pss_one (ps_ret (pe_methX (pv 0) C_lift hr tk (pa_cons (pv 1) (pa_cons (pv 2) pa_nil))))))) (.cons (i := 3) rfl rfl ⟨rfl, by decide, Or.inl X_NoHill.g⟩ (fun a oe cls d pn hz hf => (pss_one (ps_ret (pe_op op_mul1 pe_str (pe_callTy call_int1 (by rfl) B.m_int (by decide +kernel) (pa_cons (pe_calZ (j := 5) C__law_base (L2H.RoomH.mk hr.dp hr.un) hz hf List.mem_cons_self (pa_cons (pv 3) pa_nil)) pa_nil)))))) (.cons (i := 3) rfl rfl ⟨rfl, by decide, Or.inl X_TooHigh.g⟩ (fun a oe cls d pn hz hf => (pss_one (ps_ret (pe_op op_mul1 pe_str (pe_callTy call_int1 (by rfl) B.m_int (by decide +kernel) (pa_cons (pe_calZ (j := 5) C__law_base (L2H.RoomH.mk hr.dp hr.un) hz hf List.mem_cons_self (pa_cons (pv 3) pa_nil)) pa_nil)))))) (.cons (i := 3) rfl rfl ⟨rfl, by decide, Or.inl X_NothingDone.g⟩ (fun a oe cls d pn hz hf => (pss_one (ps_ret (pe_op op_mul1 pe_str (pe_callTy call_int1 (by rfl) B.m_int (by decide +kernel) (pa_cons (pe_calZ (j := 5) C__law_base (L2H.RoomH.mk hr.dp hr.un) hz hf List.mem_cons_self (pa_cons (pv 3) pa_nil)) pa_nil)))))) .nil))))), ?_⟩
      try dsimp only [cxOf, Cx.nox, Cx.wish]
      rw [show L2.start ["_law_land", "_law_place", "_law_by", "_law_error"] [.ref p, x, y] = [some (.ref p), some (x), some (y), none] from rfl]
      apply q_when (b := false)
      · exact et_is (et_test (ev_op (by walk_at "ev") (by walk_at "ev") rv_isN)) (decide_eq_false nx)
      · intro z
        cases z
      intro _ H1 e1
      refine t_meth2 (by walk_at "ev") (by walk_at "ev") (by walk_at "ev") (e1 _ _ hx) nml fun H2 e2 => ?_
      have e := e1.trans e2
      refine ⟨p, dx, hp, lp, ns, lifts, e _ _ hx, e _ _ hh, hl.ex e, ne, few, fl, .inr (.inl ⟨x, y, rfl, bad.ex e, fun H3 e3 => ?_⟩)⟩
      refine ⟨true, X_NoHill.te, fun _ a na => ?_, fun z => nomatch z⟩
      dsimp only
      walk_at "st"
      exact s_ret (v := .str "no hill") (ev_op (by walk_at "ev") (ev_int (i := if true then 1 else 0) (ev_cb (ea_cons (ev_calZ (by walk_at "ea") ⟨soleN, rfl⟩) ea_nil) rc_intb) rfl) rv_mul1) fun H4 e4 => q H4 (e.trans (e3.trans e4))
    · refine ⟨_, (pss_one (ps_catch rfl rfl sc_law_told.nd (fun W pn xe tk => (pss_cons (ps_if (pt_cmpR op_isN (pv 1) pe_non (nomark _)) (pss_one (ps_ret (pe_methX0 (pv 0) C_back hr tk))) pss_nil)
      (pss_one (ps_ret (pe_methX (pv 0) C_lift hr tk (pa_cons (pv 1) (pa_cons (pv 2) pa_nil))))))) (.cons (i := 3) rfl rfl ⟨rfl, by decide, Or.inl X_NoHill.g⟩ (fun a oe cls d pn hz hf => (pss_one (ps_ret (pe_op op_mul1 pe_str (pe_callTy call_int1 (by rfl) B.m_int (by decide +kernel) (pa_cons (pe_calZ (j := 5) C__law_base (L2H.RoomH.mk hr.dp hr.un) hz hf List.mem_cons_self (pa_cons (pv 3) pa_nil)) pa_nil)))))) (.cons (i := 3) rfl rfl ⟨rfl, by decide, Or.inl X_TooHigh.g⟩ (fun a oe cls d pn hz hf => (pss_one (ps_ret (pe_op op_mul1 pe_str (pe_callTy call_int1 (by rfl) B.m_int (by decide +kernel) (pa_cons (pe_calZ (j := 5) C__law_base (L2H.RoomH.mk hr.dp hr.un) hz hf List.mem_cons_self (pa_cons (pv 3) pa_nil)) pa_nil)))))) (.cons (i := 3) rfl rfl ⟨rfl, by decide, Or.inl X_NothingDone.g⟩ (fun a oe cls d pn hz hf => (pss_one (ps_ret (pe_op op_mul1 pe_str (pe_callTy call_int1 (by rfl) B.m_int (by decide +kernel) (pa_cons (pe_calZ (j := 5) C__law_base (L2H.RoomH.mk hr.dp hr.un) hz hf List.mem_cons_self (pa_cons (pv 3) pa_nil)) pa_nil)))))) .nil))))), ?_⟩
      try dsimp only [cxOf, Cx.nox, Cx.wish]
      rw [show L2.start ["_law_land", "_law_place", "_law_by", "_law_error"] [.ref p, .int (a : Int), y] = [some (.ref p), some (.int (a : Int)), some (y), none] from rfl]
      apply q_when (b := false)
      · exact et_is (by walk_at "et") (by rfl)
      · intro z
        cases z
      intro _ H1 e1
      refine t_meth2 (by walk_at "ev") (by walk_at "ev") (by walk_at "ev") (e1 _ _ hx) nml fun H2 e2 => ?_
      have e := e1.trans e2
      refine ⟨p, dx, hp, lp, ns, lifts, e _ _ hx, e _ _ hh, hl.ex e, ne, few, fl, .inr (.inr ⟨a, y, rfl, lt, bad.elim (fun z => .inl (z.ex e)) .inr, fun H3 e3 => ?_⟩)⟩
      refine ⟨false, tn, (fun z => nomatch z), fun _ => ⟨true, X_TooHigh.te, fun _ a na => ?_, fun z => nomatch z⟩⟩
      dsimp only
      walk_at "st"
      exact s_ret (v := .str "too high") (ev_op (by walk_at "ev") (ev_int (i := if true then 1 else 0) (ev_cb (ea_cons (ev_calZ (by walk_at "ea") ⟨soleT, rfl⟩) ea_nil) rc_intb) rfl) rv_mul1) fun H4 e4 => q H4 (e.trans (e3.trans e4))
    · refine ⟨_, (pss_one (ps_catch rfl rfl sc_law_told.nd (fun W pn xe tk => (pss_cons (ps_if (pt_cmpR op_isN (pv 1) pe_non (nomark _)) (pss_one (ps_ret (pe_methX0 (pv 0) C_back hr tk))) pss_nil)
      (pss_one (ps_ret (pe_methX (pv 0) C_lift hr tk (pa_cons (pv 1) (pa_cons (pv 2) pa_nil))))))) (.cons (i := 3) rfl rfl ⟨rfl, by decide, Or.inl X_NoHill.g⟩ (fun a oe cls d pn hz hf => (pss_one (ps_ret (pe_op op_mul1 pe_str (pe_callTy call_int1 (by rfl) B.m_int (by decide +kernel) (pa_cons (pe_calZ (j := 5) C__law_base (L2H.RoomH.mk hr.dp hr.un) hz hf List.mem_cons_self (pa_cons (pv 3) pa_nil)) pa_nil)))))) (.cons (i := 3) rfl rfl ⟨rfl, by decide, Or.inl X_TooHigh.g⟩ (fun a oe cls d pn hz hf => (pss_one (ps_ret (pe_op op_mul1 pe_str (pe_callTy call_int1 (by rfl) B.m_int (by decide +kernel) (pa_cons (pe_calZ (j := 5) C__law_base (L2H.RoomH.mk hr.dp hr.un) hz hf List.mem_cons_self (pa_cons (pv 3) pa_nil)) pa_nil)))))) (.cons (i := 3) rfl rfl ⟨rfl, by decide, Or.inl X_NothingDone.g⟩ (fun a oe cls d pn hz hf => (pss_one (ps_ret (pe_op op_mul1 pe_str (pe_callTy call_int1 (by rfl) B.m_int (by decide +kernel) (pa_cons (pe_calZ (j := 5) C__law_base (L2H.RoomH.mk hr.dp hr.un) hz hf List.mem_cons_self (pa_cons (pv 3) pa_nil)) pa_nil)))))) .nil))))), ?_⟩
      try dsimp only [cxOf, Cx.nox, Cx.wish]
      rw [show L2.start ["_law_land", "_law_place", "_law_by", "_law_error"] [.ref p, .non, y] = [some (.ref p), some (.non), some (y), none] from rfl]
      apply q_when (b := true)
      · exact et_is (by walk_at "et") (by rfl)
      · intro _ H1 e1
        refine t_meth0 (by walk_at "ev") (e1 _ _ hx) nmb fun H2 e2 => ?_
        have e := e1.trans e2
        exact ⟨p, dx, hp, lp, ns, lifts, rfl, e _ _ hx, e _ _ hh, hl.ex e, ne, few, fl, .inl ⟨l0, a, b, Hb, el, lt, n1, n2, eb.trans e, q.ex e⟩⟩
      · intro z
        cases z
    · refine ⟨_, (pss_one (ps_catch rfl rfl sc_law_told.nd (fun W pn xe tk => (pss_cons (ps_if (pt_cmpR op_isN (pv 1) pe_non (nomark _)) (pss_one (ps_ret (pe_methX0 (pv 0) C_back hr tk))) pss_nil)
      (pss_one (ps_ret (pe_methX (pv 0) C_lift hr tk (pa_cons (pv 1) (pa_cons (pv 2) pa_nil))))))) (.cons (i := 3) rfl rfl ⟨rfl, by decide, Or.inl X_NoHill.g⟩ (fun a oe cls d pn hz hf => (pss_one (ps_ret (pe_op op_mul1 pe_str (pe_callTy call_int1 (by rfl) B.m_int (by decide +kernel) (pa_cons (pe_calZ (j := 5) C__law_base (L2H.RoomH.mk hr.dp hr.un) hz hf List.mem_cons_self (pa_cons (pv 3) pa_nil)) pa_nil)))))) (.cons (i := 3) rfl rfl ⟨rfl, by decide, Or.inl X_TooHigh.g⟩ (fun a oe cls d pn hz hf => (pss_one (ps_ret (pe_op op_mul1 pe_str (pe_callTy call_int1 (by rfl) B.m_int (by decide +kernel) (pa_cons (pe_calZ (j := 5) C__law_base (L2H.RoomH.mk hr.dp hr.un) hz hf List.mem_cons_self (pa_cons (pv 3) pa_nil)) pa_nil)))))) (.cons (i := 3) rfl rfl ⟨rfl, by decide, Or.inl X_NothingDone.g⟩ (fun a oe cls d pn hz hf => (pss_one (ps_ret (pe_op op_mul1 pe_str (pe_callTy call_int1 (by rfl) B.m_int (by decide +kernel) (pa_cons (pe_calZ (j := 5) C__law_base (L2H.RoomH.mk hr.dp hr.un) hz hf List.mem_cons_self (pa_cons (pv 3) pa_nil)) pa_nil)))))) .nil))))), ?_⟩
      try dsimp only [cxOf, Cx.nox, Cx.wish]
      rw [show L2.start ["_law_land", "_law_place", "_law_by", "_law_error"] [.ref p, .non, y] = [some (.ref p), some (.non), some (y), none] from rfl]
      apply q_when (b := true)
      · exact et_is (by walk_at "et") (by rfl)
      · intro _ H1 e1
        refine t_meth0 (by walk_at "ev") (e1 _ _ hx) nmb fun H2 e2 => ?_
        have e := e1.trans e2
        refine ⟨p, dx, hp, lp, ns, lifts, rfl, e _ _ hx, e _ _ hh, hl.ex e, ne, few, fl, .inr ⟨el, fun H3 e3 => ?_⟩⟩
        refine ⟨false, un, (fun z => nomatch z), fun _ => ⟨false, ut, (fun z => nomatch z), fun _ => ⟨true, X_NothingDone.te, fun _ a na => ?_, fun z => nomatch z⟩⟩⟩
        dsimp only
        walk_at "st"
        exact s_ret (v := .str "nothing done") (ev_op (by walk_at "ev") (ev_int (i := if true then 1 else 0) (ev_cb (ea_cons (ev_calZ (by walk_at "ea") ⟨soleU, rfl⟩) ea_nil) rc_intb) rfl) rv_mul1) fun H4 e4 => q H4 (e.trans (e3.trans e4))
      · intro z
        cases z
abbrev s_law_sights_by : Stmt := topS 27
theorem sc_law_sights_by : FnScope ["_law_land", "_law_found", "_law_low", "_law_rise", "_law_run", "_law_high", "_law_more"] ["_law_land"] (defScope s_law_sights_by) := ⟨rfl, rfl, rfl, by decide +kernel, rfl, by decide +kernel, by decide +kernel⟩

theorem ok_sights_by {f : Addr} {fd : FuncData} (F : Fun K "_law_sights_by" "_law_sights_by" s_law_sights_by f fd) (B : Blt mg) : FnOk P w K mg base CX0 1 f fd ["_law_land"] (spP (RSightsBy K)) := by
  refine F.ok sc_law_sights_by (fun vs H Q E h => ?_) (fun cdv A outer s H vs Q E hr h => ?_)
  · obtain ⟨_, ⟨_, _, rfl, _⟩, _⟩ := h
    rfl
  · obtain ⟨v, ⟨l, land, rfl, h1, hs, rfl⟩, q⟩ := h
    refine ⟨_, (pss_cons (ps_set (i := 1) sc_law_sights_by.nd rfl (Or.inl rfl) (pe_lst pa_nil))
      (pss_cons (ps_for PassesOwn.never rfl (pi_range1 (by rfl) B.m_range (pa_cons (pe_callB call_len_seq (by rfl) B.m_len PySem.boot_len (pa_cons (pv 0) pa_nil)) pa_nil)) (pg_name (i := 2) sc_law_sights_by.nd rfl (Or.inl rfl)) (pss_cons (ps_set (i := 3) sc_law_sights_by.nd rfl (Or.inl rfl) pe_non)
      (pss_cons (ps_set (i := 4) sc_law_sights_by.nd rfl (Or.inl rfl) pe_int)
      (pss_one (ps_for PassesOwn.never rfl (pi_range2 (by rfl) B.m_range (pa_cons (pe_op op_add (pv 2) pe_int) (pa_cons (pe_callB call_len_seq (by rfl) B.m_len PySem.boot_len (pa_cons (pv 0) pa_nil)) pa_nil))) (pg_name (i := 5) sc_law_sights_by.nd rfl (Or.inl rfl)) (pss_cons (ps_set (i := 6) sc_law_sights_by.nd rfl (Or.inl rfl) (pe_op op_sub (pe_ix ix_list (pv 0) (pv 5) (fun _ _ => rfl)) (pe_ix ix_list (pv 0) (pv 2) (fun _ _ => rfl))))
      (pss_one (ps_if (PW.pt (pw_or (pt_cmpR op_isN (pv 3) pe_non (nomark _)) (pw_or1 (pt_cmpR op_gt (pe_op op_mul (pv 6) (pv 4)) (pe_op op_mul (pv 3) (pe_op op_sub (pv 5) (pv 2))) (nomark _))))) (pss_cons (ps_expr (pe_bm PySem.F.plainAttrs_list PySem.F.slot_list_append PySem.F.type_list_append mt_append (pv 1) (pa_cons (pe_tup (pa_cons (pv 2) (pa_cons (pv 5) pa_nil))) pa_nil)))
      (pss_cons (ps_set (i := 3) sc_law_sights_by.nd rfl (Or.inl rfl) (pv 6))
      (pss_one (ps_set (i := 4) sc_law_sights_by.nd rfl (Or.inl rfl) (pe_op op_sub (pv 5) (pv 2)))))) pss_nil))))))))
      (pss_one (ps_ret (pv 1))))), ?_⟩
    try dsimp only [cxOf, Cx.nox, Cx.wish]
    rw [show L2.start ["_law_land", "_law_found", "_law_low", "_law_rise", "_law_run", "_law_high", "_law_more"] [.ref l] = [some (.ref l), none, none, none, none, none, none] from rfl]
    have hll : (land.map V.int).length = land.length := List.length_map ..
    have rl : ∀ (k i : Nat), ((aheadN land (k : Int) i).map fun b => ((k : Int), b)).length ≤ i := fun k i => by
      rw [List.length_map]
      exact aheadN_len land (k : Int) i
    have fl : ∀ k, k ≤ land.length → (flatP (fun k => aheadOf land (k : Int)) k).length ≤ k * land.length := fun k => by
      induction k with
      | zero => intro _; simp [flatP]
      | succ k ih =>
        intro le
        have z := ih (by omega)
        have z2 := aheadOf_len land k
        rw [flatP_succ, List.length_append, List.length_map, Nat.add_mul]
        omega
    refine q_asgL (xs := []) (by walk_at "eu") fun lp H1 nl e1 hl => ?_
    walk_at "st"
    refine q_forR1 (n := ((land.map V.int).length : Nat)) (by walk_at "ea") (by omega) (fun i σ' H' => Ex H H' ∧ (∃ as, H' lp = some (.lst (as.map V.ref)) ∧ Tups H' as (flatP (fun k => aheadOf land (k : Int)) i)) ∧ ∃ v2 v3 v4 v5 v6, σ' = [some (.ref l), some (.ref lp), v2, v3, v4, v5, v6])
      (fun H2 e2 => ⟨by walk_at "ex", ⟨[], e2 _ _ hl, Tups.nil _⟩, _, _, _, _, _, rfl⟩) ?_ ?_
    · rintro k σ' H2 hk ⟨e2, ⟨as, hl2, tl2⟩, v2, v3, v4, v5, v6, rfl⟩
      rw [hll] at hk
      walk_at "st"
      refine q_asg (v := .non) (by walk_at "ev") fun H3 e3 => ?_
      walk_at "st"
      refine q_asg (v := .int 1) (by walk_at "ev") fun H4 e4 => ?_
      walk_at "st"
      have hl4 := e4 _ _ (e3 _ _ hl2)
      have tl4 := (tl2.ex e3).ex e4
      have e24 := (e2.trans e3).trans e4
      have fk := fl k (by omega)
      have fk2 : k * land.length ≤ 60 * 60 := Nat.mul_le_mul (by omega) h1
      refine s_forR2 (lo := (k : Int) + 1) (n := ((land.map V.int).length : Nat)) (by walk_at "ea") (by omega) (fun i σ' H' => Ex H H' ∧ (∃ as, H' lp = some (.lst (as.map V.ref)) ∧ Tups H' as (flatP (fun k => aheadOf land (k : Int)) k ++ (aheadN land (k : Int) i).map fun b => ((k : Int), b))) ∧
        ∃ v3 r v5 v6, σ' = [some (.ref l), some (.ref lp), some (.int (k : Int)), some v3, some (.int r), v5, v6] ∧ ((i = 0 ∧ v3 = .non) ∨ ∃ best, v3 = .int (cel land best - cel land (k : Int)) ∧ r = best - (k : Int) ∧ Best land (k : Int) i best))
        (fun H5 e5 => ⟨by walk_at "ex", ⟨as, e5 _ _ hl4, by (have z := tl4.ex e5); (show Tups H5 as (_ ++ [])); (rw [List.append_nil]); exact z⟩, .non, 1, _, _, rfl, .inl ⟨rfl, rfl⟩⟩) ?_ ?_
      · rintro i σ' H5 hi ⟨e5, ⟨bs, hl5, tl5⟩, v3, r, v5, v6, rfl, hv⟩
        rw [hll] at hi
        walk_at "st"
        have hsl : SqL K H5 l (land.map V.int) := by walk_at "sq"
        refine q_asg (v := .int (cel land ((k : Int) + 1 + i) - cel land (k : Int))) (by walk_at "ev") fun H6 e6 => ?_
        walk_at "st"
        have hl6 := e6 _ _ hl5
        have ls : (bs.map V.ref).length < 100000 := by
          rw [List.length_map, tl5.1, List.length_append]
          have := rl k i
          omega
        have grow : ∀ {b : Int} {H7 : Hp} {u : Addr}, seesB land (k : Int) ((k : Int) + 1 + i) = true → Ex H5 H7 → H7 u = some (.tup [.int (k : Int), .int ((k : Int) + 1 + i)]) → Ex H (upd H7 lp (.lst (bs.map V.ref ++ [.ref u]))) ∧ ∃ as, upd H7 lp (.lst (bs.map V.ref ++ [.ref u])) lp = some (.lst (as.map V.ref)) ∧
            Tups (upd H7 lp (.lst (bs.map V.ref ++ [.ref u]))) as (flatP (fun k => aheadOf land (k : Int)) k ++ (aheadN land (k : Int) (i + 1)).map fun b => ((k : Int), b)) := fun {b H7 u} y e hu => by
          refine ⟨Ex.mut (e5.trans e) nl, bs ++ [u], by rw [upd_same, List.map_append]; rfl, ?_⟩
          rw [aheadN_yes y, List.map_append, ← List.append_assoc]
          exact ((tl5.ex e).snoc (p := u) (q := ((k : Int), (k : Int) + 1 + i)) hu).upd (e _ _ hl5)
        rcases hv with ⟨rfl, rfl⟩ | ⟨best, rfl, rfl, hb⟩
        · apply s_when (b := true)
          · exact et_is (b := true) (et_or (a := true) (b := true) (et_is (by walk_at "et") (by rfl)) (fun z => by cases z)) rfl
          · intro _ H7 e7
            have hy : seesB land (k : Int) ((k : Int) + 1 + ((0 : Nat) : Int)) = true := by
              have z := sees_next land (k : Int)
              simpa using z
            refine q_appU (ys := [.int (k : Int), .int ((k : Int) + 1 + ((0 : Nat) : Int))]) (e7 _ _ hl6) (by walk_at "ev") (by walk_at "eu") ls fun u H8 nu e8 hu => ?_
            obtain ⟨g1, g2⟩ := grow (b := 0) hy ((e6.trans e7).trans e8) hu
            generalize upd H8 lp (.lst (bs.map V.ref ++ [.ref u])) = H9 at g1 g2
            refine q_asg (v := .int (cel land ((k : Int) + 1 + ((0 : Nat) : Int)) - cel land (k : Int))) (by walk_at "ev") fun H10 e10 => ?_
            walk_at "st"
            refine s_asg (v := .int ((k : Int) + 1 + ((0 : Nat) : Int) - (k : Int))) (by walk_at "ev") fun H11 e11 => ?_
            walk_at "st"
            obtain ⟨as2, q1, q2⟩ := g2
            refine ⟨g1.trans (e10.trans e11), ⟨as2, e11 _ _ (e10 _ _ q1), (q2.ex e10).ex e11⟩, _, _, _, _, rfl, .inr ⟨(k : Int) + 1 + ((0 : Nat) : Int), rfl, rfl, ?_⟩⟩
            have z := best_one land (k : Int)
            simpa using z
          · intro z
            cases z
        · obtain ⟨hb1, hb2, _⟩ := id hb
          apply s_when (b := decide ((cel land best - cel land (k : Int)) * ((k : Int) + 1 + i - (k : Int)) < (cel land ((k : Int) + 1 + i) - cel land (k : Int)) * (best - (k : Int))))
          · refine et_is (b := false || decide ((cel land best - cel land (k : Int)) * ((k : Int) + 1 + i - (k : Int)) < (cel land ((k : Int) + 1 + i) - cel land (k : Int)) * (best - (k : Int)))) ?_ (Bool.false_or _)
            exact et_or (et_is (by walk_at "et") (by rfl)) fun _ => et_test (ev_op (x := .int ((cel land ((k : Int) + 1 + i) - cel land (k : Int)) * (best - (k : Int)))) (y := .int ((cel land best - cel land (k : Int)) * ((k : Int) + 1 + i - (k : Int)))) (ev_op (by walk_at "ev") (by walk_at "ev") (rv_I (.inr ⟨by omega, by omega⟩))) (ev_op (by walk_at "ev") (ev_op (by walk_at "ev") (by walk_at "ev") (by walk_at "rv")) (rv_I (.inr ⟨by omega, by omega⟩))) Evl.rv_I0)
          · intro hyes H7 e7
            obtain ⟨hB, hy⟩ := best_yes hb (of_decide_eq_true hyes)
            refine q_appU (ys := [.int (k : Int), .int ((k : Int) + 1 + i)]) (e7 _ _ hl6) (by walk_at "ev") (by walk_at "eu") ls fun u H8 nu e8 hu => ?_
            obtain ⟨g1, g2⟩ := grow (b := 0) hy ((e6.trans e7).trans e8) hu
            generalize upd H8 lp (.lst (bs.map V.ref ++ [.ref u])) = H9 at g1 g2
            refine q_asg (v := .int (cel land ((k : Int) + 1 + i) - cel land (k : Int))) (by walk_at "ev") fun H10 e10 => ?_
            walk_at "st"
            refine s_asg (v := .int ((k : Int) + 1 + i - (k : Int))) (by walk_at "ev") fun H11 e11 => ?_
            walk_at "st"
            obtain ⟨as2, q1, q2⟩ := g2
            exact ⟨g1.trans (e10.trans e11), ⟨as2, e11 _ _ (e10 _ _ q1), (q2.ex e10).ex e11⟩, _, _, _, _, rfl, .inr ⟨(k : Int) + 1 + (i : Int), rfl, rfl, hB⟩⟩
          · intro hno H7 e7
            obtain ⟨hB, hy⟩ := best_no hb (of_decide_eq_false hno)
            refine ⟨(e5.trans e6).trans e7, ⟨bs, e7 _ _ hl6, ?_⟩, _, _, _, _, rfl, .inr ⟨best, rfl, rfl, hB⟩⟩
            rw [aheadN_no hy]
            exact (tl5.ex e6).ex e7
      · rintro σ' H5 ⟨e5, ⟨bs, hl5, tl5⟩, v3, r, v5, v6, rfl, _⟩
        refine ⟨e5, ⟨bs, hl5, ?_⟩, _, _, _, _, _, rfl⟩
        rw [flatP_succ]
        have en : (((land.map V.int).length : Int) - ((k : Int) + 1)).toNat = ((land.length : Int) - ((k : Int) + 1)).toNat := by rw [hll]
        rw [en] at tl5
        exact tl5
    · rintro σ' H2 ⟨e2, ⟨as, hl2, tl2⟩, v2, v3, v4, v5, v6, rfl⟩
      refine s_ret (v := .ref lp) (by walk_at "ev") fun H3 e3 => q lp H3 as nl (by walk_at "ex") (e3 _ _ hl2) ?_
      have en : (((land.map V.int).length : Nat) : Int).toNat = ((land.length : Nat) : Int).toNat := by rw [hll]
      rw [en] at tl2
      exact tl2.ex e3
abbrev s_law_lacking : Stmt := topS 31
theorem sc_law_lacking : FnScope ["_law_pairs", "_law_others", "_law_there", "_law_pair"] ["_law_pairs", "_law_others"] (defScope s_law_lacking) := ⟨rfl, rfl, rfl, by decide +kernel, rfl, by decide +kernel, by decide +kernel⟩

theorem ok_lacking {f : Addr} {fd : FuncData} (F : Fun K "_law_lacking" "_law_lacking" s_law_lacking f fd) (B : Blt mg) : FnOk P w K mg base CX0 1 f fd ["_law_pairs", "_law_others"] (spP RWithout) := by
  refine F.ok sc_law_lacking (fun vs H Q E h => ?_) (fun cdv A outer s H vs Q E hr h => ?_)
  · obtain ⟨_, ⟨_, _, _, _, rfl, _⟩, _⟩ := h
    rfl
  · obtain ⟨xs, ⟨p, o, ps, os, rfl, hp, ho, h1, h2, rfl⟩, q⟩ := h
    refine ⟨_, (pss_cons (ps_set (i := 2) sc_law_lacking.nd rfl (Or.inr rfl) pe_dnewT)
      (pss_cons (ps_for PassesOwn.never rfl (pi_list (pv 1)) (pg_name (i := 3) sc_law_lacking.nd rfl (Or.inl rfl)) (pss_one (ps_dput (hu_of hr) (pv 2) (pv 3) pe_bl rfl)))
      (pss_one (ps_ret (pe_lc (own := [("_law_pair", 3)]) (g := gName 3)  rfl sc_law_lacking.nd (pi_list (pv 0)) (blkOk_by (N := ["_law_pairs", "_law_others", "_law_there", "_law_pair"]) (sc := defScope s_law_lacking) (by decide +kernel)) (fun _ _ _ _ _ => (pg_name (i := 3) sc_law_lacking.nd rfl (Or.inl rfl))) (fun _ _ _ _ _ => (pts_one (pt_cmp (pc_dnotin (hu_of hr) (pv 3) (pv 2))))) (fun _ _ _ _ _ => (pv 3))))))), ?_⟩
    try dsimp only [cxOf, Cx.nox, Cx.wish]
    rw [show L2.start ["_law_pairs", "_law_others", "_law_there", "_law_pair"] [.ref p, .ref o] = [some (.ref p), some (.ref o), none, none] from rfl]
    refine q_dnew fun d H1 nd e1 hd => ?_
    walk_at "st"
    obtain ⟨as, ha, ta⟩ := ho.ex e1
    refine q_forLn (a := o) (xs := as.map V.ref) (by walk_at "ev") (sq_of ha) (fun i σ' H' => Ex H H' ∧ (∃ kvs, H' d = some (.dT kvs) ∧ kvs.length ≤ i ∧ ∀ r : Int × Int, (valV kvs (pairK r)).isSome = decide (r ∈ os.take i)) ∧ ∃ v3, σ' = [some (.ref p), some (.ref o), some (.ref d), v3])
      (fun H2 e2 => ⟨by walk_at "ex", ⟨[], e2 _ _ hd, Nat.le_refl _, fun r => by simp [valV_nil]⟩, none, rfl⟩) (fun i σ' H' _ w => ?_) ?_ ?_
    · obtain ⟨bs, hb, tb⟩ := ho
      have z := e1 _ _ hb
      rw [ha] at z
      exact sq_of ((w.1 _ _ hb).trans z.symm)
    · rintro i x σ' H2 hx ⟨e2, ⟨kvs, hk, kl, hv⟩, v3, rfl⟩
      rw [List.getElem?_map] at hx
      obtain ⟨u, hu, rfl⟩ := Option.map_eq_some_iff.mp hx
      walk_at "st"
      have il : i < os.length := by rw [← ta.1]; exact (List.getElem?_eq_some_iff.mp hu).1
      have hq : os[i]? = some os[i] := List.getElem?_eq_getElem il
      obtain ⟨bs, hb, tb⟩ := ho
      have ea : bs = as := by
        have z := e1 _ _ hb
        rw [ha] at z
        exact (map_ref_inj (HO.lst.inj (Option.some.inj z))).symm
      subst ea
      have htu := e2 _ _ (tb.2 i u os[i] hu hq)
      refine s_dputP (q := os[i]) (by walk_at "ev") (by walk_at "ev") (by walk_at "ev") hk htu (by omega) fun H3 e3 => ?_
      refine ⟨Ex.mut (e2.trans e3) nd, ⟨_, upd_same, Nat.le_trans (length_putK ..) (by omega), fun r => ?_⟩, _, rfl⟩
      rw [valV_put, List.take_add_one, hq]
      by_cases e : pairK r = pairK os[i]
      · rw [if_pos e, pairK_inj.mp e]
        symm
        exact decide_eq_true (List.mem_append.mpr (.inr (List.mem_singleton.mpr rfl)))
      · rw [if_neg e, hv r]
        have ne : r ≠ os[i] := fun z => e (by rw [z])
        exact decide_eq_decide.mpr ⟨fun z => List.mem_append.mpr (.inl z), fun z => (List.mem_append.mp z).elim id fun w => absurd (List.mem_singleton.mp w) ne⟩
    · rintro σ' H2 ⟨e2, ⟨kvs, hk, _, hv⟩, v3, rfl⟩
      rw [List.length_map, ta.1, List.take_length] at hv
      refine s_retP (ep_keep (fun r => !decide (r ∈ os)) (by walk_at "ev") (hp.ex e2) (by omega) (fun _ => rfl) (fun _ => rfl) fun r b H3 e3 hb _ => ?_) fun r H3 bs nr e3 hr tr => q r H3 bs (fresh_back e2 nr) (e2.trans e3) hr tr
      walk_at "wi"
      exact et_is (et_dnotP (by walk_at "ev") (by walk_at "ev") (e3 _ _ hk) hb) (by rw [hv r])
abbrev s_law_due_by : Stmt := topS 32
theorem sc_law_due_by : FnScope ["_law_heights", "_law_place", "_law_by", "_law_ahead", "_law_later", "_law_k"] ["_law_heights", "_law_place", "_law_by"] (defScope s_law_due_by) := ⟨rfl, rfl, rfl, by decide +kernel, rfl, by decide +kernel, by decide +kernel⟩

theorem ok_due {f : Addr} {fd : FuncData} (F : Fun K "_law_due_by" "_law_due_by" s_law_due_by f fd) (B : Blt mg) (C__law_whole : Cal P w K mg base "_law_whole" 1 ["_law_found"] (spV RWholeV)) (C__law_sights_by : Cal P w K mg base "_law_sights_by" 1 ["_law_land"] (spP (RSightsBy K)))
    (C__law_lacking : Cal P w K mg base "_law_lacking" 1 ["_law_pairs", "_law_others"] (spP RWithout)) : FnOk P w K mg base CX0 2 f fd ["_law_heights", "_law_place", "_law_by"] spDue := by
  refine F.ok sc_law_due_by (fun vs H Q E h => ?_) (fun cdv A outer s H vs Q E hr h => ?_)
  · obtain ⟨_, _, _, _, ⟨_, _, rfl, _⟩ | ⟨_, _, rfl, _⟩ | ⟨_, _, rfl, _⟩⟩ := h <;> rfl
  · obtain ⟨hp, ns, hh, few, h⟩ := h
    have hll : (ns.map V.int).length = ns.length := List.length_map ..
    have inb : ∀ i : Int, (decide (-1000000000000000000 ≤ i) && decide (i ≤ 1000000000000000000)) = inB i := fun _ => rfl
    rcases h with ⟨a, b, rfl, lt, ib, q⟩ | ⟨x, y, rfl, bad, q⟩ | ⟨a, y, rfl, lt, bad, q⟩
    · refine ⟨_, (pss_cons (ps_if (PW.pt (pw_or (pt_not (pt_val (pe_cal C__law_whole hr (pa_cons (pv 1) pa_nil)))) (pw_or1 (pt_not (pt_chain op_le op_lt pe_int (pv 1) (pe_callB call_len_seq (by rfl) B.m_len PySem.boot_len (pa_cons (pv 0) pa_nil))))))) (pss_one (ps_ret pe_str)) pss_nil)
      (pss_cons (ps_if (PW.pt (pw_or (pt_not (pt_val (pe_cal C__law_whole hr (pa_cons (pv 2) pa_nil)))) (pw_or1 (pt_not (pt_chain op_le op_le (pe_un un_neg (pe_op op_pow pe_int pe_int)) (pe_op op_add (pe_ix ix_list (pv 0) (pv 1) (fun _ _ => rfl)) (pv 2)) (pe_op op_pow pe_int pe_int)))))) (pss_one (ps_ret pe_str)) pss_nil)
      (pss_cons (ps_set (i := 3) sc_law_due_by.nd rfl (Or.inl rfl) (pe_cal C__law_sights_by hr (pa_cons (pv 0) pa_nil)))
      (pss_cons (ps_set (i := 4) sc_law_due_by.nd rfl (Or.inl rfl) (pe_cal C__law_sights_by hr (pa_cons (pe_lc (own := [("_law_k", 5)]) (g := gName 5) (te := (tOp (rI0 fun i j => .int (i + j)) (tOp (rIxL K) (tVar 0) (tVar 5)) (tOp (rI CMul fun i j => .int (i * j)) (tVar 2) (tCB (fun xs H Q => (∃ i, xs = [V.int i] ∧ Q (.int i) H) ∨ ∃ k, xs = [V.bl k] ∧ Q (.int (if k then 1 else 0)) H) (tCons (tOp rEq (tVar 5) (tVar 1)) tNil))))) (tt := tYes) rfl sc_law_due_by.nd (pi_range1 (by rfl) B.m_range (pa_cons (pe_callB call_len_seq (by rfl) B.m_len PySem.boot_len (pa_cons (pv 0) pa_nil)) pa_nil)) (blkOk_by (N := ["_law_heights", "_law_place", "_law_by", "_law_ahead", "_law_later", "_law_k"]) (sc := defScope s_law_due_by) (by decide +kernel)) (fun _ _ _ _ _ => (pg_name (i := 5) sc_law_due_by.nd rfl (Or.inl rfl))) (fun _ _ _ _ _ => pts_nil) (fun _ _ _ _ _ => (pe_op op_add (pe_ix ix_list (pv 0) (pv 5) (fun _ _ => rfl)) (pe_op op_mul (pv 2) (pe_callTy call_int1 (by rfl) B.m_int (by decide +kernel) (pa_cons (pe_cmpR op_eq (pv 5) (pv 1) (nomark _)) pa_nil)))))) pa_nil)))
      (pss_one (ps_ret (pe_tup (pa_cons (pe_cal C__law_lacking hr (pa_cons (pv 4) (pa_cons (pv 3) pa_nil))) (pa_cons (pe_cal C__law_lacking hr (pa_cons (pv 3) (pa_cons (pv 4) pa_nil))) pa_nil))))))))), ?_⟩
      try dsimp only [cxOf, Cx.nox, Cx.wish]
      rw [show L2.start ["_law_heights", "_law_place", "_law_by", "_law_ahead", "_law_later", "_law_k"] [.ref hp, .int (a : Int), .int b] = [some (.ref hp), some (.int (a : Int)), some (.int b), none, none, none] from rfl]
      apply q_when (b := false)
      · refine et_is (et_or (et_not (et_B (ev_isW (by walk_at "ea")))) fun _ => et_not (et_B (ev_chain (by walk_at "ev") (by walk_at "ev") (by walk_at "ev") (by walk_at "rv") (by walk_at "rv")))) ?_
        rw [hll, decide_eq_true (p := (0 : Int) ≤ (a : Int)) (by omega), decide_eq_true (p := (a : Int) < (ns.length : Int)) (by omega)]
        rfl
      · intro z
        cases z
      intro _ H1 e1
      have hh1 := e1 _ _ hh
      apply q_when (b := false)
      · refine et_is (et_or (et_not (et_B (ev_isW (by walk_at "ea")))) fun _ => et_not (et_B (ev_chain (x := .int (-1000000000000000000)) (y := .int (cel ns (a : Int) + b)) (by walk_at "ev") (ev_op (ev_op (by walk_at "ev") (by walk_at "ev") (rv_ixL (sq_of hh1) (getD_ix (by omega) (by omega)))) (by walk_at "ev") (by walk_at "rv")) (by walk_at "ev") (by walk_at "rv") (by walk_at "rv")))) ?_
        rw [inb, ib]
        rfl
      · intro z
        cases z
      intro _ H2 e2
      have hh2 := e2 _ _ hh1
      refine q_asgP (ps := sightsOf ns) (ep_sightsBy (by walk_at "ea") (sq_of hh2) few) fun ap H3 as na e3 hap tap => ?_
      walk_at "st"
      have hh3 := e3 _ _ hh2
      have ll := liftL_len ns a b
      refine q_asgP (ps := sightsOf (liftL ns a b)) (ep_sightsByN (el_eq (el_lcR1 (n := ((ns.map V.int).length : Nat)) (fun _ => true) (fun k => .int (cel ns (k : Int) + b * (if decide (V.int (k : Int) = V.int (a : Int)) then 1 else 0))) (ea_cons (ev_cb (by walk_at "ea") (rc_len (sq_of hh3))) ea_nil) (by rw [hll]; omega) (fun _ => rfl) (fun _ _ _ _ => et_yes) fun k H4 e4 hk _ => ?_) ?_) (by rw [ll]; exact few)) fun bp H4 bs nbp e4 hbp tbp => ?_
      · rw [hll] at hk
        walk_at "wi"
        have hsl : SqL K H4 hp (ns.map V.int) := sq_of (e4 _ _ hh3)
        have hm : CMul b (if decide (V.int (k : Int) = V.int (a : Int)) then 1 else 0) := by
          refine .inr ⟨?_, ?_⟩ <;> (split <;> omega)
        exact ev_op (by walk_at "ev") (ev_op (by walk_at "ev") (by walk_at "ev") (rv_I hm)) (by walk_at "rv")
      · rw [hll, Int.toNat_natCast]
        exact given_lift ns lt b
      walk_at "st"
      have pa4 : PrL H4 ap (sightsOf ns) := PrL.ex e4 ⟨as, hap, tap⟩
      have pb4 : PrL H4 bp (sightsOf (liftL ns a b)) := ⟨bs, hbp, tbp⟩
      have f1 := sights_few few
      have f2 : (sightsOf (liftL ns a b)).length ≤ 2000 := sights_few (by omega)
      have e14 := ((e1.trans e2).trans e3).trans e4
      refine s_ret2P (ep_cal (vs := [.ref bp, .ref ap]) (by walk_at "ea") fun H5 e5 => ⟨bp, ap, _, _, rfl, pb4.ex e5, pa4.ex e5, f2, f1, rfl⟩) (fun H6 e6 => ep_cal (vs := [.ref ap, .ref bp]) (by walk_at "ea") fun H5 e5 => ⟨ap, bp, _, _, rfl, (pa4.ex e6).ex e5, (pb4.ex e6).ex e5, f1, f2, rfl⟩) fun t x y H5 nt nx ny xy tx ty e5 ht px py => ?_
      exact q t x y H5 (fresh_back e14 nt) (fresh_back e14 nx) (fresh_back e14 ny) xy tx ty (e14.trans e5) ht px py
    · refine ⟨_, (pss_cons (ps_if (PW.pt (pw_or (pt_not (pt_val (pe_cal C__law_whole hr (pa_cons (pv 1) pa_nil)))) (pw_or1 (pt_not (pt_chain op_le op_lt pe_int (pv 1) (pe_callB call_len_seq (by rfl) B.m_len PySem.boot_len (pa_cons (pv 0) pa_nil))))))) (pss_one (ps_ret pe_str)) pss_nil)
      (pss_cons (ps_if (PW.pt (pw_or (pt_not (pt_val (pe_cal C__law_whole hr (pa_cons (pv 2) pa_nil)))) (pw_or1 (pt_not (pt_chain op_le op_le (pe_un un_neg (pe_op op_pow pe_int pe_int)) (pe_op op_add (pe_ix ix_list (pv 0) (pv 1) (fun _ _ => rfl)) (pv 2)) (pe_op op_pow pe_int pe_int)))))) (pss_one (ps_ret pe_str)) pss_nil)
      (pss_cons (ps_set (i := 3) sc_law_due_by.nd rfl (Or.inl rfl) (pe_cal C__law_sights_by hr (pa_cons (pv 0) pa_nil)))
      (pss_cons (ps_set (i := 4) sc_law_due_by.nd rfl (Or.inl rfl) (pe_cal C__law_sights_by hr (pa_cons (pe_lc (own := [("_law_k", 5)]) (g := gName 5) (te := (tOp (rI0 fun i j => .int (i + j)) (tOp (rIxL K) (tVar 0) (tVar 5)) (tOp (rI CMul fun i j => .int (i * j)) (tVar 2) (tCB (fun xs H Q => (∃ i, xs = [V.int i] ∧ Q (.int i) H) ∨ ∃ k, xs = [V.bl k] ∧ Q (.int (if k then 1 else 0)) H) (tCons (tOp rEq (tVar 5) (tVar 1)) tNil))))) (tt := tYes) rfl sc_law_due_by.nd (pi_range1 (by rfl) B.m_range (pa_cons (pe_callB call_len_seq (by rfl) B.m_len PySem.boot_len (pa_cons (pv 0) pa_nil)) pa_nil)) (blkOk_by (N := ["_law_heights", "_law_place", "_law_by", "_law_ahead", "_law_later", "_law_k"]) (sc := defScope s_law_due_by) (by decide +kernel)) (fun _ _ _ _ _ => (pg_name (i := 5) sc_law_due_by.nd rfl (Or.inl rfl))) (fun _ _ _ _ _ => pts_nil) (fun _ _ _ _ _ => (pe_op op_add (pe_ix ix_list (pv 0) (pv 5) (fun _ _ => rfl)) (pe_op op_mul (pv 2) (pe_callTy call_int1 (by rfl) B.m_int (by decide +kernel) (pa_cons (pe_cmpR op_eq (pv 5) (pv 1) (nomark _)) pa_nil)))))) pa_nil)))
      (pss_one (ps_ret (pe_tup (pa_cons (pe_cal C__law_lacking hr (pa_cons (pv 4) (pa_cons (pv 3) pa_nil))) (pa_cons (pe_cal C__law_lacking hr (pa_cons (pv 3) (pa_cons (pv 4) pa_nil))) pa_nil))))))))), ?_⟩
      try dsimp only [cxOf, Cx.nox, Cx.wish]
      rw [show L2.start ["_law_heights", "_law_place", "_law_by", "_law_ahead", "_law_later", "_law_k"] [.ref hp, x, y] = [some (.ref hp), some (x), some (y), none, none, none] from rfl]
      apply q_when (b := true)
      · rcases bad_split bad with ⟨i, rfl, hi⟩ | hn
        · refine et_is (et_or (et_not (et_B (ev_isW (by walk_at "ea")))) fun _ => et_not (et_B (ev_chain (by walk_at "ev") (by walk_at "ev") (by walk_at "ev") (by walk_at "rv") (by walk_at "rv")))) ?_
          rw [hll]
          rcases hi with hi | hi
          · rw [decide_eq_false (p := (0 : Int) ≤ i) (by omega)]
            rfl
          · rw [decide_eq_false (p := i < (ns.length : Int)) (by omega), Bool.and_false]
            rfl
        · exact et_is (et_or (b := true) (et_not (et_B (ev_isN (by walk_at "ea") hn))) fun z => by cases z) rfl
      · intro _ H1 e1
        exact s_ret (v := .str "no hill") (by walk_at "ev") fun H2 e2 => q H2 (e1.trans e2)
      intro z
      cases z
    · refine ⟨_, (pss_cons (ps_if (PW.pt (pw_or (pt_not (pt_val (pe_cal C__law_whole hr (pa_cons (pv 1) pa_nil)))) (pw_or1 (pt_not (pt_chain op_le op_lt pe_int (pv 1) (pe_callB call_len_seq (by rfl) B.m_len PySem.boot_len (pa_cons (pv 0) pa_nil))))))) (pss_one (ps_ret pe_str)) pss_nil)
      (pss_cons (ps_if (PW.pt (pw_or (pt_not (pt_val (pe_cal C__law_whole hr (pa_cons (pv 2) pa_nil)))) (pw_or1 (pt_not (pt_chain op_le op_le (pe_un un_neg (pe_op op_pow pe_int pe_int)) (pe_op op_add (pe_ix ix_list (pv 0) (pv 1) (fun _ _ => rfl)) (pv 2)) (pe_op op_pow pe_int pe_int)))))) (pss_one (ps_ret pe_str)) pss_nil)
      (pss_cons (ps_set (i := 3) sc_law_due_by.nd rfl (Or.inl rfl) (pe_cal C__law_sights_by hr (pa_cons (pv 0) pa_nil)))
      (pss_cons (ps_set (i := 4) sc_law_due_by.nd rfl (Or.inl rfl) (pe_cal C__law_sights_by hr (pa_cons (pe_lc (own := [("_law_k", 5)]) (g := gName 5) (te := (tOp (rI0 fun i j => .int (i + j)) (tOp (rIxL K) (tVar 0) (tVar 5)) (tOp (rI CMul fun i j => .int (i * j)) (tVar 2) (tCB (fun xs H Q => (∃ i, xs = [V.int i] ∧ Q (.int i) H) ∨ ∃ k, xs = [V.bl k] ∧ Q (.int (if k then 1 else 0)) H) (tCons (tOp rEq (tVar 5) (tVar 1)) tNil))))) (tt := tYes) rfl sc_law_due_by.nd (pi_range1 (by rfl) B.m_range (pa_cons (pe_callB call_len_seq (by rfl) B.m_len PySem.boot_len (pa_cons (pv 0) pa_nil)) pa_nil)) (blkOk_by (N := ["_law_heights", "_law_place", "_law_by", "_law_ahead", "_law_later", "_law_k"]) (sc := defScope s_law_due_by) (by decide +kernel)) (fun _ _ _ _ _ => (pg_name (i := 5) sc_law_due_by.nd rfl (Or.inl rfl))) (fun _ _ _ _ _ => pts_nil) (fun _ _ _ _ _ => (pe_op op_add (pe_ix ix_list (pv 0) (pv 5) (fun _ _ => rfl)) (pe_op op_mul (pv 2) (pe_callTy call_int1 (by rfl) B.m_int (by decide +kernel) (pa_cons (pe_cmpR op_eq (pv 5) (pv 1) (nomark _)) pa_nil)))))) pa_nil)))
      (pss_one (ps_ret (pe_tup (pa_cons (pe_cal C__law_lacking hr (pa_cons (pv 4) (pa_cons (pv 3) pa_nil))) (pa_cons (pe_cal C__law_lacking hr (pa_cons (pv 3) (pa_cons (pv 4) pa_nil))) pa_nil))))))))), ?_⟩
      try dsimp only [cxOf, Cx.nox, Cx.wish]
      rw [show L2.start ["_law_heights", "_law_place", "_law_by", "_law_ahead", "_law_later", "_law_k"] [.ref hp, .int (a : Int), y] = [some (.ref hp), some (.int (a : Int)), some (y), none, none, none] from rfl]
      apply q_when (b := false)
      · refine et_is (et_or (et_not (et_B (ev_isW (by walk_at "ea")))) fun _ => et_not (et_B (ev_chain (by walk_at "ev") (by walk_at "ev") (by walk_at "ev") (by walk_at "rv") (by walk_at "rv")))) ?_
        rw [hll, decide_eq_true (p := (0 : Int) ≤ (a : Int)) (by omega), decide_eq_true (p := (a : Int) < (ns.length : Int)) (by omega)]
        rfl
      · intro z
        cases z
      intro _ H1 e1
      have hh1 := e1 _ _ hh
      apply q_when (b := true)
      · rcases bad with bad | ⟨b, rfl, ib⟩
        · exact et_is (et_or (b := true) (et_not (et_B (ev_isN (by walk_at "ea") (bad.ex e1)))) fun z => by cases z) rfl
        · refine et_is (et_or (et_not (et_B (ev_isW (by walk_at "ea")))) fun _ => et_not (et_B (ev_chain (x := .int (-1000000000000000000)) (y := .int (cel ns (a : Int) + b)) (by walk_at "ev") (ev_op (ev_op (by walk_at "ev") (by walk_at "ev") (rv_ixL (sq_of hh1) (getD_ix (by omega) (by omega)))) (by walk_at "ev") (by walk_at "rv")) (by walk_at "ev") (by walk_at "rv") (by walk_at "rv")))) ?_
          rw [inb, ib]
          rfl
      · intro _ H2 e2
        exact s_ret (v := .str "too high") (by walk_at "ev") fun H3 e3 => q H3 ((e1.trans e2).trans e3)
      intro z
      cases z
abbrev s_law_deed_by : Stmt := topS 30
theorem sc_law_deed_by : FnScope ["_law_cell", "_law_heights", "_law_far", "_law_place", "_law_kind", "_law_rest", "_law_some"] ["_law_cell", "_law_heights"] (defScope s_law_deed_by) := ⟨rfl, rfl, rfl, by decide +kernel, rfl, by decide +kernel, by decide +kernel⟩

theorem ok_deed {f : Addr} {fd : FuncData} (F : Fun K "_law_deed_by" "_law_deed_by" s_law_deed_by f fd) (B : Blt mg) : FnOk P w K mg base CX0 1 f fd ["_law_cell", "_law_heights"] spDeed := by
  refine F.ok sc_law_deed_by (fun vs H Q E h => ?_) (fun cdv A outer s H vs Q E hr h => ?_)
  · obtain ⟨_, _, _, rfl, _⟩ := h
    rfl
  · obtain ⟨hp, ns, c, rfl, hh, n1, few, q⟩ := h
    refine ⟨_, (pss_cons (ps_set (i := 2) sc_law_deed_by.nd rfl (Or.inl rfl) (pe_op op_pow pe_int pe_int))
      (pss_cons (ps_set (i := 3) sc_law_deed_by.nd rfl (Or.inl rfl) (pe_op op_mod (pe_op op_fdiv (pv 0) pe_int) (pe_callB call_len_seq (by rfl) B.m_len PySem.boot_len (pa_cons (pv 1) pa_nil))))
      (pss_cons (ps_set (i := 4) sc_law_deed_by.nd rfl (Or.inl rfl) (pe_op op_mod (pv 0) pe_int))
      (pss_cons (ps_set (i := 5) sc_law_deed_by.nd rfl (Or.inl rfl) (pe_op op_fdiv (pe_op op_fdiv (pv 0) pe_int) (pe_callB call_len_seq (by rfl) B.m_len PySem.boot_len (pa_cons (pv 1) pa_nil))))
      (pss_cons (ps_if (pt_cmpR op_lt (pv 4) pe_int (nomark _)) (pss_one (ps_ret (pe_tup (pa_cons (pv 3) (pa_cons (pe_op op_sub (pe_op op_mod (pv 5) pe_int) pe_int) pa_nil))))) pss_nil)
      (pss_cons (ps_if (pt_cmpR op_eq (pv 4) pe_int (nomark _)) (pss_one (ps_ret (pe_tup (pa_cons (pv 3) (pa_cons (pe_op op_sub (pe_op op_mod (pe_op op_mul (pv 0) pe_int) (pe_op op_add (pe_op op_mul pe_int (pv 2)) pe_int)) (pv 2)) pa_nil))))) pss_nil)
      (pss_cons (ps_if (pt_cmpR op_eq (pv 4) pe_int (nomark _)) (pss_one (ps_ret (pe_tup (pa_cons (pv 3) (pa_cons (pe_op op_add (pe_op op_sub (pv 2) (pe_ix ix_list (pv 1) (pv 3) (fun _ _ => rfl))) (pe_op op_mod (pv 5) pe_int)) pa_nil))))) pss_nil)
      (pss_cons (ps_if (pt_cmpR op_eq (pv 4) pe_int (nomark _)) (pss_one (ps_ret (pe_tup (pa_cons (pv 3) (pa_cons (pe_op op_sub (pe_op op_sub (pe_un un_neg (pv 2)) (pe_ix ix_list (pv 1) (pv 3) (fun _ _ => rfl))) (pe_op op_mod (pv 5) pe_int)) pa_nil))))) pss_nil)
      (pss_cons (ps_if (pt_cmpR op_eq (pv 4) pe_int (nomark _)) (pss_cons (ps_set (i := 6) sc_law_deed_by.nd rfl (Or.inl rfl) (pe_lst (pa_cons (pe_un un_neg pe_int) (pa_cons (pe_callB call_len_seq (by rfl) B.m_len PySem.boot_len (pa_cons (pv 1) pa_nil)) (pa_cons pe_bl (pa_cons pe_str (pa_cons pe_bl (pa_cons (pe_tup (pa_cons pe_int pa_nil)) (pa_cons (pe_lst (pa_cons pe_int pa_nil)) pa_nil)))))))))
      (pss_one (ps_ret (pe_tup (pa_cons (pe_ix ix_list (pv 6) (pe_op op_mod (pe_op op_fdiv (pv 0) pe_int) pe_int) (fun _ _ => rfl)) (pa_cons (pe_ix ix_list (pe_lst (pa_cons pe_int (pa_cons pe_bl pa_nil))) (pe_op op_mod (pe_op op_fdiv (pv 0) pe_int) pe_int) (fun _ _ => rfl)) pa_nil)))))) pss_nil)
      (pss_cons (ps_if (pt_cmpR op_eq (pv 4) pe_int (nomark _)) (pss_one (ps_ret (pe_tup (pa_cons (pv 3) (pa_cons (pe_ix ix_list (pe_lst (pa_cons pe_bl (pa_cons pe_non (pa_cons pe_str (pa_cons pe_bl (pa_cons (pe_tup (pa_cons pe_int pa_nil)) pa_nil)))))) (pe_op op_mod (pv 5) pe_int) (fun _ _ => rfl)) pa_nil))))) pss_nil)
      (pss_one (ps_ret (pe_tup (pa_cons pe_non (pa_cons pe_int pa_nil))))))))))))))), ?_⟩
    try dsimp only [cxOf, Cx.nox, Cx.wish]
    rw [show L2.start ["_law_cell", "_law_heights", "_law_far", "_law_place", "_law_kind", "_law_rest", "_law_some"] [.int c, .ref hp] = [some (.int c), some (.ref hp), none, none, none, none, none] from rfl]
    have hll : (ns.map V.int).length = ns.length := List.length_map ..
    refine q_asg (v := .int 1000000000000000000) (by walk_at "ev") fun H1 e1 => ?_
    walk_at "st"
    obtain ⟨a, ha⟩ : ∃ a : Nat, c / 11 % (ns.length : Int) = (a : Int) := ⟨(c / 11 % (ns.length : Int)).toNat, by have := Int.emod_nonneg (c / 11) (b := (ns.length : Int)) (by omega); omega⟩
    have alt : (a : Int) < (ns.length : Int) := ha ▸ Int.emod_lt_of_pos _ (by omega)
    have hh1 := e1 _ _ hh
    refine q_asg (v := .int (a : Int)) (ev_int (i := c / 11 % ((ns.map V.int).length : Nat)) (ev_op (by walk_at "ev") (ev_cb (by walk_at "ea") (rc_len (sq_of hh1))) (rv_I (by rw [hll]; omega))) (by rw [hll]; exact ha)) fun H2 e2 => ?_
    walk_at "st"
    have hh2 := e2 _ _ hh1
    obtain ⟨kd, hk⟩ : ∃ kd, c % 11 = kd := ⟨_, rfl⟩
    refine q_asg (v := .int kd) (ev_int (by walk_at "ev") hk) fun H3 e3 => ?_
    walk_at "st"
    have hh3 := e3 _ _ hh2
    obtain ⟨rs, hr⟩ : ∃ rs, c / 11 / (ns.length : Int) = rs := ⟨_, rfl⟩
    refine q_asg (v := .int rs) (ev_int (i := c / 11 / ((ns.map V.int).length : Nat)) (ev_op (by walk_at "ev") (ev_cb (by walk_at "ea") (rc_len (sq_of hh3))) (rv_I (by rw [hll]; unfold CDiv; omega))) (by rw [hll]; exact hr)) fun H4 e4 => ?_
    walk_at "st"
    have hh4 := e4 _ _ hh3
    have e14 := ((e1.trans e2).trans e3).trans e4
    clear hh1 hh2 hh3 e1 e2 e3 e4
    clear H1 H2 H3
    have at_a : atI (ns.map V.int) (a : Int) = some (.int (cel ns (a : Int))) := getD_ix (by omega) alt
    have okI : ∀ (b : Int) (H' : Hp), DeedOk ns.length (.int (a : Int)) (.int b) H' := fun b H' => .inr (.inr ⟨a, rfl, by omega, .inl ⟨b, rfl⟩⟩)
    have ret : ∀ {b : Int} {H5 : Hp}, Ex H4 H5 → ∀ p H6, H5 p = none → Ex H5 H6 → H6 p = some (.tup [.int (a : Int), .int b]) → Q (.ref p) H6 := fun {b H5} e5 p H6 np e6 hp6 => q p _ _ H6 (fresh_back (e14.trans e5) np) (e14.trans (e5.trans e6)) hp6 (okI b H6)
    apply q_when (b := decide (kd < 4))
    · exact by walk_at "et"
    · intro _ H5 e5
      exact s_retU (xs := [.int (a : Int), .int (rs % 9 - 4)]) (by walk_at "eu") (ret e5)
    intro _ H5 e5
    apply q_when (b := decide (kd = 4))
    · exact et_is (by walk_at "et") dec_eqI2
    · intro _ H6 e6
      exact s_retU (xs := [.int (a : Int), .int (c * 48271 % (2 * 1000000000000000000 + 1) - 1000000000000000000)]) (by walk_at "eu") (ret (e5.trans e6))
    intro _ H6 e6
    have hh6 := e6 _ _ (e5 _ _ hh4)
    apply q_when (b := decide (kd = 5))
    · exact et_is (by walk_at "et") dec_eqI2
    · intro _ H7 e7
      exact s_retU (xs := [.int (a : Int), .int (1000000000000000000 - cel ns (a : Int) + rs % 2)]) (eu_tup (ea_cons (by walk_at "ev") (ea_cons (ev_op (ev_op (by walk_at "ev") (ev_op (by walk_at "ev") (by walk_at "ev") (rv_ixL (sq_of (e7 _ _ hh6)) at_a)) (by walk_at "rv")) (by walk_at "ev") (by walk_at "rv")) ea_nil)) (Nat.le_of_ble_eq_true rfl)) (ret ((e5.trans e6).trans e7))
    intro _ H7 e7
    have hh7 := e7 _ _ hh6
    apply q_when (b := decide (kd = 6))
    · exact et_is (by walk_at "et") dec_eqI2
    · intro _ H8 e8
      exact s_retU (xs := [.int (a : Int), .int (-1000000000000000000 - cel ns (a : Int) - rs % 2)]) (eu_tup (ea_cons (by walk_at "ev") (ea_cons (ev_op (ev_op (by walk_at "ev") (ev_op (by walk_at "ev") (by walk_at "ev") (rv_ixL (sq_of (e8 _ _ hh7)) at_a)) (by walk_at "rv")) (by walk_at "ev") (by walk_at "rv")) ea_nil)) (Nat.le_of_ble_eq_true rfl)) (ret (((e5.trans e6).trans e7).trans e8))
    intro _ H8 e8
    have hh8 := e8 _ _ hh7
    have e58 := ((e5.trans e6).trans e7).trans e8
    clear hh6 hh7 hh4 e5 e6 e7 e8
    apply q_when (b := decide (kd = 7))
    · exact et_is (by walk_at "et") dec_eqI2
    · intro _ H9 e9
      have hh9 := e9 _ _ hh8
      refine q_asgLX (eax_cons (x := .int (-1)) (by walk_at "ev") (eax_cons (x := .int ((ns.map V.int).length : Nat)) (ev_cb (by walk_at "ea") (rc_len (sq_of hh9))) (eax_cons (x := .bl true) (by walk_at "ev") (eax_cons (x := .str "0") (by walk_at "ev") (eax_cons (x := .bl false) (by walk_at "ev") (eax_consU (by walk_at "eu") (eax_consL (xs := [.int 0]) (by walk_at "eu") eax_nil))))))) (fun vs H2 p => ?_) fun sp vs H10 H11 p e10 e11 hsp => ?_
      · obtain ⟨_, rfl, _, rfl, _, rfl, _, rfl, _, rfl, _, _, _, rfl, _, _, _, _, _, rfl, _, _, rfl⟩ := p
        exact Nat.le_of_ble_eq_true rfl
      walk_at "st"
      obtain ⟨_, rfl, _, rfl, _, rfl, _, rfl, _, rfl, tp, _, G1, rfl, ht, et, lp, _, G2, rfl, hl, el, rfl⟩ := p
      have i7 : 0 ≤ c / 11 % 7 ∧ c / 11 % 7 < 7 := by omega
      obtain ⟨v, hv, hm⟩ := atI_in (vs := [V.int (-1), .int ((ns.map V.int).length : Nat), .bl true, .str "0", .bl false, .ref tp, .ref lp]) (i := c / 11 % 7) i7.1 i7.2
      have bad : ∀ H', Ex H11 H' → v ≠ .non ∧ BadPl H' ns.length v := fun H' e' => by
        have t1 := e' _ _ (e11 _ _ (et _ _ ht))
        have t2 := e' _ _ (e11 _ _ (el _ _ hl))
        simp only [List.mem_cons, List.not_mem_nil, or_false] at hm
        rcases hm with rfl | rfl | rfl | rfl | rfl | rfl | rfl
        · exact ⟨fun z => (nomatch z), .int _ (.inl (by decide))⟩
        · exact ⟨fun z => (nomatch z), .int _ (.inr (by rw [hll]; exact Int.le_refl _))⟩
        · exact ⟨fun z => (nomatch z), .bl _⟩
        · exact ⟨fun z => (nomatch z), .str _⟩
        · exact ⟨fun z => (nomatch z), .bl _⟩
        · exact ⟨fun z => (nomatch z), .tup _ _ t1⟩
        · exact ⟨fun z => (nomatch z), .lst _ _ t2⟩
      refine s_ret2X (R1 := fun x H' => x ≠ .non ∧ BadPl H' ns.length x) (R2 := fun _ _ => True) (evx_of (v := v) (ev_op (by walk_at "ev") (by walk_at "ev") (rv_ixL (sq_of hsp) hv)) bad) (fun H12 e12 => evx_ix (i := c / 77 % 2) (eax_cons (x := .int 1) (by walk_at "ev") (eax_cons (x := .bl true) (by walk_at "ev") eax_nil)) (fun vs H2 p => ?_) (by walk_at "ev") fun vs H2 p => ?_)
        (fun x G G' e r => ⟨r.1, r.2.ex e⟩) (fun _ _ _ _ _ => trivial) fun t x y H12 nt e12 htt r1 _ => q t x y H12 (fresh_back (e14.trans (e58.trans (e9.trans e10))) nt) (e14.trans (e58.trans (e9.trans (e10.trans e12)))) htt (.inr (.inl r1))
      · obtain ⟨_, rfl, _, rfl, rfl⟩ := p
        exact Nat.le_of_ble_eq_true rfl
      · obtain ⟨_, rfl, _, rfl, rfl⟩ := p
        obtain ⟨u, hu, _⟩ := atI_in (vs := [V.int 1, .bl true]) (i := c / 77 % 2) (by omega) (by show _ < (2 : Int); omega)
        exact ⟨u, hu, fun _ _ => trivial⟩
    intro _ H9 e9
    apply q_when (b := decide (kd = 8))
    · exact et_is (by walk_at "et") dec_eqI2
    · intro _ H10 e10
      refine s_ret2X (R1 := fun x _ => x = .int (a : Int)) (R2 := fun y H' => NoInt H' y) (evx_of (v := .int (a : Int)) (by walk_at "ev") fun _ _ => rfl) (fun H12 e12 => evx_ix (i := rs % 5) (eax_cons (x := .bl true) (by walk_at "ev") (eax_cons (x := .non) (by walk_at "ev") (eax_cons (x := .str "1") (by walk_at "ev") (eax_cons (x := .bl false) (by walk_at "ev") (eax_consU (by walk_at "eu") eax_nil))))) (fun vs H2 p => ?_) (by walk_at "ev") fun vs H2 p => ?_)
        (fun x G G' e r => r) (fun _ _ _ e r => r.ex e) fun t x y H12 nt e12 htt r1 r2 => q t x y H12 (fresh_back (e14.trans (e58.trans (e9.trans e10))) nt) (e14.trans (e58.trans (e9.trans (e10.trans e12)))) htt (.inr (.inr ⟨a, r1, by omega, .inr r2⟩))
      · obtain ⟨_, rfl, _, rfl, _, rfl, _, rfl, _, _, _, rfl, _, _, rfl⟩ := p
        exact Nat.le_of_ble_eq_true rfl
      · obtain ⟨_, rfl, _, rfl, _, rfl, _, rfl, tp, _, G1, rfl, ht, et, rfl⟩ := p
        obtain ⟨u, hu, hm⟩ := atI_in (vs := [V.bl true, .non, .str "1", .bl false, .ref tp]) (i := rs % 5) (by omega) (by show _ < (5 : Int); omega)
        refine ⟨u, hu, fun H3 e3 => ?_⟩
        have t1 := e3 _ _ (et _ _ ht)
        simp only [List.mem_cons, List.not_mem_nil, or_false] at hm
        rcases hm with rfl | rfl | rfl | rfl | rfl
        · exact .bl _
        · exact .non
        · exact .str _
        · exact .bl _
        · exact .tup _ _ t1
    intro _ H10 e10
    exact s_retU (xs := [.non, .int 0]) (by walk_at "eu") fun p H11 np e11 hp11 => q p _ _ H11 (fresh_back (e14.trans (e58.trans (e9.trans e10))) np) (e14.trans (e58.trans (e9.trans (e10.trans e11)))) hp11 (.inl ⟨rfl, 0, rfl⟩)
abbrev s_law_alike : Stmt := topS 33
theorem sc_law_alike : FnScope ["_law_found", "_law_due"] ["_law_found", "_law_due"] (defScope s_law_alike) := ⟨rfl, rfl, rfl, by decide +kernel, rfl, by decide +kernel, by decide +kernel⟩

theorem ok_alike10 {f : Addr} {fd : FuncData} (F : Fun K "_law_alike" "_law_alike" s_law_alike f fd) (B : Blt mg) : FnOk P w K mg base CX0 1 f fd ["_law_found", "_law_due"] spAlike := by
  refine F.ok sc_law_alike (fun vs H Q E h => ?_) (fun cdv A outer s H vs Q E hr h => ?_)
  · rcases h with ⟨_, rfl, _⟩ | ⟨_, _, _, _, _, _, _, _, _, rfl, _⟩ <;> rfl
  · rcases h with ⟨a, rfl, q⟩ | ⟨t, u, x, y, x2, y2, ps, qs, Hb, rfl, ht, hu, px, py, px2, py2, xy, l1, l2, n1, n2, eb, q⟩
    · refine ⟨_, (pss_cons (ps_if (pt_val (pe_callB call_isi (by rfl) B.m_isinstance (by decide +kernel) (pa_cons (pv 1) (pa_cons (pe_bltn (v := .ty "str") (by rfl) B.m_str (by decide +kernel) rfl) pa_nil)))) (pss_one (ps_ret (pe_cmpR op_eq (pv 0) (pv 1) (nomark _)))) pss_nil)
      (pss_cons (ps_if (PW.pt (pw_or (pt_not (pt_val (pe_callB call_isi (by rfl) B.m_isinstance (by decide +kernel) (pa_cons (pv 0) (pa_cons (pe_bltn (v := .ty "tuple") (by rfl) B.m_tuple (by decide +kernel) rfl) pa_nil))))) (pw_or (pt_cmpR op_ne (pe_callB call_len_seq (by rfl) B.m_len PySem.boot_len (pa_cons (pv 0) pa_nil)) pe_int (nomark _)) (pw_or1 (pt_not (pt_val (pe_callB call_isi (by rfl) B.m_isinstance (by decide +kernel) (pa_cons (pe_ix ix_tup (pv 0) pe_int (fun _ _ => rfl)) (pa_cons (pe_bltn (v := .ty "list") (by rfl) B.m_list (by decide +kernel) rfl) pa_nil))))))))) (pss_one (ps_ret pe_bl)) pss_nil)
      (pss_cons (ps_if (PW.pt (pw_or (pt_not (pt_val (pe_callB call_isi (by rfl) B.m_isinstance (by decide +kernel) (pa_cons (pe_ix ix_tup (pv 0) pe_int (fun _ _ => rfl)) (pa_cons (pe_bltn (v := .ty "list") (by rfl) B.m_list (by decide +kernel) rfl) pa_nil))))) (pw_or (pt_cmpR (op_neD hr.units) (pe_ix ix_tup (pv 0) pe_int (fun _ _ => rfl)) (pe_ix ix_tup (pv 1) pe_int (fun _ _ => rfl)) (nomark _)) (pw_or1 (pt_cmpR (op_neD hr.units) (pe_ix ix_tup (pv 0) pe_int (fun _ _ => rfl)) (pe_ix ix_tup (pv 1) pe_int (fun _ _ => rfl)) (nomark _)))))) (pss_one (ps_ret pe_bl)) pss_nil)
      (pss_cons (ps_expr (pe_bm PySem.F.plainAttrs_list PySem.F.slot_list_append PySem.F.type_list_append mt_append (pe_ix ix_tup (pv 0) pe_int (fun _ _ => rfl)) (pa_cons (pe_tup (pa_cons pe_int (pa_cons pe_int pa_nil))) pa_nil)))
      (pss_cons (ps_expr (pe_bm PySem.F.plainAttrs_list PySem.F.slot_list_append PySem.F.type_list_append mt_append (pe_ix ix_tup (pv 0) pe_int (fun _ _ => rfl)) (pa_cons (pe_tup (pa_cons pe_int (pa_cons pe_int pa_nil))) pa_nil)))
      (pss_one (ps_ret pe_bl))))))), ?_⟩
      try dsimp only [cxOf, Cx.nox, Cx.wish]
      rw [show L2.start ["_law_found", "_law_due"] [.str a, .str a] = [some (.str a), some (.str a)] from rfl]
      apply q_when (b := true)
      · exact et_B (ev_cb (by walk_at "ea") (rc_isi_str kb_str_str2))
      · intro _ H1 e1
        exact s_ret (v := .bl true) (ev_is (v := .bl (decide (V.str a = V.str a))) (ev_op (by walk_at "ev") (by walk_at "ev") (rv_eq rfl)) (by simp)) fun H2 e2 => q H2 (e1.trans e2)
      intro z
      cases z
    · refine ⟨_, (pss_cons (ps_if (pt_val (pe_callB call_isi (by rfl) B.m_isinstance (by decide +kernel) (pa_cons (pv 1) (pa_cons (pe_bltn (v := .ty "str") (by rfl) B.m_str (by decide +kernel) rfl) pa_nil)))) (pss_one (ps_ret (pe_cmpR op_eq (pv 0) (pv 1) (nomark _)))) pss_nil)
      (pss_cons (ps_if (PW.pt (pw_or (pt_not (pt_val (pe_callB call_isi (by rfl) B.m_isinstance (by decide +kernel) (pa_cons (pv 0) (pa_cons (pe_bltn (v := .ty "tuple") (by rfl) B.m_tuple (by decide +kernel) rfl) pa_nil))))) (pw_or (pt_cmpR op_ne (pe_callB call_len_seq (by rfl) B.m_len PySem.boot_len (pa_cons (pv 0) pa_nil)) pe_int (nomark _)) (pw_or1 (pt_not (pt_val (pe_callB call_isi (by rfl) B.m_isinstance (by decide +kernel) (pa_cons (pe_ix ix_tup (pv 0) pe_int (fun _ _ => rfl)) (pa_cons (pe_bltn (v := .ty "list") (by rfl) B.m_list (by decide +kernel) rfl) pa_nil))))))))) (pss_one (ps_ret pe_bl)) pss_nil)
      (pss_cons (ps_if (PW.pt (pw_or (pt_not (pt_val (pe_callB call_isi (by rfl) B.m_isinstance (by decide +kernel) (pa_cons (pe_ix ix_tup (pv 0) pe_int (fun _ _ => rfl)) (pa_cons (pe_bltn (v := .ty "list") (by rfl) B.m_list (by decide +kernel) rfl) pa_nil))))) (pw_or (pt_cmpR (op_neD hr.units) (pe_ix ix_tup (pv 0) pe_int (fun _ _ => rfl)) (pe_ix ix_tup (pv 1) pe_int (fun _ _ => rfl)) (nomark _)) (pw_or1 (pt_cmpR (op_neD hr.units) (pe_ix ix_tup (pv 0) pe_int (fun _ _ => rfl)) (pe_ix ix_tup (pv 1) pe_int (fun _ _ => rfl)) (nomark _)))))) (pss_one (ps_ret pe_bl)) pss_nil)
      (pss_cons (ps_expr (pe_bm PySem.F.plainAttrs_list PySem.F.slot_list_append PySem.F.type_list_append mt_append (pe_ix ix_tup (pv 0) pe_int (fun _ _ => rfl)) (pa_cons (pe_tup (pa_cons pe_int (pa_cons pe_int pa_nil))) pa_nil)))
      (pss_cons (ps_expr (pe_bm PySem.F.plainAttrs_list PySem.F.slot_list_append PySem.F.type_list_append mt_append (pe_ix ix_tup (pv 0) pe_int (fun _ _ => rfl)) (pa_cons (pe_tup (pa_cons pe_int (pa_cons pe_int pa_nil))) pa_nil)))
      (pss_one (ps_ret pe_bl))))))), ?_⟩
      try dsimp only [cxOf, Cx.nox, Cx.wish]
      rw [show L2.start ["_law_found", "_law_due"] [.ref t, .ref u] = [some (.ref t), some (.ref u)] from rfl]
      have i1 : ∀ {G : Hp}, Ex H G → RV (rIxT K) (.ref t) (.int 0) G (.ref x) ∧ RV (rIxT K) (.ref t) (.int 1) G (.ref y) := fun e => rv_ixT2 (e _ _ ht)
      have i2 : ∀ {G : Hp}, Ex H G → RV (rIxT K) (.ref u) (.int 0) G (.ref x2) ∧ RV (rIxT K) (.ref u) (.int 1) G (.ref y2) := fun e => rv_ixT2 (e _ _ hu)
      obtain ⟨xs, hx, tx⟩ := id px
      obtain ⟨ys, hy, ty⟩ := id py
      apply q_when (b := false)
      · exact et_B (ev_cb (by walk_at "ea") (rc_isi_tup hu kb_tuple_str))
      · intro z
        cases z
      intro _ H1 e1
      apply q_when (b := false)
      · refine et_is (a := !true || (!decide (V.int (([V.ref x, .ref y].length : Nat) : Int) = V.int 2) || !true)) (et_or (et_not (et_B (ev_cb (by walk_at "ea") (rc_isi_tup (e1 _ _ ht) kb_tuple_tuple)))) fun _ => et_or (et_test (ev_op (ev_cb (by walk_at "ea") (rc_lenT (st_of (e1 _ _ ht)))) (by walk_at "ev") (rv_ne rfl))) fun _ => et_not (et_B (ev_cb (ea_cons (ev_op (by walk_at "ev") (by walk_at "ev") (i1 e1).1) (by walk_at "ea")) (rc_isi_lst (e1 _ _ hx) kb_list_list)))) (by simp)
      · intro z
        cases z
      intro _ H2 e2
      have e12 := e1.trans e2
      apply q_when (b := false)
      · refine et_is (a := !true || (!decide (ps = ps) || !decide (qs = qs))) (et_or (et_not (et_B (ev_cb (ea_cons (ev_op (by walk_at "ev") (by walk_at "ev") (i1 e12).2) (by walk_at "ea")) (rc_isi_lst (e12 _ _ hy) kb_list_list)))) fun _ => et_or (et_test (ev_op (ev_op (by walk_at "ev") (by walk_at "ev") (i1 e12).1) (ev_op (by walk_at "ev") (by walk_at "ev") (i2 e12).1) (rv_neP (px.ex e12) (px2.ex e12)))) fun _ => et_test (ev_op (ev_op (by walk_at "ev") (by walk_at "ev") (i1 e12).2) (ev_op (by walk_at "ev") (by walk_at "ev") (i2 e12).2) (rv_neP (py.ex e12) (py2.ex e12)))) (by simp)
      · intro z
        cases z
      intro _ H3 e3
      have e13 := e12.trans e3
      refine q_appU (ys := [.int 0, .int 0]) (e13 _ _ hx) (ev_op (by walk_at "ev") (by walk_at "ev") (i1 e13).1) (by walk_at "eu") (by rw [List.length_map, tx.1]; omega) fun v H4 nv e4 hv => ?_
      have e14 := e13.trans e4
      have eb5 : Ex Hb (upd H4 x (.lst (xs.map V.ref ++ [.ref v]))) := Ex.mut (eb.trans e14) n1
      have ht5 : upd H4 x (.lst (xs.map V.ref ++ [.ref v])) t = some (.tup [.ref x, .ref y]) := by
        rw [upd_ne (fun z => by rw [z, hx] at ht; cases ht)]
        exact e14 _ _ ht
      have px5 : PrL (upd H4 x (.lst (xs.map V.ref ++ [.ref v]))) x (ps ++ [(0, 0)]) := ⟨xs ++ [v], by rw [upd_same, List.map_append]; rfl, ((tx.ex e14).snoc (p := v) (q := (0, 0)) hv).upd (e14 _ _ hx)⟩
      have py5 : PrL (upd H4 x (.lst (xs.map V.ref ++ [.ref v]))) y qs := (py.ex e14).set xy.symm (e14 _ _ hx)
      revert eb5 ht5 px5 py5
      generalize upd H4 x (.lst (xs.map V.ref ++ [.ref v])) = H5
      intro eb5 ht5 px5 py5
      obtain ⟨zs, hy5, ty5⟩ := id py5
      refine q_appU (ys := [.int 0, .int 0]) hy5 (ev_op (by walk_at "ev") (by walk_at "ev") (rv_ixT2 ht5).2) (by walk_at "eu") (by rw [List.length_map, ty5.1]; omega) fun v2 H6 nv2 e6 hv2 => ?_
      have eb7 : Ex Hb (upd H6 y (.lst (zs.map V.ref ++ [.ref v2]))) := Ex.mut (eb5.trans e6) n2
      have px7 : PrL (upd H6 y (.lst (zs.map V.ref ++ [.ref v2]))) x (ps ++ [(0, 0)]) := (px5.ex e6).set xy (e6 _ _ hy5)
      have py7 : PrL (upd H6 y (.lst (zs.map V.ref ++ [.ref v2]))) y (qs ++ [(0, 0)]) := ⟨zs ++ [v2], by rw [upd_same, List.map_append]; rfl, ((ty5.ex e6).snoc (p := v2) (q := (0, 0)) hv2).upd (e6 _ _ hy5)⟩
      exact s_ret (v := .bl true) (by walk_at "ev") fun H8 e8 => q H8 (eb7.trans e8) (px7.ex e8) (py7.ex e8)
abbrev s_law_stands : Stmt := topS 35
theorem sc_law_stands : FnScope ["_law_land", "_law_heights", "_law_told_here", "_law_seen"] ["_law_land", "_law_heights"] (defScope s_law_stands) := ⟨rfl, rfl, rfl, by decide +kernel, rfl, by decide +kernel, by decide +kernel⟩

theorem ok_stands {f C : Addr} {fd : FuncData} (F : Fun K "_law_stands" "_law_stands" s_law_stands f fd) (B : Blt mg) (L : LandK K C) (C_told : CalM P w K mg base CX0 C "told" 1 ["self"] (spL (RTold C))) (C_seen : CalM P w K mg base CX0 C "seen" 4 ["self"] (spP (RSeen C)))
    (C__law_sights_by : Cal P w K mg base "_law_sights_by" 1 ["_law_land"] (spP (RSightsBy K))) : FnOk P w K mg base CX0 5 f fd ["_law_land", "_law_heights"] (spV (RStands C)) := by
  refine F.ok sc_law_stands (fun vs H Q E h => ?_) (fun cdv A outer s H vs Q E hr h => ?_)
  · obtain ⟨_, ⟨_, _, _, _, _, _, rfl, _⟩, _⟩ := h
    rfl
  · obtain ⟨v, ⟨p, dx, hp, lp, l, ns, rfl, hx, hh, hs, few, rfl⟩, q⟩ := h
    refine ⟨_, (pss_cons (ps_set (i := 2) sc_law_stands.nd rfl (Or.inl rfl) (pe_methC0 (pv 0) C_told hr))
      (pss_cons (ps_set (i := 3) sc_law_stands.nd rfl (Or.inl rfl) (pe_methC0 (pv 0) C_seen hr))
      (pss_cons (ps_if (PW.pt (pw_or (pt_not (pt_val (pe_callB call_isi (by rfl) B.m_isinstance (by decide +kernel) (pa_cons (pv 2) (pa_cons (pe_bltn (v := .ty "list") (by rfl) B.m_list (by decide +kernel) rfl) pa_nil))))) (pw_or1 (pt_cmpR (op_neD hr.units) (pv 2) (pv 1) (nomark _))))) (pss_one (ps_ret pe_bl)) pss_nil)
      (pss_cons (ps_if (PW.pt (pw_or (pt_not (pt_val (pe_callB call_isi (by rfl) B.m_isinstance (by decide +kernel) (pa_cons (pv 3) (pa_cons (pe_bltn (v := .ty "list") (by rfl) B.m_list (by decide +kernel) rfl) pa_nil))))) (pw_or1 (pt_cmpR (op_neD hr.units) (pv 3) (pe_cal C__law_sights_by hr (pa_cons (pv 1) pa_nil)) (nomark _))))) (pss_one (ps_ret pe_bl)) pss_nil)
      (pss_cons (ps_expr (pe_bm PySem.F.plainAttrs_list PySem.F.slot_list_append PySem.F.type_list_append mt_append (pv 2) (pa_cons pe_int pa_nil)))
      (pss_cons (ps_expr (pe_bm PySem.F.plainAttrs_list PySem.F.slot_list_append PySem.F.type_list_append mt_append (pv 3) (pa_cons (pe_tup (pa_cons pe_int (pa_cons pe_int pa_nil))) pa_nil)))
      (pss_cons (ps_if (PW.pt (pw_or (pt_cmpR (op_neD hr.units) (pe_methC0 (pv 0) C_told hr) (pv 1) (nomark _)) (pw_or1 (pt_cmpR (op_neD hr.units) (pe_methC0 (pv 0) C_seen hr) (pe_slice sl_list (pv 3) po_none (po_some (pe_un un_neg pe_int))) (nomark _))))) (pss_one (ps_ret pe_bl)) pss_nil)
      (pss_one (ps_ret (pe_cmpR (op_eqD hr.units) (pv 2) (pe_op op_cat (pv 1) (pe_lst (pa_cons pe_int pa_nil))) (nomark _))))))))))), ?_⟩
    try dsimp only [cxOf, Cx.nox, Cx.wish]
    rw [show L2.start ["_law_land", "_law_heights", "_law_told_here", "_law_seen"] [.ref p, .ref l] = [some (.ref p), some (.ref l), none, none] from rfl]
    have nmt : (fldsL hp lp).lookup ("told" : Str) = none := fldsL_no _ _ (by decide +kernel) (by decide +kernel)
    have nms : (fldsL hp lp).lookup ("seen" : Str) = none := fldsL_no _ _ (by decide +kernel) (by decide +kernel)
    refine q_asgL (xs := ns.map V.int) (el_told (by walk_at "ev") hx hh nmt) fun tp H1 nt e1 ht => ?_
    walk_at "st"
    refine q_asgP (ps := sightsOf ns) (ep_seen (by walk_at "ev") (e1 _ _ hx) (e1 _ _ hh) few nms) fun sp H2 as ns2 e2 hsp tsp => ?_
    walk_at "st"
    have hs2 := e2 _ _ (e1 _ _ hs)
    have ht2 := e2 _ _ ht
    apply q_when (b := false)
    · exact et_is (a := !true || !decide (ns = ns)) (et_or (et_not (et_B (ev_cb (by walk_at "ea") (rc_isi_lst (e := kb_list_list) ht2)))) fun _ => et_test (ev_op (by walk_at "ev") (by walk_at "ev") (rv_neI (sq_of ht2) (sq_of hs2)))) (by simp)
    · intro z
      cases z
    intro _ H3 e3
    have pr3 : PrL H3 sp (sightsOf ns) := PrL.ex e3 ⟨as, hsp, tsp⟩
    have hs3 := e3 _ _ hs2
    apply q_when (b := false)
    · exact et_is (a := !true || !decide (sightsOf ns = sightsOf ns)) (et_or (et_not (et_B (ev_cb (by walk_at "ea") (rc_isi_lst (e := kb_list_list) (e3 _ _ hsp))))) fun _ => et_test (ev_opPr (by walk_at "ev") (ep_sightsBy (by walk_at "ea") (sq_of hs3) few) fun r H4 pr e4 => rv_neP (pr3.ex e4) pr)) (by simp)
    · intro z
      cases z
    intro _ H4 e4
    have ht4 := e4 _ _ (e3 _ _ ht2)
    refine q_app ht4 (by walk_at "ev") (by walk_at "ev") (by rw [List.length_map]; omega) fun H5 e5 => ?_
    have e15 := (((e1.trans e2).trans e3).trans e4).trans e5
    have nts : sp ≠ tp := fun z => by rw [z, ht] at ns2; cases ns2
    have em : Ex H (upd H5 tp (.lst (ns.map V.int ++ [.int 0]))) := Ex.mut e15 nt
    have htm : upd H5 tp (.lst (ns.map V.int ++ [.int 0])) tp = some (.lst ((ns ++ [0]).map V.int)) := by
      rw [upd_same, List.map_append]
      rfl
    have prm := (pr3.ex (e4.trans e5)).set (ys := ns.map V.int ++ [.int 0]) nts (e5 _ _ ht4)
    revert em htm prm
    generalize upd H5 tp (.lst (ns.map V.int ++ [.int 0])) = Hm
    intro em htm prm
    obtain ⟨bs, hbm, tbm⟩ := prm
    have nsH : H sp = none := fresh_back e1 ns2
    have f1 := sights_few few
    refine q_appU (ys := [.int 0, .int 0]) hbm (by walk_at "ev") (by walk_at "eu") (by rw [List.length_map, tbm.1]; omega) fun u H6 nu e6 hu => ?_
    have ez : Ex H (upd H6 sp (.lst (bs.map V.ref ++ [.ref u]))) := Ex.mut (em.trans e6) nsH
    have htz : upd H6 sp (.lst (bs.map V.ref ++ [.ref u])) tp = some (.lst ((ns ++ [0]).map V.int)) := by
      rw [upd_ne nts.symm]
      exact e6 _ _ htm
    have prz : PrL (upd H6 sp (.lst (bs.map V.ref ++ [.ref u]))) sp (sightsOf ns ++ [(0, 0)]) := ⟨bs ++ [u], by rw [upd_same, List.map_append]; rfl, ((tbm.ex e6).snoc (p := u) (q := (0, 0)) hu).upd (e6 _ _ hbm)⟩
    revert ez htz prz
    generalize upd H6 sp (.lst (bs.map V.ref ++ [.ref u])) = Hz
    intro ez htz prz
    have hxz := ez _ _ hx
    have hhz := ez _ _ hh
    have hsz := ez _ _ hs
    apply q_when (b := false)
    · refine et_is (a := !decide (ns = ns) || !decide (sightsOf ns = sightsOf ns)) (et_or (et_test (ev_opL1 (el_told (by walk_at "ev") hxz hhz nmt) (fun G e => by walk_at "ev") fun r G hr e => rv_neI (sq_of hr) (sq_of (e _ _ hsz)))) fun _ => et_test (ev_opPP (ep_seen (by walk_at "ev") hxz hhz few nms) (fun G e => ep_init (by walk_at "ev") (by walk_at "ev") (prz.ex e)) fun r1 r2 G p1 p2 e => rv_neP p1 p2)) (by simp)
    · intro z
      cases z
    intro _ H7 e7
    have ec : ns.map V.int ++ [.int 0] = (ns ++ [0]).map V.int := by rw [List.map_append]; rfl
    exact s_ret (v := .bl true) (ev_is (v := .bl (decide (ns ++ [0] = ns ++ [0]))) (ev_opL (by walk_at "ev") (el_catV (by walk_at "ev") (e7 _ _ hsz) (by walk_at "eu") ec.symm (by rw [List.length_map, List.length_cons, List.length_nil]; omega)) fun r G hr e => rv_eqI (sq_of (e _ _ (e7 _ _ htz))) (sq_of hr)) (by simp)) fun H8 e8 => q H8 (ez.trans (e7.trans e8))
abbrev s_law_kept : Stmt := topS 34
theorem sc_law_kept : FnScope ["_law_told_here", "_law_found", "_law_good", "_law_pair", "_law_one", "_law_other"] ["_law_told_here", "_law_found"] (defScope s_law_kept) := ⟨rfl, rfl, rfl, by decide +kernel, rfl, by decide +kernel, by decide +kernel⟩

theorem ok_kept {f : Addr} {fd : FuncData} (F : Fun K "_law_kept" "_law_kept" s_law_kept f fd) (B : Blt mg) : FnOk P w K mg base CX0 1 f fd ["_law_told_here", "_law_found"] (spKept K) := by
  refine F.ok sc_law_kept (fun vs H Q E h => ?_) (fun cdv A outer s H vs Q E hr h => ?_)
  · obtain ⟨_, _, _, _, rfl, _⟩ := h
    rfl
  · obtain ⟨th, v, M, ts, rfl, tm, lm, kp, few, h⟩ := h
    refine ⟨_, (pss_cons (ps_set (i := 2) sc_law_kept.nd rfl (Or.inl rfl) (pe_callB (cr_all rfl) (by rfl) B.m_all (by decide +kernel) (pa_cons (pe_lc (own := [("_law_pair", 3), ("_law_one", 4), ("_law_other", 5)]) (g := gTup K 3 (gCons (gName 3) (gCons (gName 4) (gCons (gName 5) (gNil))))) (te := (tAndV (tOp (rEqD K) (tOp (rIxT K) (tVar 3) (tC (.int 0))) (tVar 4)) (tOp (rEqD K) (tOp (rIxT K) (tVar 3) (tC (.int 1))) (tVar 5)))) (tt := tYes) rfl sc_law_kept.nd (pi_list (pv 0)) (blkOk_by (N := ["_law_told_here", "_law_found", "_law_good", "_law_pair", "_law_one", "_law_other"]) (sc := defScope s_law_kept) (by decide +kernel)) (fun _ _ _ _ _ => (pg_tup rfl (pgs_cons (pg_name (i := 3) sc_law_kept.nd rfl (Or.inl rfl)) (pgs_cons (pg_name (i := 4) sc_law_kept.nd rfl (Or.inl rfl)) (pgs_cons (pg_name (i := 5) sc_law_kept.nd rfl (Or.inl rfl)) pgs_nil))))) (fun _ _ _ _ _ => pts_nil) (fun _ _ _ _ _ => (pe_and (pe_cmpR (op_eqD hr.units) (pe_ix ix_tup (pv 3) pe_int (fun _ _ => rfl)) (pv 4) (nomark _)) (pe_one (pe_cmpR (op_eqD hr.units) (pe_ix ix_tup (pv 3) pe_int (fun _ _ => rfl)) (pv 5) (nomark _)))))) pa_nil)))
      (pss_cons (ps_if (pt_val (pe_callB call_isi (by rfl) B.m_isinstance (by decide +kernel) (pa_cons (pv 1) (pa_cons (pe_bltn (v := .ty "tuple") (by rfl) B.m_tuple (by decide +kernel) rfl) pa_nil)))) (pss_one (ps_expr (pe_bm PySem.F.plainAttrs_list PySem.F.slot_list_append PySem.F.type_list_append mt_append (pv 0) (pa_cons (pe_tup (pa_cons (pv 1) (pa_cons (pe_callTy call_list_of (by rfl) B.m_list (by decide +kernel) (pa_cons (pe_ix ix_tup (pv 1) pe_int (fun _ _ => rfl)) pa_nil)) (pa_cons (pe_callTy call_list_of (by rfl) B.m_list (by decide +kernel) (pa_cons (pe_ix ix_tup (pv 1) pe_int (fun _ _ => rfl)) pa_nil)) pa_nil)))) pa_nil)))) pss_nil)
      (pss_one (ps_ret (pv 2))))), ?_⟩
    try dsimp only [cxOf, Cx.nox, Cx.wish]
    rw [show L2.start ["_law_told_here", "_law_found", "_law_good", "_law_pair", "_law_one", "_law_other"] [.ref th, v] = [some (.ref th), some (v), none, none, none, none] from rfl]
    have okH : ∀ t ∈ ts, EntOk H t := fun t m => (kp.e t m).ex (offs_ex H M)
    refine q_asg (v := .bl true) (ev_allKept (by walk_at "ev") kp.l (by omega) okH (fun _ _ _ => rfl) (fun _ _ _ => rfl) (fun _ _ _ => rfl) (fun _ _ _ => rfl)) fun H1 e1 => ?_
    walk_at "st"
    rcases h with ⟨hv, q⟩ | ⟨f, x, y, ps, qs, rfl, hf, nx, ny, px, py, q⟩
    · apply q_when (b := false)
      · rcases hv with rfl | ⟨s, rfl⟩
        · exact et_B (ev_cb (by walk_at "ea") (rc_isi_non kb_NoneType_tuple))
        · exact et_B (ev_cb (by walk_at "ea") (rc_isi_str kb_str_tuple))
      · intro z
        cases z
      intro _ H2 e2
      exact s_ret (v := .bl true) (by walk_at "ev") fun H3 e3 => q H3 ((e1.trans e2).trans e3)
    · have hf1 := e1 _ _ hf
      apply q_when (b := true)
      · exact et_B (ev_cb (by walk_at "ea") (rc_isi_tup hf1 kb_tuple_tuple))
      · intro _ H2 e2
        have e12 := e1.trans e2
        have hf2 := e2 _ _ hf1
        obtain ⟨as, hx2, tx2⟩ := px.ex e12
        obtain ⟨bs, hy2, ty2⟩ := py.ex e12
        have kp2 := kp.ex e12
        have lm2 := lm.ex e12
        refine s_app3 kp2.l (by walk_at "ev") (by walk_at "ev") (el_cb (ea_cons (ev_op (by walk_at "ev") (by walk_at "ev") (rv_ixT2 hf2).1) ea_nil) (rcl_list (sq_of hx2))) (el_cb (ea_cons (ev_op (by walk_at "ev") (by walk_at "ev") (rv_ixT2 hf2).2) ea_nil) (rcl_list (sq_of hy2))) (by rw [List.length_map]; omega) fun l m u H3 nl nm nu e3 hl3 hm3 hu3 => ?_
        have th3 := e3 _ _ kp2.l
        have nlM := lm2.no_new nl
        have nmM := lm2.no_new nm
        have nuM := lm2.no_new nu
        have lm4 : Lsts (upd H3 th (.lst (ts.map V.ref ++ [.ref u]))) M := (lm2.ex e3).upd
        have px3 : PrL H3 x ps := PrL.ex e3 ⟨as, hx2, tx2⟩
        have py3 : PrL H3 y qs := PrL.ex e3 ⟨bs, hy2, ty2⟩
        have pl3 : PrL H3 l ps := ⟨as, hl3, tx2.ex e3⟩
        have pm3 : PrL H3 m qs := ⟨bs, hm3, ty2.ex e3⟩
        have ne : ∀ {b}, b ∉ M → b ≠ th := fun n z => n (z ▸ tm)
        have E4 : Ex (offs H [th]) (upd H3 th (.lst (ts.map V.ref ++ [.ref u]))) := offs_upd (ex_off (e12.trans e3)) (List.mem_singleton.mpr rfl)
        have hf3 := e3 _ _ hf2
        have hf4 : upd H3 th (.lst (ts.map V.ref ++ [.ref u])) f = some (.tup [.ref x, .ref y]) := by
          rw [upd_ne (fun z => by rw [z, th3] at hf3; cases hf3)]
          exact hf3
        have hu4 : upd H3 th (.lst (ts.map V.ref ++ [.ref u])) u = some (.tup [.ref f, .ref l, .ref m]) := by
          rw [upd_ne (ne nuM)]
          exact hu3
        have ht4 : upd H3 th (.lst (ts.map V.ref ++ [.ref u])) th = some (.lst ((ts ++ [u]).map V.ref)) := by
          rw [upd_same, List.map_append]
          rfl
        have px4 := px3.set (ys := ts.map V.ref ++ [.ref u]) (ne nx) th3
        have py4 := py3.set (ys := ts.map V.ref ++ [.ref u]) (ne ny) th3
        have pl4 := pl3.set (ys := ts.map V.ref ++ [.ref u]) (ne nlM) th3
        have pm4 := pm3.set (ys := ts.map V.ref ++ [.ref u]) (ne nmM) th3
        revert lm4 E4 hf4 hu4 ht4 px4 py4 pl4 pm4
        generalize upd H3 th (.lst (ts.map V.ref ++ [.ref u])) = H4
        intro lm4 E4 hf4 hu4 ht4 px4 py4 pl4 pm4
        have kp4 : Kept H4 M th (ts ++ [u]) := by
          refine ⟨ht4, fun t m => ?_⟩
          rcases List.mem_append.mp m with m | m
          · exact (kp.e t m).ex (offs_step (fun b hb => .inl (by rw [List.mem_singleton.mp hb]; exact tm)) E4)
          · rw [List.mem_singleton.mp m]
            exact ⟨f, l, _, x, y, ps, qs, offs_at nuM hu4, offs_at (lm4.no_tup hf4) hf4, offs_pr px4 nx lm4, offs_pr py4 ny lm4, offs_pr pl4 nlM lm4, offs_pr pm4 nmM lm4⟩
        dsimp only
        exact s_ret (v := .bl true) (by walk_at "ev") fun H5 e5 => q H5 (ts ++ [u]) (E4.trans e5) (kp4.ex e5) (by rw [List.length_append]; rfl)
      · intro z
        cases z
abbrev s_law_lifted : Stmt := topS 36
theorem sc_law_lifted : FnScope ["_law_land", "_law_heights", "_law_done_here", "_law_turn", "_law_place"] ["_law_land", "_law_heights", "_law_done_here"] (defScope s_law_lifted) := ⟨rfl, rfl, rfl, by decide +kernel, rfl, by decide +kernel, by decide +kernel⟩

theorem ok_lifted {f C N T : Addr} {fd : FuncData} (F : Fun K "_law_lifted" "_law_lifted" s_law_lifted f fd) (B : Blt mg) (C_lift : CalM P w K mg base (L2.CX P w) C "lift" 5 ["self", "place", "by"] (spLift C N T)) : FnOk P w K mg base CX0 6 f fd ["_law_land", "_law_heights", "_law_done_here"] (spLifted C) := by
  refine F.ok sc_law_lifted (fun vs H Q E h => ?_) (fun cdv A outer s H vs Q E hr h => ?_)
  · obtain ⟨_, _, _, _, _, _, _, _, rfl, _⟩ := h
    rfl
  · obtain ⟨p, dx, hp, lp, hl, d, begun, Hb, rfl, sm, small, b1, b2, b3, b4, eb, q⟩ := h
    refine ⟨_, (pss_one (ps_for PassesOwn.never rfl (pi_range1 (by rfl) B.m_range (pa_cons (pe_op op_add pe_int (pe_op op_mul pe_int (pe_callTy call_int1 (by rfl) B.m_int (by decide +kernel) (pa_cons (pe_cmpR op_lt (pe_callB call_len_seq (by rfl) B.m_len PySem.boot_len (pa_cons (pv 1) pa_nil)) pe_int (nomark _)) pa_nil)))) pa_nil)) (pg_name (i := 3) sc_law_lifted.nd rfl (Or.inl rfl)) (pss_cons (ps_set (i := 4) sc_law_lifted.nd rfl (Or.inl rfl) (pe_op op_mod (pe_op op_mul (pv 3) pe_int) (pe_callB call_len_seq (by rfl) B.m_len PySem.boot_len (pa_cons (pv 1) pa_nil))))
      (pss_cons (ps_expr (pe_methL (pv 0) C_lift hr (pa_cons (pv 4) (pa_cons (pe_op op_add pe_int (pe_op op_mod (pv 3) pe_int)) pa_nil))))
      (pss_cons (ps_augS (pv 1) (pv 4) get_listI (pe_op op_add pe_int (pe_op op_mod (pv 3) pe_int)) ip_add set_list)
      (pss_one (ps_expr (pe_bm PySem.F.plainAttrs_list PySem.F.slot_list_append PySem.F.type_list_append mt_append (pv 2) (pa_cons (pe_tup (pa_cons (pv 4) (pa_cons (pe_op op_add pe_int (pe_op op_mod (pv 3) pe_int)) pa_nil))) pa_nil))))))))), ?_⟩
    try dsimp only [cxOf, Cx.nox, Cx.wish]
    rw [show L2.start ["_law_land", "_law_heights", "_law_done_here", "_law_turn", "_law_place"] [.ref p, .ref hl, .ref d] = [some (.ref p), some (.ref hl), some (.ref d), none, none] from rfl]
    have nm : (fldsL hp lp).lookup ("lift" : Str) = none := fldsL_no _ _ (by decide +kernel) (by decide +kernel)
    obtain ⟨n, hn, n90⟩ : ∃ n : Int, 30 + 60 * (if decide ((begun.length : Int) < 10) then 1 else 0) = n ∧ (0 ≤ n ∧ n ≤ 90) := ⟨_, rfl, by split <;> omega⟩
    have l0 : ((afterL begun []).map V.int).length = begun.length := by rw [List.length_map, afterL_len]
    refine s_forR1 (n := n) (ea_cons (ev_int (i := 30 + 60 * (if decide ((((afterL begun []).map V.int).length : Int) < 10) then 1 else 0)) (ev_op (by walk_at "ev") (ev_op (by walk_at "ev") (ev_cb (ea_cons (ev_op (ev_cb (by walk_at "ea") (rc_len (sq_of sm.hs))) (by walk_at "ev") (by walk_at "rv")) ea_nil) rc_intb) (rv_I (.inl ⟨by decide, by decide⟩))) (by walk_at "rv")) (by rw [l0]; exact hn)) ea_nil) (by omega)
      (fun i σ' H' => ∃ ls, ls.length = i ∧ Ex Hb H' ∧ Same C H' p dx hp lp hl d begun ls ∧ (∀ j ∈ afterL begun ls, -1000000 - 2 * (i : Int) ≤ j ∧ j ≤ 1000000 + 2 * (i : Int)) ∧ ∃ v3 v4, σ' = [some (.ref p), some (.ref hl), some (.ref d), v3, v4])
      (fun H1 e1 => ⟨[], rfl, eb.trans e1, ⟨e1 _ _ sm.x, e1 _ _ sm.hh, e1 _ _ sm.hs, sm.pl.ex e1, sm.pd.ex e1, sm.ne, sm.n1, sm.few, sm.ok⟩, fun j hj => by have := small j hj; omega, none, none, rfl⟩) ?_ ?_
    · rintro i σ' H1 hi ⟨ls, li, e1, s1, bd, v3, v4, rfl⟩
      walk_at "st"
      have ln := afterL_len begun ls
      have l1 : ((afterL begun ls).map V.int).length = begun.length := by rw [List.length_map, ln]
      have n1 := sm.n1
      have few := sm.few
      obtain ⟨m1, m2, m3, m4, m5, m6⟩ := sm.ne
      obtain ⟨a, ha⟩ : ∃ a : Nat, (i : Int) * 7 % (begun.length : Int) = (a : Int) := ⟨((i : Int) * 7 % (begun.length : Int)).toNat, by have := Int.emod_nonneg ((i : Int) * 7) (b := (begun.length : Int)) (by omega); omega⟩
      have alt : (a : Int) < (begun.length : Int) := ha ▸ Int.emod_lt_of_pos _ (by omega)
      refine q_asg (v := .int (a : Int)) (ev_int (i := (i : Int) * 7 % (((afterL begun ls).map V.int).length : Nat)) (ev_op (by walk_at "ev") (ev_cb (by walk_at "ea") (rc_len (sq_of s1.hs))) (rv_I (by rw [l1]; omega))) (by rw [l1]; exact ha)) fun H2 e2 => ?_
      walk_at "st"
      obtain ⟨b, hb⟩ : ∃ b, 1 + (i : Int) % 2 = b := ⟨_, rfl⟩
      have cm : cel (afterL begun ls) (a : Int) ∈ afterL begun ls := by
        have lt2 : a < (afterL begun ls).length := by omega
        unfold cel
        rw [List.getD_eq_getElem?_getD, Int.toNat_natCast, List.getElem?_eq_getElem lt2]
        exact List.getElem_mem lt2
      have cb := bd _ cm
      have ib : inB (cel (afterL begun ls) (a : Int) + b) = true := by
        unfold inB
        rw [decide_eq_true (by omega), decide_eq_true (by omega)]
        rfl
      have eb2 : Ex (offH (offH H2 hp) lp) H2 := (offH_ex _ lp).trans (offH_ex _ hp)
      refine q_dropM (vs := [.int (a : Int), .int b]) (by walk_at "ev") (ea_cons (by walk_at "ev") (ea_cons (ev_int (by walk_at "ev") hb) ea_nil)) (e2 _ _ s1.x) nm fun H3 e3 => ?_
      have e13 := e2.trans e3
      have x3 := e13 _ _ s1.x
      have hh3 := e13 _ _ s1.hh
      have hs3 := e13 _ _ s1.hs
      have pl3 := s1.pl.ex e13
      have pd3 := s1.pd.ex e13
      obtain ⟨zs, hlp3, _⟩ := id pl3
      have lt2 : a < (afterL begun ls).length := by omega
      refine ⟨p, dx, hp, lp, afterL begun ls, ls, x3, hh3, pl3, m1, by omega, by omega, .inl ⟨a, b, offH (offH H3 hp) lp, rfl, lt2, ib, ?_, offH_none _ _, (offH_ex _ lp).trans (offH_ex _ hp), fun t x y H4 nt nx ny xy tx ty e4 hh4 pl4 ht px py => ?_⟩⟩
      · unfold offH
        rw [if_neg m1, if_pos rfl]
      have to4 : ∀ {c : Addr} {o : HO}, c ≠ hp → c ≠ lp → H3 c = some o → H4 c = some o := fun c1 c2 ho => e4 _ _ (offH_at c2 (offH_at c1 ho))
      have x4 := to4 (fun z => by rw [z, hh3] at x3; cases x3) (fun z => by rw [z, hlp3] at x3; cases x3) x3
      have hs4 := to4 m2.symm m4.symm hs3
      have pd4 : PrL H4 d ls := (offH_pr (offH_pr pd3 m3.symm hh3) m5.symm (offH_at m1.symm hlp3)).ex e4
      have eb4 : Ex Hb H4 := fun c o hc => to4 (fun z => by rw [z, b1] at hc; cases hc) (fun z => by rw [z, b2] at hc; cases hc) (e13 _ _ (e1 _ _ hc))
      have at_a : ((afterL begun ls).map V.int)[a]? = some (.int (cel (afterL begun ls) (a : Int))) := by
        rw [List.getElem?_map]
        unfold cel
        rw [List.getD_eq_getElem?_getD, Int.toNat_natCast, List.getElem?_eq_getElem lt2]
        rfl
      have snoc := afterL_snoc begun ls a b
      refine q_augL (p := hl) (k := a) (b := b) (by walk_at "ev") (by walk_at "ev") (ev_int (by walk_at "ev") hb) hs4 at_a fun H5 e5 => ?_
      have hs5 := e5 _ _ hs4
      obtain ⟨ys, hlp4, tlp4⟩ := id pl4
      have hs6 : upd H5 hl (.lst (((afterL begun ls).map V.int).set a (.int (cel (afterL begun ls) (a : Int) + b)))) hl = some (.lst ((afterL begun (ls ++ [((a : Int), b)])).map V.int)) := by
        rw [upd_same, snoc]
        unfold liftL
        rw [List.map_set]
      have hh6 : upd H5 hl (.lst (((afterL begun ls).map V.int).set a (.int (cel (afterL begun ls) (a : Int) + b)))) hp = some (.lst ((afterL begun (ls ++ [((a : Int), b)])).map V.int)) := by
        rw [upd_ne m2, snoc]
        exact e5 _ _ hh4
      have x6 : upd H5 hl (.lst (((afterL begun ls).map V.int).set a (.int (cel (afterL begun ls) (a : Int) + b)))) p = some (.ins C dx (fldsL hp lp)) := by
        rw [upd_ne (fun z => by rw [z, hs4] at x4; cases x4)]
        exact e5 _ _ x4
      have pl6 := (pl4.ex e5).set (ys := ((afterL begun ls).map V.int).set a (.int (cel (afterL begun ls) (a : Int) + b))) m4 hs5
      have pd6 := (pd4.ex e5).set (ys := ((afterL begun ls).map V.int).set a (.int (cel (afterL begun ls) (a : Int) + b))) m6.symm hs5
      have eb6 : Ex Hb (upd H5 hl (.lst (((afterL begun ls).map V.int).set a (.int (cel (afterL begun ls) (a : Int) + b))))) := Ex.mut (eb4.trans e5) b3
      revert hs6 hh6 x6 pl6 pd6 eb6
      generalize upd H5 hl (.lst (((afterL begun ls).map V.int).set a (.int (cel (afterL begun ls) (a : Int) + b)))) = H6
      intro hs6 hh6 x6 pl6 pd6 eb6
      obtain ⟨ds, hd6, td6⟩ := id pd6
      refine s_appU (ys := [.int (a : Int), .int b]) hd6 (by walk_at "ev") (eu_tup (ea_cons (by walk_at "ev") (ea_cons (ev_int (by walk_at "ev") hb) ea_nil)) (Nat.le_of_ble_eq_true rfl)) (by rw [List.length_map, td6.1]; omega) fun u H7 nu e7 hu => ?_
      have hd7 := e7 _ _ hd6
      refine ⟨ls ++ [((a : Int), b)], by rw [List.length_append, List.length_cons, List.length_nil, li], Ex.mut (eb6.trans e7) b4, ⟨?_, ?_, ?_, (pl6.ex e7).set m5 hd7, ⟨ds ++ [u], by rw [upd_same, List.map_append]; rfl, ((td6.ex e7).snoc (p := u) (q := ((a : Int), b)) hu).upd hd7⟩, sm.ne, n1, few, s1.ok.snoc (by omega) ib⟩, fun j hj => ?_, _, _, rfl⟩
      · rw [upd_ne (fun z => by rw [z, hd6] at x6; cases x6)]
        exact e7 _ _ x6
      · rw [upd_ne m3]
        exact e7 _ _ hh6
      · rw [upd_ne m6]
        exact e7 _ _ hs6
      · rw [snoc] at hj
        rcases liftL_mem hj with hj | hj
        · have := bd j hj
          omega
        · omega
    · rintro σ' H1 ⟨ls, li, e1, s1, _, v3, v4, rfl⟩
      exact q H1 ls e1 s1 (by omega)
abbrev s_law_all_back : Stmt := topS 37
theorem sc_law_all_back : FnScope ["_law_land", "_law_heights", "_law_done_here", "_law_place", "_law_by"] ["_law_land", "_law_heights", "_law_done_here"] (defScope s_law_all_back) := ⟨rfl, rfl, rfl, by decide +kernel, rfl, by decide +kernel, by decide +kernel⟩

theorem ok_all_back {f C : Addr} {fd : FuncData} (F : Fun K "_law_all_back" "_law_all_back" s_law_all_back f fd) (B : Blt mg) (C__law_told : Cal P w K mg base "_law_told" 6 ["_law_land", "_law_place", "_law_by"] (spTold C)) (C__law_stands : Cal P w K mg base "_law_stands" 5 ["_law_land", "_law_heights"] (spV (RStands C))) :
    FnOk P w K mg base CX0 7 f fd ["_law_land", "_law_heights", "_law_done_here"] (spAllBack2 C) := by
  refine F.ok sc_law_all_back (fun vs H Q E h => ?_) (fun cdv A outer s H vs Q E hr h => ?_)
  · obtain ⟨_, _, _, _, _, _, _, _, rfl, _⟩ := h
    rfl
  · obtain ⟨p, dx, hp, lp, hl, d, begun, ls, rfl, sm, few1, q⟩ := h
    have few := sm.few
    have n1 := sm.n1
    refine ⟨_, (pss_cons (ps_while PassesOwn.never (pt_cmpR (op_neD hr.units) (pv 2) (pe_lst pa_nil) (nomark _)) (pss_cons (ps_asg (pe_bm0 PySem.F.plainAttrs_list PySem.F.slot_list_pop PySem.F.type_list_pop mt_pop (pv 2)) (pg_tup rfl (pgs_cons (pg_name (i := 3) sc_law_all_back.nd rfl (Or.inl rfl)) (pgs_cons (pg_name (i := 4) sc_law_all_back.nd rfl (Or.inl rfl)) pgs_nil))))
      (pss_cons (ps_if (pt_not (pt_val (pe_callB call_isi (by rfl) B.m_isinstance (by decide +kernel) (pa_cons (pe_cal C__law_told hr (pa_cons (pv 0) (pa_cons pe_non (pa_cons pe_int pa_nil)))) (pa_cons (pe_bltn (v := .ty "tuple") (by rfl) B.m_tuple (by decide +kernel) rfl) pa_nil))))) (pss_one (ps_ret pe_bl)) pss_nil)
      (pss_one (ps_augS (pv 1) (pv 3) get_listI (pv 4) ip_sub set_list)))))
      (pss_one (ps_ret (pe_and (pe_cmpR op_eq (pe_cal C__law_told hr (pa_cons (pv 0) (pa_cons pe_non (pa_cons pe_int pa_nil)))) pe_str (nomark _)) (pe_one (pe_cal C__law_stands hr (pa_cons (pv 0) (pa_cons (pv 1) pa_nil)))))))), ?_⟩
    try dsimp only [cxOf, Cx.nox, Cx.wish]
    rw [show L2.start ["_law_land", "_law_heights", "_law_done_here", "_law_place", "_law_by"] [.ref p, .ref hl, .ref d] = [some (.ref p), some (.ref hl), some (.ref d), none, none] from rfl]
    refine q_while (fun m σ' H' => ∃ ls' : List (Int × Int), m = ls'.length ∧ ls'.length ≤ 1000 ∧ Ex (offs H [hp, lp, hl, d]) H' ∧ Same C H' p dx hp lp hl d begun ls' ∧ ∃ v3 v4, σ' = [some (.ref p), some (.ref hl), some (.ref d), v3, v4]) ls.length ⟨ls, rfl, few1, offs_ex _ _, sm, none, none, rfl⟩ ?_
    rintro m σ' H1 ⟨ls', rfl, few2, e1, s1, v3, v4, rfl⟩
    obtain ⟨m1, m2, m3, m4, m5, m6⟩ := id s1.ne
    refine ⟨decide (ls' ≠ []), ?_, fun hb H2 e2 => ?_, fun hb H2 e2 => ?_⟩
    · exact et_is (et_test (ev_opL (xs := []) (by walk_at "ev") (by walk_at "eu") fun r G hr e => rv_neP (s1.pd.ex e) (PrL.empty hr))) (by simp)
    · have nn := of_decide_eq_true hb
      obtain ⟨l0, ⟨pa, b⟩, rfl⟩ : ∃ l0 z, ls' = l0 ++ [z] := ⟨ls'.dropLast, ls'.getLast nn, (List.dropLast_concat_getLast nn).symm⟩
      obtain ⟨a, rfl, alt⟩ := s1.ok.1 (pa, b) (List.mem_append.mpr (.inr (List.mem_singleton.mpr rfl)))
      have n0 : (afterL begun l0).length = begun.length := afterL_len begun l0
      have ln : (afterL begun (l0 ++ [((a : Int), b)])).length = begun.length := afterL_len begun _
      have lt : a < (afterL begun (l0 ++ [((a : Int), b)])).length := by omega
      obtain ⟨bk, ib⟩ := s1.ok.back alt
      have few3 : l0.length + 1 ≤ 1000 := by rwa [List.length_append] at few2
      refine ⟨fun σ2 H2 => ∃ v3 v4, σ2 = [some (.ref p), some (.ref hl), some (.ref d), v3, v4] ∧ Ex (offs H [hp, lp, hl, d]) H2 ∧ Same C H2 p dx hp lp hl d begun l0, ?_, ?_⟩
      · rintro σ2 H3 ⟨v5, v6, rfl, e3, s3⟩
        exact ⟨l0.length, by rw [List.length_append]; exact Nat.lt_succ_self _, l0, rfl, by omega, e3, s3, v5, v6, rfl⟩
      have s2 := s1.ex e2
      refine q_popP (by walk_at "ev") s2.pd fun H4 xs e4 pd5 => ?_
      walk_at "st"
      have t5 := (s2.toLS.ex e4).setD pd5
      have E5 : Ex (offs H [hp, lp, hl, d]) (upd H4 d (.lst xs)) := offs_upd ((e1.trans e2).trans e4) (by simp)
      revert t5 E5
      generalize upd H4 d (.lst xs) = H5
      intro t5 E5
      refine q_ifNotIs (vs := [.ref p, .non, .int 0]) (by walk_at "ea") fun H6 e6 => ?_
      have t6 := t5.ex e6
      refine ⟨p, dx, hp, lp, _, _, t6.x, t6.hh, t6.pl, m1, by omega, few2, .inr (.inr (.inr (.inl ⟨l0, a, b, offs H6 [hp, lp], _, rfl, rfl, lt, offs_none (by simp), offs_none (by simp), offs_ex _ _, fun t x y H7 nt nx ny xy tx ty e7 hh7 pl7 ht px py => ?_⟩)))⟩
      refine rc_isi_tup ht kb_tuple_tuple H7 (Ex.refl _) _ fun H8 e8 => not_go ?_
      have t7 := t6.told e7 hh7 pl7
      have t8 := t7.ex e8
      have E8 : Ex (offs H [hp, lp, hl, d]) H8 := (offs_trans (E5.trans e6) (fun b m => .inl (by
        rcases List.mem_cons.mp m with z | z
        · rw [z]; simp
        · rw [List.mem_singleton.mp z]; simp)) e7).trans e8
      refine s_augL (p := hl) (k := a) (b := b) (a := cel (afterL begun (l0 ++ [((a : Int), b)])) (a : Int)) (by walk_at "ev") (by walk_at "ev") (by walk_at "ev") t8.hs (get_celV lt) fun H9 e9 => ?_
      have t9 := (t8.ex e9).setH (back_set (ns := afterL begun (l0 ++ [((a : Int), b)])) (a := a) (b := b))
      have E9 := offs_upd (a := hl) (o := .lst (((afterL begun (l0 ++ [((a : Int), b)])).map V.int).set a (.int (cel (afterL begun (l0 ++ [((a : Int), b)])) (a : Int) - b)))) (E8.trans e9) (by simp)
      rw [bk] at t9
      exact ⟨_, _, rfl, E9, t9.same n1 few s1.ok.init⟩
    · have z : ls' = [] := Decidable.of_not_not (of_decide_eq_false hb)
      subst z
      have s2 := s1.ex e2
      refine s_andEq (vs := [.ref p, .non, .int 0]) (by walk_at "ea") fun H3 e3 => ?_
      have s3 := s2.ex e3
      refine ⟨p, dx, hp, lp, _, _, s3.x, s3.hh, s3.pl, m1, by have := afterL_len begun []; omega, by simp, .inr (.inr (.inr (.inr ⟨_, rfl, rfl, fun H4 e4 => andEq_go ?_⟩)))⟩
      refine t_call (vs := [.ref p, .ref hl]) (by walk_at "ea") fun H5 e5 => ?_
      have e15 := ((e2.trans e3).trans e4).trans e5
      exact ⟨.bl true, stands_of (s1.ex e15), fun H6 e6 => q H6 ((e1.trans e15).trans e6) (s1.ex (e15.trans e6))⟩
abbrev s_law_goes : Stmt := topS 39
theorem sc_law_goes : FnScope ["_law_land", "_law_heights", "_law_done_here", "_law_place", "_law_by", "_law_told_here", "_law_due", "_law_found"] ["_law_land", "_law_heights", "_law_done_here", "_law_place", "_law_by", "_law_told_here"] (defScope s_law_goes) := ⟨rfl, rfl, rfl, by decide +kernel, rfl, by decide +kernel, by decide +kernel⟩

theorem ok_goes {f C : Addr} {fd : FuncData} (F : Fun K "_law_goes" "_law_goes" s_law_goes f fd) (B : Blt mg) (C__law_due_by : Cal P w K mg base "_law_due_by" 2 ["_law_heights", "_law_place", "_law_by"] spDue) (C__law_told : Cal P w K mg base "_law_told" 6 ["_law_land", "_law_place", "_law_by"] (spTold C))
    (C__law_alike : Cal P w K mg base "_law_alike" 1 ["_law_found", "_law_due"] spAlike) (C__law_kept : Cal P w K mg base "_law_kept" 1 ["_law_told_here", "_law_found"] (spKept K)) (C__law_stands : Cal P w K mg base "_law_stands" 5 ["_law_land", "_law_heights"] (spV (RStands C))) :
    FnOk P w K mg base CX0 7 f fd ["_law_land", "_law_heights", "_law_done_here", "_law_place", "_law_by", "_law_told_here"] (spGoes C) := by
  refine F.ok sc_law_goes (fun vs H Q E h => ?_) (fun cdv A outer s H vs Q E hr h => ?_)
  · obtain ⟨_, _, _, _, _, _, _, _, _, _, _, _, _, rfl, _⟩ := h
    rfl
  · obtain ⟨p, dx, hp, lp, hl, d, th, begun, ls, ts, M, x, y, rfl, sm, dk, sub, lm, kp, thA, few1, few2, q⟩ := h
    have ln : (afterL begun ls).length = begun.length := afterL_len begun ls
    have few := sm.few
    have n1 := sm.n1
    have subA : ∀ b ∈ [hp, lp, hl, d], b ∈ M := fun b m => sub b (sub45 m)
    have tm : th ∈ M := sub th (by simp)
    obtain ⟨m1, m2, m3, m4, m5, m6⟩ := id sm.ne
    have two : ∀ b ∈ [hp, lp], b ∈ [hp, lp, hl, d] := fun b m => sub24 m
    have a3 : ∀ {G : Hp} {σ1 : L2.St}, σ1[0]? = some (some (.ref p)) → σ1[1]? = some (some (.ref hl)) → EvA (tCons (tVar 0) (tCons (tVar 1) tNil)) σ1 G [.ref p, .ref hl] := fun h0 h1 => ea_cons (ev_var h0) (ea_cons (ev_var h1) ea_nil)
    rcases dk with ⟨rfl, b0, rfl⟩ | ⟨nx, bad⟩ | ⟨a, rfl, alt, hy⟩
    · rcases List.eq_nil_or_concat ls with rfl | ⟨l0, ⟨pa, b⟩, els⟩
      · refine ⟨_, (pss_cons (ps_if (pt_cmpR op_notN (pv 3) pe_non (nomark _)) (pss_cons (ps_set (i := 6) sc_law_goes.nd rfl (Or.inl rfl) (pe_cal C__law_due_by hr (pa_cons (pv 1) (pa_cons (pv 3) (pa_cons (pv 4) pa_nil)))))
      (pss_cons (ps_if (pt_not (pt_val (pe_callB call_isi (by rfl) B.m_isinstance (by decide +kernel) (pa_cons (pv 6) (pa_cons (pe_bltn (v := .ty "str") (by rfl) B.m_str (by decide +kernel) rfl) pa_nil))))) (pss_cons (ps_expr (pe_bm PySem.F.plainAttrs_list PySem.F.slot_list_append PySem.F.type_list_append mt_append (pv 2) (pa_cons (pe_tup (pa_cons (pv 3) (pa_cons (pv 4) pa_nil))) pa_nil)))
      (pss_one (ps_augS (pv 1) (pv 3) get_listI (pv 4) ip_add set_list))) pss_nil)
      (pss_cons (ps_set (i := 7) sc_law_goes.nd rfl (Or.inl rfl) (pe_cal C__law_told hr (pa_cons (pv 0) (pa_cons (pv 3) (pa_cons (pv 4) pa_nil)))))
      (pss_one (ps_ret (pe_and (pe_cal C__law_alike hr (pa_cons (pv 7) (pa_cons (pv 6) pa_nil))) (pe_and (pe_cal C__law_kept hr (pa_cons (pv 5) (pa_cons (pv 7) pa_nil))) (pe_one (pe_cal C__law_stands hr (pa_cons (pv 0) (pa_cons (pv 1) pa_nil))))))))))) pss_nil)
      (pss_cons (ps_set (i := 6) sc_law_goes.nd rfl (Or.inl rfl) pe_str)
      (pss_cons (ps_if (pt_cmpR (op_neD hr.units) (pv 2) (pe_lst pa_nil) (nomark _)) (pss_cons (ps_asg (pe_bm0 PySem.F.plainAttrs_list PySem.F.slot_list_pop PySem.F.type_list_pop mt_pop (pv 2)) (pg_tup rfl (pgs_cons (pg_name (i := 3) sc_law_goes.nd rfl (Or.inl rfl)) (pgs_cons (pg_name (i := 4) sc_law_goes.nd rfl (Or.inl rfl)) pgs_nil))))
      (pss_cons (ps_set (i := 6) sc_law_goes.nd rfl (Or.inl rfl) (pe_cal C__law_due_by hr (pa_cons (pv 1) (pa_cons (pv 3) (pa_cons (pe_un un_neg (pv 4)) pa_nil)))))
      (pss_one (ps_augS (pv 1) (pv 3) get_listI (pv 4) ip_sub set_list)))) pss_nil)
      (pss_cons (ps_set (i := 7) sc_law_goes.nd rfl (Or.inl rfl) (pe_cal C__law_told hr (pa_cons (pv 0) (pa_cons pe_non (pa_cons pe_int pa_nil)))))
      (pss_one (ps_ret (pe_and (pe_cal C__law_alike hr (pa_cons (pv 7) (pa_cons (pv 6) pa_nil))) (pe_and (pe_cal C__law_kept hr (pa_cons (pv 5) (pa_cons (pv 7) pa_nil))) (pe_one (pe_cal C__law_stands hr (pa_cons (pv 0) (pa_cons (pv 1) pa_nil)))))))))))), ?_⟩
        try dsimp only [cxOf, Cx.nox, Cx.wish]
        rw [show L2.start ["_law_land", "_law_heights", "_law_done_here", "_law_place", "_law_by", "_law_told_here", "_law_due", "_law_found"] [.ref p, .ref hl, .ref d, .non, .int b0, .ref th] = [some (.ref p), some (.ref hl), some (.ref d), some (.non), some (.int b0), some (.ref th), none, none] from rfl]
        apply q_when (b := false)
        · exact et_is (by walk_at "et") (by rfl)
        · intro z
          cases z
        intro _ H1 e1
        refine q_asg (v := .str "nothing done") (by walk_at "ev") fun H2 e2 => ?_
        walk_at "st"
        have s2 := sm.ex (e1.trans e2)
        apply q_when (b := false)
        · exact et_is (et_test (ev_opL (xs := []) (by walk_at "ev") (by walk_at "eu") fun r G hr e => rv_neP (s2.pd.ex e) (PrL.empty hr))) (by simp)
        · intro z
          cases z
        intro _ H3 e3
        have e13 := (e1.trans e2).trans e3
        refine q_asgC (vs := [.ref p, .non, .int 0]) (by walk_at "ea") fun H4 e4 => ?_
        have s4 := sm.ex (e13.trans e4)
        refine ⟨p, dx, hp, lp, _, _, s4.x, s4.hh, s4.pl, m1, by omega, by simp, .inr (.inr (.inr (.inr ⟨_, rfl, rfl, fun H5 e5 => ?_⟩)))⟩
        walk_at "st"
        have e15 := (e13.trans e4).trans e5
        refine s_tailS (fun G => by walk_at "ea") (fun G => by walk_at "ea") (fun G => by walk_at "ea") (sm.ex e15) (lm.ex e15) (kp.ex e15) tm (by omega) fun H6 e6 => ?_
        have e16 := e15.trans e6
        exact q H6 [] ts (ex_off e16) (sm.ex e16) (by simp) (kp.ex e16) (by omega)
      · rw [List.concat_eq_append] at els
        subst els
        refine ⟨_, (pss_cons (ps_if (pt_cmpR op_notN (pv 3) pe_non (nomark _)) (pss_cons (ps_set (i := 6) sc_law_goes.nd rfl (Or.inl rfl) (pe_cal C__law_due_by hr (pa_cons (pv 1) (pa_cons (pv 3) (pa_cons (pv 4) pa_nil)))))
      (pss_cons (ps_if (pt_not (pt_val (pe_callB call_isi (by rfl) B.m_isinstance (by decide +kernel) (pa_cons (pv 6) (pa_cons (pe_bltn (v := .ty "str") (by rfl) B.m_str (by decide +kernel) rfl) pa_nil))))) (pss_cons (ps_expr (pe_bm PySem.F.plainAttrs_list PySem.F.slot_list_append PySem.F.type_list_append mt_append (pv 2) (pa_cons (pe_tup (pa_cons (pv 3) (pa_cons (pv 4) pa_nil))) pa_nil)))
      (pss_one (ps_augS (pv 1) (pv 3) get_listI (pv 4) ip_add set_list))) pss_nil)
      (pss_cons (ps_set (i := 7) sc_law_goes.nd rfl (Or.inl rfl) (pe_cal C__law_told hr (pa_cons (pv 0) (pa_cons (pv 3) (pa_cons (pv 4) pa_nil)))))
      (pss_one (ps_ret (pe_and (pe_cal C__law_alike hr (pa_cons (pv 7) (pa_cons (pv 6) pa_nil))) (pe_and (pe_cal C__law_kept hr (pa_cons (pv 5) (pa_cons (pv 7) pa_nil))) (pe_one (pe_cal C__law_stands hr (pa_cons (pv 0) (pa_cons (pv 1) pa_nil))))))))))) pss_nil)
      (pss_cons (ps_set (i := 6) sc_law_goes.nd rfl (Or.inl rfl) pe_str)
      (pss_cons (ps_if (pt_cmpR (op_neD hr.units) (pv 2) (pe_lst pa_nil) (nomark _)) (pss_cons (ps_asg (pe_bm0 PySem.F.plainAttrs_list PySem.F.slot_list_pop PySem.F.type_list_pop mt_pop (pv 2)) (pg_tup rfl (pgs_cons (pg_name (i := 3) sc_law_goes.nd rfl (Or.inl rfl)) (pgs_cons (pg_name (i := 4) sc_law_goes.nd rfl (Or.inl rfl)) pgs_nil))))
      (pss_cons (ps_set (i := 6) sc_law_goes.nd rfl (Or.inl rfl) (pe_cal C__law_due_by hr (pa_cons (pv 1) (pa_cons (pv 3) (pa_cons (pe_un un_neg (pv 4)) pa_nil)))))
      (pss_one (ps_augS (pv 1) (pv 3) get_listI (pv 4) ip_sub set_list)))) pss_nil)
      (pss_cons (ps_set (i := 7) sc_law_goes.nd rfl (Or.inl rfl) (pe_cal C__law_told hr (pa_cons (pv 0) (pa_cons pe_non (pa_cons pe_int pa_nil)))))
      (pss_one (ps_ret (pe_and (pe_cal C__law_alike hr (pa_cons (pv 7) (pa_cons (pv 6) pa_nil))) (pe_and (pe_cal C__law_kept hr (pa_cons (pv 5) (pa_cons (pv 7) pa_nil))) (pe_one (pe_cal C__law_stands hr (pa_cons (pv 0) (pa_cons (pv 1) pa_nil)))))))))))), ?_⟩
        try dsimp only [cxOf, Cx.nox, Cx.wish]
        rw [show L2.start ["_law_land", "_law_heights", "_law_done_here", "_law_place", "_law_by", "_law_told_here", "_law_due", "_law_found"] [.ref p, .ref hl, .ref d, .non, .int b0, .ref th] = [some (.ref p), some (.ref hl), some (.ref d), some (.non), some (.int b0), some (.ref th), none, none] from rfl]
        obtain ⟨a, rfl, alt⟩ := sm.ok.1 (pa, b) (List.mem_append.mpr (.inr (List.mem_singleton.mpr rfl)))
        have n0 : (afterL begun l0).length = begun.length := afterL_len begun l0
        have lt : a < (afterL begun (l0 ++ [((a : Int), b)])).length := by omega
        obtain ⟨bk, ib⟩ := sm.ok.back alt
        have few3 : l0.length + 1 ≤ 500 := by rwa [List.length_append] at few1
        apply q_when (b := false)
        · exact et_is (by walk_at "et") (by rfl)
        · intro z
          cases z
        intro _ H1 e1
        refine q_asg (v := .str "nothing done") (by walk_at "ev") fun H2 e2 => ?_
        walk_at "st"
        have s2 := sm.ex (e1.trans e2)
        apply Evl.q_when (b := true)
        · exact et_is (et_test (ev_opL (xs := []) (by walk_at "ev") (by walk_at "eu") fun r G hr e => rv_neP (s2.pd.ex e) (PrL.empty hr))) (by simp)
        · intro _ H3 e3
          have e13 := (e1.trans e2).trans e3
          have s3 := sm.ex e13
          refine q_popP (by walk_at "ev") s3.pd fun H4 xs e4 pd5 => ?_
          walk_at "st"
          have t5 := (s3.toLS.ex e4).setD pd5
          have E5 : Ex (offs H [hp, lp, hl, d]) (upd H4 d (.lst xs)) := offs_upd (ex_off (e13.trans e4)) (by simp)
          revert t5 E5
          generalize upd H4 d (.lst xs) = H5
          intro t5 E5
          refine q_asgC (vs := [.ref hl, .int (a : Int), .int (-b)]) (by walk_at "ea") fun H6 e6 => ?_
          have t6 := t5.ex e6
          refine ⟨hl, _, t6.hs, by omega, .inl ⟨a, -b, rfl, lt, ib, fun u x2 y2 H7 nu nx2 ny2 xy2 ux2 uy2 e7 hu px2 py2 => ?_⟩⟩
          walk_at "st"
          have t7 := t6.ex e7
          have nx2h : x2 ≠ hl := fun z => by rw [z, t6.hs] at nx2; cases nx2
          have ny2h : y2 ≠ hl := fun z => by rw [z, t6.hs] at ny2; cases ny2
          refine s_augL (p := hl) (k := a) (b := b) (a := cel (afterL begun (l0 ++ [((a : Int), b)])) (a : Int)) (by walk_at "ev") (by walk_at "ev") (by walk_at "ev") t7.hs (get_celV lt) fun H8 e8 => ?_
          have t8 := t7.ex e8
          have t9 := t8.setH (back_set (ns := afterL begun (l0 ++ [((a : Int), b)])) (a := a) (b := b))
          have E9 := offs_upd (a := hl) (o := .lst (((afterL begun (l0 ++ [((a : Int), b)])).map V.int).set a (.int (cel (afterL begun (l0 ++ [((a : Int), b)])) (a : Int) - b)))) (((E5.trans e6).trans e7).trans e8) (by simp)
          have px9 := (px2.ex e8).set (ys := ((afterL begun (l0 ++ [((a : Int), b)])).map V.int).set a (.int (cel (afterL begun (l0 ++ [((a : Int), b)])) (a : Int) - b))) nx2h t8.hs
          have py9 := (py2.ex e8).set (ys := ((afterL begun (l0 ++ [((a : Int), b)])).map V.int).set a (.int (cel (afterL begun (l0 ++ [((a : Int), b)])) (a : Int) - b))) ny2h t8.hs
          have hu9 := tup_set (ys := ((afterL begun (l0 ++ [((a : Int), b)])).map V.int).set a (.int (cel (afterL begun (l0 ++ [((a : Int), b)])) (a : Int) - b))) (e8 _ _ hu) t8.hs
          rw [bk] at t9 px9 py9
          revert t9 E9 px9 py9 hu9
          generalize upd H8 hl (.lst (((afterL begun (l0 ++ [((a : Int), b)])).map V.int).set a (.int (cel (afterL begun (l0 ++ [((a : Int), b)])) (a : Int) - b)))) = H9
          intro t9 E9 px9 py9 hu9
          dsimp only
          refine q_asgC (vs := [.ref p, .non, .int 0]) (by walk_at "ea") fun H10 e10 => ?_
          have t10 := t9.ex e10
          have E10 := E9.trans e10
          refine ⟨p, dx, hp, lp, _, _, t10.x, t10.hh, t10.pl, m1, by omega, by rw [List.length_append]; exact Nat.le_trans few3 (by decide), .inr (.inr (.inr (.inl ⟨l0, a, b, offs H10 [hp, lp], _, rfl, rfl, lt, offs_none (by simp), offs_none (by simp), offs_ex _ _, fun t x y H11 nt nx ny xy tx ty e11 hh11 pl11 ht px py => ?_⟩)))⟩
          walk_at "st"
          have t11 := t10.told e11 hh11 pl11
          have E11 := offs_trans E10 (fun b m => .inl (two b m)) e11
          have l2 : Lsts H10 [hp, lp] := .cons ⟨_, t10.hh⟩ (.cons t10.pl.lst (.nil _))
          have px2' := (offs_pr (px9.ex e10) (no2 nx2 t6.hh t6.pl) l2).ex e11
          have py2' := (offs_pr (py9.ex e10) (no2 ny2 t6.hh t6.pl) l2).ex e11
          have hu11 := e11 _ _ (offs_at (l2.no_tup (e10 _ _ hu9)) (e10 _ _ hu9))
          rw [bk] at px py t11
          refine s_tailT (fun G => by walk_at "ea") (fun G => by walk_at "ea") (fun G => by walk_at "ea") (t11.same n1 few sm.ok.init) lm kp E11 subA tm thA (offs_back E10 t10.lsts nx) (offs_back E10 t10.lsts ny) xy ht hu11 px py px2' py2' (lack_few (by omega)) (lack_few (by omega)) (by omega) fun H12 ts' E12 s12 kp12 len => ?_
          exact q H12 l0 ts' E12 s12 (by rw [List.length_append]; omega) kp12 (by omega)
        · intro z
          cases z
    · have bad' : ∀ {G}, Ex H G → BadPl G (afterL begun ls).length x := fun e => by rw [ln]; exact bad.ex e
      refine ⟨_, (pss_cons (ps_if (pt_cmpR op_notN (pv 3) pe_non (nomark _)) (pss_cons (ps_set (i := 6) sc_law_goes.nd rfl (Or.inl rfl) (pe_cal C__law_due_by hr (pa_cons (pv 1) (pa_cons (pv 3) (pa_cons (pv 4) pa_nil)))))
      (pss_cons (ps_if (pt_not (pt_val (pe_callB call_isi (by rfl) B.m_isinstance (by decide +kernel) (pa_cons (pv 6) (pa_cons (pe_bltn (v := .ty "str") (by rfl) B.m_str (by decide +kernel) rfl) pa_nil))))) (pss_cons (ps_expr (pe_bm PySem.F.plainAttrs_list PySem.F.slot_list_append PySem.F.type_list_append mt_append (pv 2) (pa_cons (pe_tup (pa_cons (pv 3) (pa_cons (pv 4) pa_nil))) pa_nil)))
      (pss_one (ps_augS (pv 1) (pv 3) get_listI (pv 4) ip_add set_list))) pss_nil)
      (pss_cons (ps_set (i := 7) sc_law_goes.nd rfl (Or.inl rfl) (pe_cal C__law_told hr (pa_cons (pv 0) (pa_cons (pv 3) (pa_cons (pv 4) pa_nil)))))
      (pss_one (ps_ret (pe_and (pe_cal C__law_alike hr (pa_cons (pv 7) (pa_cons (pv 6) pa_nil))) (pe_and (pe_cal C__law_kept hr (pa_cons (pv 5) (pa_cons (pv 7) pa_nil))) (pe_one (pe_cal C__law_stands hr (pa_cons (pv 0) (pa_cons (pv 1) pa_nil))))))))))) pss_nil)
      (pss_cons (ps_set (i := 6) sc_law_goes.nd rfl (Or.inl rfl) pe_str)
      (pss_cons (ps_if (pt_cmpR (op_neD hr.units) (pv 2) (pe_lst pa_nil) (nomark _)) (pss_cons (ps_asg (pe_bm0 PySem.F.plainAttrs_list PySem.F.slot_list_pop PySem.F.type_list_pop mt_pop (pv 2)) (pg_tup rfl (pgs_cons (pg_name (i := 3) sc_law_goes.nd rfl (Or.inl rfl)) (pgs_cons (pg_name (i := 4) sc_law_goes.nd rfl (Or.inl rfl)) pgs_nil))))
      (pss_cons (ps_set (i := 6) sc_law_goes.nd rfl (Or.inl rfl) (pe_cal C__law_due_by hr (pa_cons (pv 1) (pa_cons (pv 3) (pa_cons (pe_un un_neg (pv 4)) pa_nil)))))
      (pss_one (ps_augS (pv 1) (pv 3) get_listI (pv 4) ip_sub set_list)))) pss_nil)
      (pss_cons (ps_set (i := 7) sc_law_goes.nd rfl (Or.inl rfl) (pe_cal C__law_told hr (pa_cons (pv 0) (pa_cons pe_non (pa_cons pe_int pa_nil)))))
      (pss_one (ps_ret (pe_and (pe_cal C__law_alike hr (pa_cons (pv 7) (pa_cons (pv 6) pa_nil))) (pe_and (pe_cal C__law_kept hr (pa_cons (pv 5) (pa_cons (pv 7) pa_nil))) (pe_one (pe_cal C__law_stands hr (pa_cons (pv 0) (pa_cons (pv 1) pa_nil)))))))))))), ?_⟩
      try dsimp only [cxOf, Cx.nox, Cx.wish]
      rw [show L2.start ["_law_land", "_law_heights", "_law_done_here", "_law_place", "_law_by", "_law_told_here", "_law_due", "_law_found"] [.ref p, .ref hl, .ref d, x, y, .ref th] = [some (.ref p), some (.ref hl), some (.ref d), some (x), some (y), some (.ref th), none, none] from rfl]
      apply q_when (b := true)
      · exact et_is (et_test (ev_op (by walk_at "ev") (by walk_at "ev") rv_notN)) (by rw [decide_eq_false nx]; rfl)
      · intro _ H1 e1
        refine q_asgC (vs := [.ref hl, x, y]) (by walk_at "ea") fun H2 e2 => ?_
        have s2 := sm.ex (e1.trans e2)
        refine ⟨hl, _, s2.hs, by omega, .inr (.inl ⟨x, y, rfl, bad' (e1.trans e2), fun H3 e3 => ?_⟩)⟩
        walk_at "st"
        apply Evl.q_when (b := false)
        · exact et_is (et_not (et_B (ev_cb (by walk_at "ea") (rc_isi_str kb_str_str2)))) rfl
        · intro z
          cases z
        intro _ H4 e4
        have e14 := ((e1.trans e2).trans e3).trans e4
        refine q_asgC (vs := [.ref p, x, y]) (by walk_at "ea") fun H5 e5 => ?_
        have e15 := e14.trans e5
        have s5 := sm.ex e15
        refine ⟨p, dx, hp, lp, _, _, s5.x, s5.hh, s5.pl, m1, by omega, by omega, .inr (.inl ⟨x, y, rfl, bad' e15, nx, fun H6 e6 => ?_⟩)⟩
        walk_at "st"
        have e16 := e15.trans e6
        refine s_tailS (fun G => by walk_at "ea") (fun G => by walk_at "ea") (fun G => by walk_at "ea") (sm.ex e16) (lm.ex e16) (kp.ex e16) tm (by omega) fun H7 e7 => ?_
        have e17 := e16.trans e7
        exact q H7 ls ts (ex_off e17) (sm.ex e17) (by omega) (kp.ex e17) (by omega)
      · intro z
        cases z
    by_cases ok : ∃ b : Int, y = .int b ∧ inB (cel (afterL begun ls) (a : Int) + b) = true
    · obtain ⟨b, rfl, ib⟩ := ok
      refine ⟨_, (pss_cons (ps_if (pt_cmpR op_notN (pv 3) pe_non (nomark _)) (pss_cons (ps_set (i := 6) sc_law_goes.nd rfl (Or.inl rfl) (pe_cal C__law_due_by hr (pa_cons (pv 1) (pa_cons (pv 3) (pa_cons (pv 4) pa_nil)))))
      (pss_cons (ps_if (pt_not (pt_val (pe_callB call_isi (by rfl) B.m_isinstance (by decide +kernel) (pa_cons (pv 6) (pa_cons (pe_bltn (v := .ty "str") (by rfl) B.m_str (by decide +kernel) rfl) pa_nil))))) (pss_cons (ps_expr (pe_bm PySem.F.plainAttrs_list PySem.F.slot_list_append PySem.F.type_list_append mt_append (pv 2) (pa_cons (pe_tup (pa_cons (pv 3) (pa_cons (pv 4) pa_nil))) pa_nil)))
      (pss_one (ps_augS (pv 1) (pv 3) get_listI (pv 4) ip_add set_list))) pss_nil)
      (pss_cons (ps_set (i := 7) sc_law_goes.nd rfl (Or.inl rfl) (pe_cal C__law_told hr (pa_cons (pv 0) (pa_cons (pv 3) (pa_cons (pv 4) pa_nil)))))
      (pss_one (ps_ret (pe_and (pe_cal C__law_alike hr (pa_cons (pv 7) (pa_cons (pv 6) pa_nil))) (pe_and (pe_cal C__law_kept hr (pa_cons (pv 5) (pa_cons (pv 7) pa_nil))) (pe_one (pe_cal C__law_stands hr (pa_cons (pv 0) (pa_cons (pv 1) pa_nil))))))))))) pss_nil)
      (pss_cons (ps_set (i := 6) sc_law_goes.nd rfl (Or.inl rfl) pe_str)
      (pss_cons (ps_if (pt_cmpR (op_neD hr.units) (pv 2) (pe_lst pa_nil) (nomark _)) (pss_cons (ps_asg (pe_bm0 PySem.F.plainAttrs_list PySem.F.slot_list_pop PySem.F.type_list_pop mt_pop (pv 2)) (pg_tup rfl (pgs_cons (pg_name (i := 3) sc_law_goes.nd rfl (Or.inl rfl)) (pgs_cons (pg_name (i := 4) sc_law_goes.nd rfl (Or.inl rfl)) pgs_nil))))
      (pss_cons (ps_set (i := 6) sc_law_goes.nd rfl (Or.inl rfl) (pe_cal C__law_due_by hr (pa_cons (pv 1) (pa_cons (pv 3) (pa_cons (pe_un un_neg (pv 4)) pa_nil)))))
      (pss_one (ps_augS (pv 1) (pv 3) get_listI (pv 4) ip_sub set_list)))) pss_nil)
      (pss_cons (ps_set (i := 7) sc_law_goes.nd rfl (Or.inl rfl) (pe_cal C__law_told hr (pa_cons (pv 0) (pa_cons pe_non (pa_cons pe_int pa_nil)))))
      (pss_one (ps_ret (pe_and (pe_cal C__law_alike hr (pa_cons (pv 7) (pa_cons (pv 6) pa_nil))) (pe_and (pe_cal C__law_kept hr (pa_cons (pv 5) (pa_cons (pv 7) pa_nil))) (pe_one (pe_cal C__law_stands hr (pa_cons (pv 0) (pa_cons (pv 1) pa_nil)))))))))))), ?_⟩
      try dsimp only [cxOf, Cx.nox, Cx.wish]
      rw [show L2.start ["_law_land", "_law_heights", "_law_done_here", "_law_place", "_law_by", "_law_told_here", "_law_due", "_law_found"] [.ref p, .ref hl, .ref d, .int (a : Int), .int b, .ref th] = [some (.ref p), some (.ref hl), some (.ref d), some (.int (a : Int)), some (.int b), some (.ref th), none, none] from rfl]
      have lt : a < (afterL begun ls).length := by omega
      have snoc := afterL_snoc begun ls a b
      apply q_when (b := true)
      · exact et_is (et_test (ev_op (by walk_at "ev") (by walk_at "ev") rv_notN)) (by simp)
      · intro _ H1 e1
        refine q_asgC (vs := [.ref hl, .int (a : Int), .int b]) (by walk_at "ea") fun H2 e2 => ?_
        have s2 := sm.ex (e1.trans e2)
        refine ⟨hl, _, s2.hs, by omega, .inl ⟨a, b, rfl, lt, ib, fun u x2 y2 H3 nu nx2 ny2 xy2 ux2 uy2 e3 hu px2 py2 => ?_⟩⟩
        walk_at "st"
        apply Evl.q_when (b := true)
        · exact et_is (et_not (et_B (ev_cb (by walk_at "ea") (rc_isi_tup hu kb_tuple_str)))) rfl
        · intro _ H4 e4
          have e14 := ((e1.trans e2).trans e3).trans e4
          have s4 := sm.ex e14
          obtain ⟨ds, hd4, td4⟩ := id s4.pd
          have nx2d : x2 ∉ [hp, lp, hl, d] := s2.lsts.no_new nx2
          have ny2d : y2 ∉ [hp, lp, hl, d] := s2.lsts.no_new ny2
          refine q_appU (ys := [.int (a : Int), .int b]) hd4 (by walk_at "ev") (by walk_at "eu") (by rw [List.length_map, td4.1]; omega) fun v H5 nv e5 hv => ?_
          have t5 := s4.toLS.ex e5
          have pd6 : PrL (upd H5 d (.lst (ds.map V.ref ++ [.ref v]))) d (ls ++ [((a : Int), b)]) := ⟨ds ++ [v], by rw [upd_same, List.map_append]; rfl, ((td4.ex e5).snoc (p := v) (q := ((a : Int), b)) hv).upd (e5 _ _ hd4)⟩
          have t6 := t5.setD pd6
          have E6 : Ex (offs H [hp, lp, hl, d]) (upd H5 d (.lst (ds.map V.ref ++ [.ref v]))) := offs_upd (ex_off (e14.trans e5)) (by simp)
          have px6 := ((px2.ex e4).ex e5).set (ys := ds.map V.ref ++ [.ref v]) (fun z => nx2d (by rw [z]; simp)) (e5 _ _ hd4)
          have py6 := ((py2.ex e4).ex e5).set (ys := ds.map V.ref ++ [.ref v]) (fun z => ny2d (by rw [z]; simp)) (e5 _ _ hd4)
          have hu6 := tup_set (ys := ds.map V.ref ++ [.ref v]) (e5 _ _ (e4 _ _ hu)) (e5 _ _ hd4)
          revert t6 E6 px6 py6 hu6
          generalize upd H5 d (.lst (ds.map V.ref ++ [.ref v])) = H6
          intro t6 E6 px6 py6 hu6
          refine s_augL (p := hl) (k := a) (b := b) (a := cel (afterL begun ls) (a : Int)) (by walk_at "ev") (by walk_at "ev") (by walk_at "ev") t6.hs (get_celV lt) fun H8 e8 => ?_
          have t8 := t6.ex e8
          have t9 := t8.setH (lift_set (ns := afterL begun ls) (a := a) (b := b))
          have E9 := offs_upd (a := hl) (o := .lst (((afterL begun ls).map V.int).set a (.int (cel (afterL begun ls) (a : Int) + b)))) (E6.trans e8) (by simp)
          have px9 := (px6.ex e8).set (ys := ((afterL begun ls).map V.int).set a (.int (cel (afterL begun ls) (a : Int) + b))) (fun z => nx2d (by rw [z]; simp)) t8.hs
          have py9 := (py6.ex e8).set (ys := ((afterL begun ls).map V.int).set a (.int (cel (afterL begun ls) (a : Int) + b))) (fun z => ny2d (by rw [z]; simp)) t8.hs
          have hu9 := tup_set (ys := ((afterL begun ls).map V.int).set a (.int (cel (afterL begun ls) (a : Int) + b))) (e8 _ _ hu6) t8.hs
          revert t9 E9 px9 py9 hu9
          generalize upd H8 hl (.lst (((afterL begun ls).map V.int).set a (.int (cel (afterL begun ls) (a : Int) + b)))) = H9
          intro t9 E9 px9 py9 hu9
          dsimp only
          refine q_asgC (vs := [.ref p, .int (a : Int), .int b]) (by walk_at "ea") fun H10 e10 => ?_
          have t10 := t9.ex e10
          have E10 := E9.trans e10
          refine ⟨p, dx, hp, lp, _, _, t10.x, t10.hh, t10.pl, m1, by omega, by omega, .inl ⟨a, b, offs H10 [hp, lp], rfl, lt, ib, offs_none (by simp), offs_none (by simp), offs_ex _ _, fun t x y H11 nt nx ny xy tx ty e11 hh11 pl11 ht px py => ?_⟩⟩
          walk_at "st"
          have t11 := t10.told e11 hh11 pl11
          have E11 := offs_trans E10 (fun b m => .inl (two b m)) e11
          have l2 : Lsts H10 [hp, lp] := .cons ⟨_, t10.hh⟩ (.cons t10.pl.lst (.nil _))
          have px2' := (offs_pr (px9.ex e10) (fun m => nx2d (two _ m)) l2).ex e11
          have py2' := (offs_pr (py9.ex e10) (fun m => ny2d (two _ m)) l2).ex e11
          have hu11 := e11 _ _ (offs_at (l2.no_tup (e10 _ _ hu9)) (e10 _ _ hu9))
          rw [← snoc] at t11
          have ll := liftL_len (afterL begun ls) a b
          refine s_tailT (fun G => by walk_at "ea") (fun G => by walk_at "ea") (fun G => by walk_at "ea") (t11.same n1 few (sm.ok.snoc (by omega) ib)) lm kp E11 subA tm thA (offs_back E10 t10.lsts nx) (offs_back E10 t10.lsts ny) xy ht hu11 px py px2' py2' (lack_few (by omega)) (lack_few (by omega)) (by omega) fun H12 ts' E12 s12 kp12 len => ?_
          exact q H12 _ ts' E12 s12 (by rw [List.length_append]; exact Nat.le_refl _) kp12 (by omega)
        · intro z
          cases z
      · intro z
        cases z
    · have bad : ∀ {G}, Ex H G → NoInt G y ∨ ∃ b : Int, y = .int b ∧ inB (cel (afterL begun ls) (a : Int) + b) = false := fun e => by
        rcases hy with ⟨b, rfl⟩ | n
        · refine .inr ⟨b, rfl, ?_⟩
          cases z : inB (cel (afterL begun ls) (a : Int) + b) with
          | false => rfl
          | true => exact absurd ⟨b, rfl, z⟩ ok
        · exact .inl (n.ex e)
      refine ⟨_, (pss_cons (ps_if (pt_cmpR op_notN (pv 3) pe_non (nomark _)) (pss_cons (ps_set (i := 6) sc_law_goes.nd rfl (Or.inl rfl) (pe_cal C__law_due_by hr (pa_cons (pv 1) (pa_cons (pv 3) (pa_cons (pv 4) pa_nil)))))
      (pss_cons (ps_if (pt_not (pt_val (pe_callB call_isi (by rfl) B.m_isinstance (by decide +kernel) (pa_cons (pv 6) (pa_cons (pe_bltn (v := .ty "str") (by rfl) B.m_str (by decide +kernel) rfl) pa_nil))))) (pss_cons (ps_expr (pe_bm PySem.F.plainAttrs_list PySem.F.slot_list_append PySem.F.type_list_append mt_append (pv 2) (pa_cons (pe_tup (pa_cons (pv 3) (pa_cons (pv 4) pa_nil))) pa_nil)))
      (pss_one (ps_augS (pv 1) (pv 3) get_listI (pv 4) ip_add set_list))) pss_nil)
      (pss_cons (ps_set (i := 7) sc_law_goes.nd rfl (Or.inl rfl) (pe_cal C__law_told hr (pa_cons (pv 0) (pa_cons (pv 3) (pa_cons (pv 4) pa_nil)))))
      (pss_one (ps_ret (pe_and (pe_cal C__law_alike hr (pa_cons (pv 7) (pa_cons (pv 6) pa_nil))) (pe_and (pe_cal C__law_kept hr (pa_cons (pv 5) (pa_cons (pv 7) pa_nil))) (pe_one (pe_cal C__law_stands hr (pa_cons (pv 0) (pa_cons (pv 1) pa_nil))))))))))) pss_nil)
      (pss_cons (ps_set (i := 6) sc_law_goes.nd rfl (Or.inl rfl) pe_str)
      (pss_cons (ps_if (pt_cmpR (op_neD hr.units) (pv 2) (pe_lst pa_nil) (nomark _)) (pss_cons (ps_asg (pe_bm0 PySem.F.plainAttrs_list PySem.F.slot_list_pop PySem.F.type_list_pop mt_pop (pv 2)) (pg_tup rfl (pgs_cons (pg_name (i := 3) sc_law_goes.nd rfl (Or.inl rfl)) (pgs_cons (pg_name (i := 4) sc_law_goes.nd rfl (Or.inl rfl)) pgs_nil))))
      (pss_cons (ps_set (i := 6) sc_law_goes.nd rfl (Or.inl rfl) (pe_cal C__law_due_by hr (pa_cons (pv 1) (pa_cons (pv 3) (pa_cons (pe_un un_neg (pv 4)) pa_nil)))))
      (pss_one (ps_augS (pv 1) (pv 3) get_listI (pv 4) ip_sub set_list)))) pss_nil)
      (pss_cons (ps_set (i := 7) sc_law_goes.nd rfl (Or.inl rfl) (pe_cal C__law_told hr (pa_cons (pv 0) (pa_cons pe_non (pa_cons pe_int pa_nil)))))
      (pss_one (ps_ret (pe_and (pe_cal C__law_alike hr (pa_cons (pv 7) (pa_cons (pv 6) pa_nil))) (pe_and (pe_cal C__law_kept hr (pa_cons (pv 5) (pa_cons (pv 7) pa_nil))) (pe_one (pe_cal C__law_stands hr (pa_cons (pv 0) (pa_cons (pv 1) pa_nil)))))))))))), ?_⟩
      try dsimp only [cxOf, Cx.nox, Cx.wish]
      rw [show L2.start ["_law_land", "_law_heights", "_law_done_here", "_law_place", "_law_by", "_law_told_here", "_law_due", "_law_found"] [.ref p, .ref hl, .ref d, .int (a : Int), y, .ref th] = [some (.ref p), some (.ref hl), some (.ref d), some (.int (a : Int)), some (y), some (.ref th), none, none] from rfl]
      apply q_when (b := true)
      · exact et_is (et_test (ev_op (by walk_at "ev") (by walk_at "ev") rv_notN)) (by simp)
      · intro _ H1 e1
        refine q_asgC (vs := [.ref hl, .int (a : Int), y]) (by walk_at "ea") fun H2 e2 => ?_
        have s2 := sm.ex (e1.trans e2)
        refine ⟨hl, _, s2.hs, by omega, .inr (.inr ⟨a, y, rfl, by omega, bad (e1.trans e2), fun H3 e3 => ?_⟩)⟩
        walk_at "st"
        apply Evl.q_when (b := false)
        · exact et_is (et_not (et_B (ev_cb (by walk_at "ea") (rc_isi_str kb_str_str2)))) rfl
        · intro z
          cases z
        intro _ H4 e4
        have e14 := ((e1.trans e2).trans e3).trans e4
        refine q_asgC (vs := [.ref p, .int (a : Int), y]) (by walk_at "ea") fun H5 e5 => ?_
        have e15 := e14.trans e5
        have s5 := sm.ex e15
        refine ⟨p, dx, hp, lp, _, _, s5.x, s5.hh, s5.pl, m1, by omega, by omega, .inr (.inr (.inl ⟨a, y, rfl, by omega, bad e15, fun H6 e6 => ?_⟩))⟩
        walk_at "st"
        have e16 := e15.trans e6
        refine s_tailS (fun G => by walk_at "ea") (fun G => by walk_at "ea") (fun G => by walk_at "ea") (sm.ex e16) (lm.ex e16) (kp.ex e16) tm (by omega) fun H7 e7 => ?_
        have e17 := e16.trans e7
        exact q H7 ls ts (ex_off e17) (sm.ex e17) (by omega) (kp.ex e17) (by omega)
      · intro z
        cases z
abbrev s_law_done : Stmt := topS 38
theorem sc_law_done : FnScope ["_law_land", "_law_heights", "_law_done_here", "_law_place", "_law_by", "_law_told_here", "_law_ahead", "_law_held"] ["_law_land", "_law_heights", "_law_done_here", "_law_place", "_law_by", "_law_told_here"] (defScope s_law_done) := ⟨rfl, rfl, rfl, by decide +kernel, rfl, by decide +kernel, by decide +kernel⟩

theorem ok_done {f C : Addr} {fd : FuncData} (F : Fun K "_law_done" "_law_done" s_law_done f fd) (B : Blt mg) (C_told : CalM P w K mg base CX0 C "told" 1 ["self"] (spL (RTold C))) (C_seen : CalM P w K mg base CX0 C "seen" 4 ["self"] (spP (RSeen C)))
    (C__law_goes : Cal P w K mg base "_law_goes" 7 ["_law_land", "_law_heights", "_law_done_here", "_law_place", "_law_by", "_law_told_here"] (spGoes C)) :
    FnOk P w K mg base CX0 8 f fd ["_law_land", "_law_heights", "_law_done_here", "_law_place", "_law_by", "_law_told_here"] (spGoes C) := by
  refine F.ok sc_law_done (fun vs H Q E h => ?_) (fun cdv A outer s H vs Q E hr h => ?_)
  · obtain ⟨_, _, _, _, _, _, _, _, _, _, _, _, _, rfl, _⟩ := h
    rfl
  · obtain ⟨p, dx, hp, lp, hl, d, th, begun, ls, ts, M, x, y, rfl, sm, dk, sub, lm, kp, thA, few1, few2, q⟩ := h
    have ln : (afterL begun ls).length = begun.length := afterL_len begun ls
    have few := sm.few
    refine ⟨_, (pss_cons (ps_set (i := 6) sc_law_done.nd rfl (Or.inl rfl) (pe_lst (pa_cons (pe_methC0 (pv 0) C_told hr) (pa_cons (pe_methC0 (pv 0) C_seen hr) pa_nil))))
      (pss_cons (ps_set (i := 7) sc_law_done.nd rfl (Or.inl rfl) (pe_lst (pa_cons (pe_callTy call_list_of (by rfl) B.m_list (by decide +kernel) (pa_cons (pe_ix ix_list (pv 6) pe_int (fun _ _ => rfl)) pa_nil)) (pa_cons (pe_callTy call_list_of (by rfl) B.m_list (by decide +kernel) (pa_cons (pe_ix ix_list (pv 6) pe_int (fun _ _ => rfl)) pa_nil)) pa_nil))))
      (pss_cons (ps_if (pt_not (pt_val (pe_cal C__law_goes hr (pa_cons (pv 0) (pa_cons (pv 1) (pa_cons (pv 2) (pa_cons (pv 3) (pa_cons (pv 4) (pa_cons (pv 5) pa_nil))))))))) (pss_one (ps_ret pe_bl)) pss_nil)
      (pss_one (ps_ret (pe_cmpR (op_eqD hr.units) (pv 6) (pv 7) (nomark _))))))), ?_⟩
    try dsimp only [cxOf, Cx.nox, Cx.wish]
    rw [show L2.start ["_law_land", "_law_heights", "_law_done_here", "_law_place", "_law_by", "_law_told_here", "_law_ahead", "_law_held"] [.ref p, .ref hl, .ref d, x, y, .ref th] = [some (.ref p), some (.ref hl), some (.ref d), some (x), some (y), some (.ref th), none, none] from rfl]
    have nmt : (fldsL hp lp).lookup ("told" : Str) = none := fldsL_no _ _ (by decide +kernel) (by decide +kernel)
    have nms : (fldsL hp lp).lookup ("seen" : Str) = none := fldsL_no _ _ (by decide +kernel) (by decide +kernel)
    refine q_lstLP (el_told (by walk_at "ev") sm.x sm.hh nmt) (fun G e => ep_seen (by walk_at "ev") (e _ _ sm.x) (e _ _ sm.hh) (by omega) nms) fun r a b H1 nr na nb e1 hr1 ha1 pb1 => ?_
    walk_at "st"
    obtain ⟨bs, hb1, tb1⟩ := id pb1
    refine q_lstLL (el_cb (ea_cons (ev_op (by walk_at "ev") (by walk_at "ev") (rv_ixL (sq_of hr1) rfl)) ea_nil) (rcl_list (sq_of ha1))) (el_cb (ea_cons (ev_op (by walk_at "ev") (by walk_at "ev") (rv_ixL (sq_of hr1) rfl)) ea_nil) (rcl_list (sq_of hb1))) fun r2 a2 b2 H2 nr2 na2 nb2 e2 hr2 ha2 hb2 => ?_
    walk_at "st"
    have e12 := e1.trans e2
    have lm1 := lm.ex e1
    have lm2 := lm.ex e12
    have nrM := lm.no_new nr
    have naM := lm.no_new na
    have nbM := lm.no_new nb
    have nr2M := lm1.no_new nr2
    have na2M := lm1.no_new na2
    have nb2M := lm1.no_new nb2
    refine q_ifNot (vs := [.ref p, .ref hl, .ref d, x, y, .ref th]) (by walk_at "ea") fun H3 e3 => ?_
    have e13 := e12.trans e3
    refine ⟨p, dx, hp, lp, hl, d, th, begun, ls, ts, M, x, y, rfl, sm.ex e13, dk.ex e13, sub, lm.ex e13, kp.ex e13, thA, few1, few2, fun H4 ls' ts' E4 s4 len kp4 len2 => not_go ?_⟩
    have l5 : Lsts H3 [hp, lp, hl, d, th] := fun m hm => (lm.ex e13) m (sub m hm)
    have stay : ∀ {z : Addr} {o : HO}, z ∉ M → H2 z = some o → H4 z = some o := fun n h => E4 _ _ (offs_at (fun m => n (sub _ m)) (e3 _ _ h))
    have stayP : ∀ {z : Addr} {ps : List (Int × Int)}, z ∉ M → PrL H2 z ps → PrL H4 z ps := fun n h => (offs_pr (h.ex e3) (fun m => n (sub _ m)) l5).ex E4
    refine s_ret (v := .bl true) (ev_op (by walk_at "ev") (by walk_at "ev") (rv_eqN (stay nrM (e2 _ _ hr1)) (stay nr2M hr2) (stay naM (e2 _ _ ha1)) (stay na2M ha2) (stayP nbM (pb1.ex e2)) (stayP nb2M ⟨bs, hb2, tb1.ex e2⟩))) fun H5 e5 => ?_
    exact q H5 ls' ts' ((offs_trans (M := [hp, lp, hl, d, th]) (ex_off e13) (fun b m => .inl m) E4).trans e5) (s4.ex e5) len (kp4.ex e5) len2
def spLaw (K : PySem.W.Frag) : Sp := fun vs H Q _ => ∃ (a : Addr) (ns : List Int), vs = [.ref a] ∧ SqL K H a (ns.map V.int) ∧ ns.length ≤ 63 ∧ ∀ H', Q (.bl true) H'
abbrev slaw : Stmt := topS 40
theorem sclaw : FnScope ["_law_script", "_law_size", "_law_deeds", "_law_tilt", "_law_begun", "_law_handed", "_law_land", "_law_other", "_law_heights", "_law_second", "_law_done_here", "_law_told_here", "_law_cell", "_law_place", "_law_due", "_law_found", "_law_by", "_law_k"] ["_law_script"] (defScope slaw) := ⟨rfl, rfl, rfl, by decide +kernel, rfl, by decide +kernel, by decide +kernel⟩

theorem ok_law {f C N : Addr} {fd : FuncData} (F : Fun K "law" "law" slaw f fd) (B : Blt mg) (C__law_cell_at : Cal P w K mg base "_law_cell_at" 1 ["_law_script", "_law_k"] (spV (RCel K))) (C_Land : CalN P w K mg base (L2.CX P w) "Land" C 3 ["self", "heights"] (spInit C N))
    (C__law_lifted : Cal P w K mg base "_law_lifted" 6 ["_law_land", "_law_heights", "_law_done_here"] (spLifted C)) (C__law_due_by : Cal P w K mg base "_law_due_by" 2 ["_law_heights", "_law_place", "_law_by"] spDue) (C__law_told : Cal P w K mg base "_law_told" 6 ["_law_land", "_law_place", "_law_by"] (spTold C))
    (C__law_alike : Cal P w K mg base "_law_alike" 1 ["_law_found", "_law_due"] spAlike) (C__law_kept : Cal P w K mg base "_law_kept" 1 ["_law_told_here", "_law_found"] (spKept K)) (C__law_stands : Cal P w K mg base "_law_stands" 5 ["_law_land", "_law_heights"] (spV (RStands C)))
    (C__law_deed_by : Cal P w K mg base "_law_deed_by" 1 ["_law_cell", "_law_heights"] spDeed) (C__law_done : Cal P w K mg base "_law_done" 8 ["_law_land", "_law_heights", "_law_done_here", "_law_place", "_law_by", "_law_told_here"] (spGoes C))
    (C__law_all_back : Cal P w K mg base "_law_all_back" 7 ["_law_land", "_law_heights", "_law_done_here"] (spAllBack2 C)) : FnOk P w K mg base CX0 9 f fd ["_law_script"] (spLaw K) := by
  refine F.ok sclaw (fun vs H Q E h => ?_) (fun cdv A outer s H vs Q E hr h => ?_)
  · obtain ⟨_, _, rfl, _⟩ := h
    rfl
  · obtain ⟨l, ns, rfl, hs, hlen, q⟩ := h
    refine ⟨_, (pss_cons (ps_set (i := 1) sclaw.nd rfl (Or.inl rfl) (pe_op op_add pe_int (pe_op op_mod (pe_cal C__law_cell_at hr (pa_cons (pv 0) (pa_cons pe_int pa_nil))) pe_int)))
      (pss_cons (ps_set (i := 2) sclaw.nd rfl (Or.inl rfl) (pe_slice sl_list (pv 0) (po_some pe_int) (po_some pe_int)))
      (Evl.pss_cut (ps_if (pt_cmpR op_eq (pe_op op_mod (pe_op op_fdiv (pe_cal C__law_cell_at hr (pa_cons (pv 0) (pa_cons pe_int pa_nil))) pe_int) pe_int) pe_int (nomark _)) (pss_cons (ps_set (i := 1) sclaw.nd rfl (Or.inl rfl) (pe_op op_add (pv 1) pe_int))
      (pss_one (ps_set (i := 2) sclaw.nd rfl (Or.inl rfl) (pe_slice sl_list (pv 0) (po_some pe_int) (po_some pe_int))))) pss_nil)
      (Evl.pss_cut (ps_if (pt_cmpR op_eq (pe_op op_mod (pe_op op_fdiv (pe_cal C__law_cell_at hr (pa_cons (pv 0) (pa_cons pe_int pa_nil))) pe_int) pe_int) pe_int (nomark _)) (pss_cons (ps_set (i := 1) sclaw.nd rfl (Or.inl rfl) (pe_op op_add (pv 1) pe_int))
      (pss_one (ps_set (i := 2) sclaw.nd rfl (Or.inl rfl) (pe_slice sl_list (pv 0) (po_some pe_int) (po_some pe_int))))) pss_nil)
      (pss_cons (ps_set (i := 3) sclaw.nd rfl (Or.inr rfl) (pe_op op_sub (pe_op op_mod (pe_cal C__law_cell_at hr (pa_cons (pv 0) (pa_cons pe_int pa_nil))) pe_int) pe_int))
      (pss_cons (ps_setLc (i := 4) (own := [("_law_k", 17)]) (g := gName 17) (tt := tYes) rfl sclaw.nd rfl rfl (sw_true rfl rfl rfl (by decide +kernel)) (pi_range1 (by rfl) B.m_range (pa_cons (pv 1) pa_nil)) (blkOk_by (N := ["_law_script", "_law_size", "_law_deeds", "_law_tilt", "_law_begun", "_law_handed", "_law_land", "_law_other", "_law_heights", "_law_second", "_law_done_here", "_law_told_here", "_law_cell", "_law_place", "_law_due", "_law_found", "_law_by", "_law_k"]) (sc := defScope slaw) (by decide +kernel)) (fun _ _ _ _ _ => (pg_name (i := 17) sclaw.nd rfl (Or.inl rfl))) (fun _ _ _ _ _ => pts_nil) (fun _ _ _ _ _ => (pe_op op_add (pe_op op_mod (pe_op op_fdiv (pe_cal C__law_cell_at hr (pa_cons (pv 0) (pa_cons pe_int pa_nil))) (pe_op op_add (pe_op op_mod (pv 17) pe_int) pe_int)) pe_int) (pe_op op_mul (pv 17) (pv 3)))))
      (Evl.pss_cut (ps_if (PW.pt (pw_and (pt_cmpR op_eq (pe_op op_mod (pe_cal C__law_cell_at hr (pa_cons (pv 0) (pa_cons pe_int pa_nil))) pe_int) pe_int (nomark _)) (pw_and1 (pt_cmpR op_lt (pv 1) pe_int (nomark _))))) (pss_one (ps_setLc (i := 4) (own := [("_law_k", 17)]) (g := gName 17) (tt := tYes) rfl sclaw.nd rfl rfl (sw_true rfl rfl rfl (by decide +kernel)) (pi_range1 (by rfl) B.m_range (pa_cons (pv 1) pa_nil)) (blkOk_by (N := ["_law_script", "_law_size", "_law_deeds", "_law_tilt", "_law_begun", "_law_handed", "_law_land", "_law_other", "_law_heights", "_law_second", "_law_done_here", "_law_told_here", "_law_cell", "_law_place", "_law_due", "_law_found", "_law_by", "_law_k"]) (sc := defScope slaw) (by decide +kernel)) (fun _ _ _ _ _ => (pg_name (i := 17) sclaw.nd rfl (Or.inl rfl))) (fun _ _ _ _ _ => pts_nil) (fun _ _ _ _ _ => (pe_op op_add (pe_op op_mul (pv 17) (pv 17)) (pe_op op_mul (pv 17) (pv 3)))))) pss_nil)
      (pss_cons (ps_set (i := 5) sclaw.nd rfl (Or.inl rfl) (pe_callTy call_list_of (by rfl) B.m_list (by decide +kernel) (pa_cons (pv 4) pa_nil)))
      (pss_cons (ps_set (i := 6) sclaw.nd rfl (Or.inl rfl) (pe_newL C_Land hr (pa_cons (pv 5) pa_nil)))
      (pss_cons (ps_set (i := 7) sclaw.nd rfl (Or.inl rfl) (pe_newL C_Land hr (pa_cons (pv 5) pa_nil)))
      (pss_cons (ps_set (i := 8) sclaw.nd rfl (Or.inl rfl) (pe_callTy call_list_of (by rfl) B.m_list (by decide +kernel) (pa_cons (pv 4) pa_nil)))
      (pss_cons (ps_set (i := 9) sclaw.nd rfl (Or.inl rfl) (pe_callTy call_list_of (by rfl) B.m_list (by decide +kernel) (pa_cons (pv 4) pa_nil)))
      (pss_cons (ps_set (i := 10) sclaw.nd rfl (Or.inl rfl) (pe_lst pa_nil))
      (pss_cons (ps_set (i := 11) sclaw.nd rfl (Or.inl rfl) (pe_lst pa_nil))
      (Evl.pss_cut (ps_if (PW.pt (pw_and (pt_cmpR op_eq (pe_op op_mod (pe_op op_fdiv (pe_cal C__law_cell_at hr (pa_cons (pv 0) (pa_cons pe_int pa_nil))) pe_int) pe_int) pe_int (nomark _)) (pw_and1 (pt_cmpR op_lt (pv 1) pe_int (nomark _))))) (pss_one (ps_expr (pe_cal C__law_lifted hr (pa_cons (pv 6) (pa_cons (pv 8) (pa_cons (pv 10) pa_nil)))))) pss_nil)
      (pss_cons (ps_for PassesOwn.never rfl (pi_list (pv 2)) (pg_name (i := 12) sclaw.nd rfl (Or.inl rfl)) (pss_one (ps_if (pt_cmpR op_eq (pe_op op_mod (pv 12) pe_int) pe_int (nomark _)) (pss_cons (ps_set (i := 13) sclaw.nd rfl (Or.inl rfl) (pe_op op_mod (pe_op op_fdiv (pv 12) pe_int) (pv 1)))
      (pss_cons (ps_set (i := 14) sclaw.nd rfl (Or.inl rfl) (pe_cal C__law_due_by hr (pa_cons (pv 9) (pa_cons (pv 13) (pa_cons pe_int pa_nil)))))
      (pss_cons (ps_augS (pv 9) (pv 13) get_listI pe_int ip_add set_list)
      (pss_cons (ps_set (i := 15) sclaw.nd rfl (Or.inl rfl) (pe_cal C__law_told hr (pa_cons (pv 7) (pa_cons (pv 13) (pa_cons pe_int pa_nil)))))
      (pss_one (ps_if (PW.pt (pw_or (pt_not (pt_val (pe_cal C__law_alike hr (pa_cons (pv 15) (pa_cons (pv 14) pa_nil))))) (pw_or (pt_not (pt_val (pe_cal C__law_kept hr (pa_cons (pv 11) (pa_cons (pv 15) pa_nil))))) (pw_or1 (pt_not (pt_val (pe_cal C__law_stands hr (pa_cons (pv 7) (pa_cons (pv 9) pa_nil))))))))) (pss_one (ps_ret pe_bl)) pss_nil)))))) (pss_cons (ps_asg (pe_cal C__law_deed_by hr (pa_cons (pv 12) (pa_cons (pv 8) pa_nil))) (pg_tup rfl (pgs_cons (pg_name (i := 13) sclaw.nd rfl (Or.inl rfl)) (pgs_cons (pg_name (i := 16) sclaw.nd rfl (Or.inl rfl)) pgs_nil))))
      (pss_one (ps_if (pt_not (pt_val (pe_cal C__law_done hr (pa_cons (pv 6) (pa_cons (pv 8) (pa_cons (pv 10) (pa_cons (pv 13) (pa_cons (pv 16) (pa_cons (pv 11) pa_nil))))))))) (pss_one (ps_ret pe_bl)) pss_nil))))))
      (pss_cons (ps_if (PW.pt (pw_or (pt_not (pt_val (pe_cal C__law_all_back hr (pa_cons (pv 6) (pa_cons (pv 8) (pa_cons (pv 10) pa_nil)))))) (pw_or1 (pt_cmpR (op_neD hr.units) (pv 8) (pv 4) (nomark _))))) (pss_one (ps_ret pe_bl)) pss_nil)
      (pss_one (ps_ret (pe_and (pe_cal C__law_kept hr (pa_cons (pv 11) (pa_cons pe_non pa_nil))) (pe_and (pe_cal C__law_stands hr (pa_cons (pv 7) (pa_cons (pv 9) pa_nil))) (pe_one (pe_cmpR (op_eqD hr.units) (pv 5) (pv 4) (nomark _)))))))))))))))))))))))), ?_⟩
    try dsimp only [cxOf, Cx.nox, Cx.wish]
    rw [show L2.start ["_law_script", "_law_size", "_law_deeds", "_law_tilt", "_law_begun", "_law_handed", "_law_land", "_law_other", "_law_heights", "_law_second", "_law_done_here", "_law_told_here", "_law_cell", "_law_place", "_law_due", "_law_found", "_law_by", "_law_k"] [.ref l] = [some (.ref l), none, none, none, none, none, none, none, none, none, none, none, none, none, none, none, none, none] from rfl]
    obtain ⟨n0, hn0⟩ : ∃ n0, 1 + cel ns 0 % 9 = n0 := ⟨_, rfl⟩
    have n0b : 1 ≤ n0 ∧ n0 ≤ 9 := by omega
    refine q_asg (v := .int n0) (ev_int (by walk_at "ev") hn0) fun H1 e1 => ?_
    walk_at "st"
    refine q_asgL (xs := ((ns.drop 3).take 24).map V.int) (el_mid 3 27 (by walk_at "ev") (ex_l e1 hs)) fun d0 H2 nd0 e2 hd0 => ?_
    walk_at "st"
    refine q_cut (M := fun σ' H' => ∃ (n : Int) (dl : Addr) (ds : List Int), σ' = [some (.ref l), some (.int n), some (.ref dl), none, none, none, none, none, none, none, none, none, none, none, none, none, none, none] ∧ SqL K H' l (ns.map V.int) ∧ H' dl = some (.lst (ds.map V.int)) ∧ ds.length ≤ 24 ∧ 1 ≤ n ∧ n ≤ 29) ?_ ?_
    · apply s_when
      · walk_at "et"
      · intro _ H3 e3
        refine q_asg (v := .int (n0 + 20)) (by walk_at "ev") fun H4 e4 => ?_
        walk_at "st"
        have hs4 : SqL K H4 l (ns.map V.int) := ex_l (by walk_at "ex") hs
        refine s_asgL (xs := ((ns.drop 3).take 8).map V.int) (el_mid 3 11 (by walk_at "ev") hs4) fun d1 H5 nd1 e5 hd1 => ?_
        exact ⟨_, d1, _, rfl, ex_l e5 hs4, hd1, by rw [List.length_take]; omega, by omega, by omega⟩
      · intro _ H3 e3
        exact ⟨n0, d0, _, rfl, ex_l (by walk_at "ex") hs, e3 _ _ hd0, by rw [List.length_take]; omega, by omega, by omega⟩
    clear hd0 nd0 e2 e1 n0b hn0
    clear d0 H2 H1 n0 hs H
    rintro σ' H ⟨n0, d0, ds0, rfl, hs, hd0, dl24, nb1, nb2⟩
    refine q_cut (M := fun σ' H' => ∃ (n : Int) (dl : Addr) (ds : List Int), σ' = [some (.ref l), some (.int n), some (.ref dl), none, none, none, none, none, none, none, none, none, none, none, none, none, none, none] ∧ SqL K H' l (ns.map V.int) ∧ H' dl = some (.lst (ds.map V.int)) ∧ ds.length ≤ 24 ∧ 1 ≤ n ∧ n ≤ 59) ?_ ?_
    · apply s_when
      · walk_at "et"
      · intro _ H3 e3
        refine q_asg (v := .int (n0 + 30)) (by walk_at "ev") fun H4 e4 => ?_
        walk_at "st"
        have hs4 : SqL K H4 l (ns.map V.int) := ex_l (by walk_at "ex") hs
        refine s_asgL (xs := ((ns.drop 3).take 2).map V.int) (el_mid 3 5 (by walk_at "ev") hs4) fun d1 H5 nd1 e5 hd1 => ?_
        exact ⟨_, d1, _, rfl, ex_l e5 hs4, hd1, by rw [List.length_take]; omega, by omega, by omega⟩
      · intro _ H3 e3
        exact ⟨n0, d0, _, rfl, ex_l e3 hs, e3 _ _ hd0, by omega, by omega, by omega⟩
    clear hd0 dl24 nb1 nb2 hs
    clear d0 ds0 n0 H
    rintro σ' H ⟨n, dl, ds, rfl, hs, hd, dl24, nb1, nb2⟩
    obtain ⟨t, ht⟩ : ∃ t, cel ns 2 % 3 - 1 = t := ⟨_, rfl⟩
    have tb : t = -1 ∨ t = 0 ∨ t = 1 := by omega
    refine q_asg (v := .int t) (ev_int (by walk_at "ev") ht) fun H1 e1 => ?_
    walk_at "st"
    have hs1 := ex_l e1 hs
    refine q_asgL (xs := ((List.range n.toNat).map fun (k : Nat) => cel ns 1 / ((k : Int) % 9 + 1) % 9 + (k : Int) * t).map V.int) (el_eq (el_lcR1 (n := n) (fun _ => true) (fun k => .int (cel ns 1 / ((k : Int) % 9 + 1) % 9 + (k : Int) * t)) (by walk_at "ea") (by omega) (fun _ => rfl) (fun _ _ _ _ => et_yes) fun k H4 e4 hk _ => ?_) (given_all (fun _ => rfl))) fun b0 H2 nb0 e2 hb0 => ?_
    · have hsl : SqL K H4 l (ns.map V.int) := ex_l e4 hs1
      have tm : -(2 ^ 64) < t ∧ t < 2 ^ 64 := by omega
      have kd : CDiv (cel ns 1) ((k : Int) % 9 + 1) := ⟨by omega, by omega⟩
      walk_at "wi"
      exact ev_op (ev_op (ev_op (by walk_at "ev") (by walk_at "ev") (rv_I kd)) (by walk_at "ev") (by walk_at "rv")) (ev_op (by walk_at "ev") (by walk_at "ev") (rv_I (.inr tm))) (by walk_at "rv")
    walk_at "st"
    refine q_cut (M := fun σ' H' => ∃ (bl : Addr) (bs : List Int), σ' = [some (.ref l), some (.int n), some (.ref dl), some (.int t), some (.ref bl), none, none, none, none, none, none, none, none, none, none, none, none, none] ∧ SqL K H' l (ns.map V.int) ∧ H' dl = some (.lst (ds.map V.int)) ∧ H' bl = some (.lst (bs.map V.int)) ∧ (bs.length : Int) = n ∧ ∀ i ∈ bs, -1000000 ≤ i ∧ i ≤ 1000000) ?_ ?_
    · apply s_when
      · walk_at "et"
      · intro hb H3 e3
        have n30 : n < 30 := by
          rw [Bool.and_eq_true] at hb
          exact of_decide_eq_true hb.2
        have hs3 := ex_l (by walk_at "ex") hs1 (H' := H3)
        refine s_asgL (xs := ((List.range n.toNat).map fun (k : Nat) => (k : Int) * (k : Int) + (k : Int) * t).map V.int) (el_eq (el_lcR1 (n := n) (fun _ => true) (fun k => .int ((k : Int) * (k : Int) + (k : Int) * t)) (by walk_at "ea") (by omega) (fun _ => rfl) (fun _ _ _ _ => et_yes) fun k H4 e4 hk _ => ?_) (given_all (fun _ => rfl))) fun b1 H4 nb1 e4 hb1 => ?_
        · have tm : -(2 ^ 64) < t ∧ t < 2 ^ 64 := by omega
          have km : -(2 ^ 64) < (k : Int) ∧ (k : Int) < 2 ^ 64 := by omega
          walk_at "wi"
          exact ev_op (ev_op (by walk_at "ev") (by walk_at "ev") (rv_I (.inr km))) (ev_op (by walk_at "ev") (by walk_at "ev") (rv_I (.inr tm))) (by walk_at "rv")
        refine ⟨b1, _, rfl, ex_l e4 hs3, by walk_at "hp", hb1, by rw [List.length_map, List.length_range]; omega, fun i hi => ?_⟩
        obtain ⟨k, hk, rfl⟩ := List.mem_map.mp hi
        have hk := List.mem_range.mp hk
        have k30 : k ≤ 29 := by omega
        have kk : k * k ≤ 29 * 29 := Nat.mul_le_mul k30 k30
        have kk2 : (k : Int) * (k : Int) = ((k * k : Nat) : Int) := by push_cast; rfl
        rw [kk2]
        rcases tb with rfl | rfl | rfl <;> omega
      · intro _ H3 e3
        refine ⟨b0, _, rfl, ex_l (by walk_at "ex") hs1, by walk_at "hp", e3 _ _ hb0, by rw [List.length_map, List.length_range]; omega, fun i hi => ?_⟩
        obtain ⟨k, hk, rfl⟩ := List.mem_map.mp hi
        have hk := List.mem_range.mp hk
        have m9 : 0 ≤ cel ns 1 / ((k : Int) % 9 + 1) % 9 ∧ cel ns 1 / ((k : Int) % 9 + 1) % 9 < 9 := by omega
        rcases tb with rfl | rfl | rfl <;> omega
    clear hb0 nb0 e2 hs1 e1 hs hd
    clear b0 H2 H1 H
    rintro σ' H ⟨bl, bs, rfl, hs, hd, hb, bn, small⟩
    have hbl : (bs.map V.int).length = bs.length := List.length_map ..
    refine q_asgL (xs := bs.map V.int) (by walk_at "eu") fun gl Hc ngl e1 hg => ?_
    walk_at "st"
    have inb : ∀ i ∈ bs, inB i = true := fun i hi => by
      have := small i hi
      unfold inB
      rw [decide_eq_true (by omega), decide_eq_true (by omega)]
      rfl
    have hd1 := e1 _ _ hd
    have hb1 := e1 _ _ hb
    have hs1 := ex_l e1 hs
    refine q_asgNew (N := N) (by walk_at "ea") hg (by omega) (by omega) inb fun p dx hp lp H2 np ndx nhp nlp p1 p2 m1 e2 hx2 hh2 hl2 => ?_
    walk_at "st"
    refine q_asgNew (N := N) (by walk_at "ea") (e2 _ _ hg) (by omega) (by omega) inb fun p' dx' hp' lp' H3 np' ndx' nhp' nlp' p1' p2' m1' e3 hx3 hh3 hl3 => ?_
    walk_at "st"
    have hb3 := e3 _ _ (e2 _ _ hb1)
    refine q_asgL (xs := bs.map V.int) (by walk_at "eu") fun h H4 nh e4 hh4 => ?_
    walk_at "st"
    have hb4 := e4 _ _ hb3
    refine q_asgL (xs := bs.map V.int) (by walk_at "eu") fun s' H5 ns' e5 hs5 => ?_
    walk_at "st"
    refine q_asgL (xs := []) (by walk_at "eu") fun d H6 nd e6 hd6 => ?_
    walk_at "st"
    refine q_asgL (xs := []) (by walk_at "eu") fun th H7 nth e7 hth7 => ?_
    walk_at "st"
    -- what the lists that change are, and that they are apart
    have g2 := growL2 (M := []) (H := Hc) ⟨Lsts.nil _, List.nodup_nil⟩ nhp nlp m1 e2 ⟨_, hh2⟩ ⟨_, hl2⟩
    have g3 := growL2 g2 nhp' nlp' m1' e3 ⟨_, hh3⟩ ⟨_, hl3⟩
    have g4 := growL g3 nh e4 ⟨_, hh4⟩
    have g5 := growL g4 ns' e5 ⟨_, hs5⟩
    have g6 := growL g5 nd e6 ⟨_, hd6⟩
    have g7 := growL g6 nth e7 ⟨_, hth7⟩
    have nob : ∀ m ∈ [th, d, s', h, lp', hp', lp, hp], Hc m = none := by
      have e23 := e2.trans e3
      have e24 := e23.trans e4
      have e25 := e24.trans e5
      have e26 := e25.trans e6
      intro m hm
      simp only [List.mem_cons, List.not_mem_nil, or_false] at hm
      rcases hm with rfl | rfl | rfl | rfl | rfl | rfl | rfl | rfl
      · exact fresh_back e26 nth
      · exact fresh_back e25 nd
      · exact fresh_back e24 ns'
      · exact fresh_back e23 nh
      · exact fresh_back e2 nlp'
      · exact fresh_back e2 nhp'
      · exact nlp
      · exact nhp
    have e47 := (e5.trans e6).trans e7
    have e37 := e4.trans e47
    have sm7 : Same C H7 p dx hp lp h d bs [] := by
      have nd7 := g7.2
      simp only [List.nodup_cons, List.mem_cons, List.not_mem_nil, or_false, not_or, not_false_eq_true, List.nodup_nil, and_true] at nd7
      obtain ⟨⟨a1, a2, a3, a4, a5, a6, a7⟩, ⟨b1, b2, b3, b4, b5, b6⟩, ⟨c1, c2, c3, c4, c5⟩, ⟨d1, d2, d3, d4⟩, _⟩ := nd7
      exact ⟨(e3.trans e37) _ _ hx2, (e3.trans e37) _ _ hh2, e47 _ _ hh4, (PrL.empty hl2).ex (e3.trans e37), (PrL.empty hd6).ex e7, ⟨m1, fun z => d4 z.symm, fun z => b6 z.symm, fun z => d3 z.symm, fun z => b5 z.symm, fun z => b2 z.symm⟩, by omega, by omega, .nil inb⟩
    have t7 : LAt C H7 p' dx' hp' lp' s' bs bs [] := by
      have nd7 := g7.2
      simp only [List.nodup_cons, List.mem_cons, List.not_mem_nil, or_false, not_or, not_false_eq_true, List.nodup_nil, and_true] at nd7
      obtain ⟨⟨a1, a2, a3, a4, a5, a6, a7⟩, ⟨b1, b2, b3, b4, b5, b6⟩, ⟨c1, c2, c3, c4, c5⟩, ⟨d1, d2, d3, d4⟩, _⟩ := nd7
      exact ⟨e37 _ _ hx3, e37 _ _ hh3, (e6.trans e7) _ _ hs5, (PrL.empty hl3).ex e37, ⟨m1', fun z => c3 z.symm, fun z => c2 z.symm⟩⟩
    have kp7 : Kept H7 [th, d, s', h, lp', hp', lp, hp] th [] := ⟨hth7, fun _ m => (nomatch m)⟩
    have E7 : Ex Hc H7 := (e2.trans e3).trans e37
    have apart := g7.2
    clear g2 g3 g4 g5 g6 g7 e47 e37 hb3 hb4
    clear e7 e6 e5 e4 e3 e2 hth7 hd6 hs5 hh4 hx3 hh3 hl3 hx2 hh2 hl2 nth nd ns' nh np' ndx' nhp' nlp' p1' p2' m1' np ndx nhp nlp p1 p2 m1
    clear H2 H3 H4 H5 H6
    have tm : th ∈ [th, d, s', h, lp', hp', lp, hp] := by simp
    have sub1 : ∀ b ∈ [hp, lp, h, d, th], b ∈ [th, d, s', h, lp', hp', lp, hp] := by
      intro b
      simp only [List.mem_cons, List.not_mem_nil, or_false]
      rintro (rfl | rfl | rfl | rfl | rfl) <;> simp
    have sub2 : ∀ b ∈ [hp', lp', s'], b ∈ [th, d, s', h, lp', hp', lp, hp] := by
      intro b
      simp only [List.mem_cons, List.not_mem_nil, or_false]
      rintro (rfl | rfl | rfl) <;> simp
    simp only [List.nodup_cons, List.mem_cons, List.not_mem_nil, or_false, not_or, not_false_eq_true, List.nodup_nil, and_true] at apart
    obtain ⟨⟨a1, a2, a3, a4, a5, a6, a7⟩, ⟨b1, b2, b3, b4, b5, b6⟩, ⟨c1, c2, c3, c4, c5⟩, ⟨d1, d2, d3, d4⟩, ⟨x1, x2, x3⟩, ⟨y1, y2⟩, z1⟩ := apart
    have thA : th ∉ [hp, lp, h, d] := by simp [a1, a3, a6, a7]
    have no1 : hp' ∉ [hp, lp, h, d, th] ∧ lp' ∉ [hp, lp, h, d, th] ∧ s' ∉ [hp, lp, h, d, th] := by
      simp [y1, y2, x2, x3, c1, c4, c5, Ne.symm d1, Ne.symm d2, Ne.symm b1, Ne.symm b3, Ne.symm b4, Ne.symm a2, Ne.symm a4, Ne.symm a5]
    have no2' : hp ∉ [hp', lp', s'] ∧ lp ∉ [hp', lp', s'] ∧ h ∉ [hp', lp', s'] ∧ d ∉ [hp', lp', s'] ∧ th ∉ [hp', lp', s'] := by
      simp [Ne.symm y1, Ne.symm y2, Ne.symm x2, Ne.symm x3, Ne.symm c1, Ne.symm c4, Ne.symm c5, d1, d2, b1, b3, b4, a2, a4, a5]
    clear a1 a2 a3 a4 a5 a6 a7 b1 b2 b3 b4 b5 b6 c1 c2 c3 c4 c5 d1 d2 d3 d4 x1 x2 x3 y1 y2 z1
    obtain ⟨M, hM⟩ : ∃ M, [th, d, s', h, lp', hp', lp, hp] = M := ⟨_, rfl⟩
    have lstsM : ∀ {H' : Hp} {ls ls2 : List (Int × Int)} {ms1 ms2 : List Int} {ts : List Addr}, Same C H' p dx hp lp h d bs ls → LAt C H' p' dx' hp' lp' s' ms1 ms2 ls2 → Kept H' M th ts → Lsts H' M := fun s t k =>
      hM ▸ .cons ⟨_, k.l⟩ (.cons s.pd.lst (.cons ⟨_, t.hs⟩ (.cons ⟨_, s.hs⟩ (.cons t.pl.lst (.cons ⟨_, t.hh⟩ (.cons s.pl.lst (.cons ⟨_, s.hh⟩ (.nil _))))))))
    rw [hM] at nob kp7 tm sub1 sub2
    clear hM
    have sub0 : ∀ b ∈ [hp, lp, h, d], b ∈ M := fun b m => sub1 b (sub45 m)
    refine q_cut (M := fun σ' H' => ∃ ls, σ' = [some (.ref l), some (.int n), some (.ref dl), some (.int t), some (.ref bl), some (.ref gl), some (.ref p), some (.ref p'), some (.ref h), some (.ref s'), some (.ref d), some (.ref th), none, none, none, none, none, none] ∧ Ex Hc H' ∧ Same C H' p dx hp lp h d bs ls ∧ ls.length ≤ 90 ∧ LAt C H' p' dx' hp' lp' s' bs bs [] ∧ Kept H' M th []) ?_ ?_
    · have hs7 := ex_l E7 hs1
      apply s_when
      · walk_at "et"
      · intro _ H8 e8
        refine s_dropC (vs := [.ref p, .ref h, .ref d]) (by walk_at "ea") fun H9 e9 => ?_
        have s9 := sm7.ex (e8.trans e9)
        have t9 := t7.ex (e8.trans e9)
        have k9 := kp7.ex (e8.trans e9)
        refine ⟨p, dx, hp, lp, h, d, bs, offs H9 [hp, lp, h, d], rfl, s9, small, offs_none (by simp), offs_none (by simp), offs_none (by simp), offs_none (by simp), offs_ex _ _, fun H10 ls e10 s10 len => ?_⟩
        have n1 := fun {b} (m : b ∈ [hp, lp, h, d]) => sub45 (e := th) m
        exact ⟨ls, rfl, ex_base (E7.trans (e8.trans e9)) (fun a m => nob a (sub0 a m)) e10, s10, len, t9.off e10 s9.lsts (fun m => no1.1 (n1 m)) (fun m => no1.2.1 (n1 m)) (fun m => no1.2.2 (n1 m)), k9.step (fun b m => .inl (sub0 b m)) e10 thA⟩
      · intro _ H8 e8
        exact ⟨[], rfl, E7.trans e8, sm7.ex e8, by simp, t7.ex e8, kp7.ex e8⟩
    clear kp7 t7 sm7 E7 H7
    rintro σ' H7 ⟨ls0, rfl, E7, s7, len7, t7, k7⟩
    refine q_forLn (a := dl) (xs := ds.map V.int) (by walk_at "ev") (sq_of (E7 _ _ hd1)) (fun i σ' H' => ∃ (ls ls2 : List (Int × Int)) (ms : List Int) (ts : List Addr) (v12 v13 v14 v15 v16 : Option V), σ' = [some (.ref l), some (.int n), some (.ref dl), some (.int t), some (.ref bl), some (.ref gl), some (.ref p), some (.ref p'), some (.ref h), some (.ref s'), some (.ref d), some (.ref th), v12, v13, v14, v15, v16, none] ∧
      Ex Hc H' ∧ Same C H' p dx hp lp h d bs ls ∧ ls.length ≤ 90 + i ∧ LAt C H' p' dx' hp' lp' s' ms ms ls2 ∧ ls2.length ≤ i ∧ ms.length = bs.length ∧ (∀ j ∈ ms, -1000000 - (i : Int) ≤ j ∧ j ≤ 1000000 + (i : Int)) ∧ Kept H' M th ts ∧ ts.length ≤ i)
      (fun H8 e8 => ⟨ls0, [], bs, [], _, _, _, _, _, rfl, E7.trans e8, s7.ex e8, by omega, t7.ex e8, by simp, rfl, fun j hj => by have := small j hj; omega, k7.ex e8, by simp⟩) (fun i σ' H' _ ⟨_, _, _, _, _, _, _, _, _, _, E, _⟩ => sq_of (E _ _ hd1)) ?_ ?_
    · clear k7 t7 len7 s7 E7 H7 ls0
      rintro i x σ' H1 hx ⟨ls, ls2, ms, ts, v12, v13, v14, v15, v16, rfl, E1, s1, len1, t1, len2, ml, mb, k1, len3⟩
      have il : i < ds.length := by
        have z := (List.getElem?_eq_some_iff.mp hx).1
        rwa [List.length_map] at z
      rw [List.getElem?_map] at hx
      obtain ⟨c, _, rfl⟩ := Option.map_eq_some_iff.mp hx
      walk_at "st"
      have lm1 := lstsM s1 t1 k1
      apply s_if
      · walk_at "et"
      · intro _ H2 e2
        obtain ⟨a, ha⟩ : ∃ a : Nat, c / 11 % n = (a : Int) := ⟨(c / 11 % n).toNat, by have := Int.emod_nonneg (c / 11) (b := n) (by omega); omega⟩
        have alt : (a : Int) < n := ha ▸ Int.emod_lt_of_pos _ (by omega)
        refine q_asg (v := .int (a : Int)) (ev_int (by walk_at "ev") ha) fun H3 e3 => ?_
        walk_at "st"
        clear ha
        have lt : a < ms.length := by omega
        have cb := mb _ (cel_mem lt)
        have ib : inB (cel ms (a : Int) + 1) = true := by
          unfold inB
          rw [decide_eq_true (by omega), decide_eq_true (by omega)]
          rfl
        have e13 := e2.trans e3
        refine q_asgC (vs := [.ref s', .int (a : Int), .int 1]) (by walk_at "ea") fun H4 e4 => ?_
        have t4 := t1.ex (e13.trans e4)
        refine ⟨s', ms, t4.hs, by omega, .inl ⟨a, 1, rfl, lt, ib, fun u x2 y2 H5 nu nx2 ny2 xy2 ux2 uy2 e5 hu px2 py2 => ?_⟩⟩
        walk_at "st"
        have e15 := (e13.trans e4).trans e5
        have t5 := t1.ex e15
        have nx2d : x2 ∉ [hp', lp', s'] := t4.lsts.no_new nx2
        have ny2d : y2 ∉ [hp', lp', s'] := t4.lsts.no_new ny2
        refine q_augL (p := s') (k := a) (b := 1) (a := cel ms (a : Int)) (by walk_at "ev") (by walk_at "ev") (by walk_at "ev") t5.hs (get_celV lt) fun H6 e6 => ?_
        have e16 := e15.trans e6
        have t6 := t1.ex e16
        have t7 := t6.setH (lift_set (ns := ms) (a := a) (b := 1))
        have E7 : Ex (offs H1 [hp', lp', s']) (upd H6 s' (.lst ((ms.map V.int).set a (.int (cel ms (a : Int) + 1))))) := offs_upd (ex_off e16) (by simp)
        have px7 := (px2.ex e6).set (ys := (ms.map V.int).set a (.int (cel ms (a : Int) + 1))) (fun z => nx2d (by rw [z]; simp)) t6.hs
        have py7 := (py2.ex e6).set (ys := (ms.map V.int).set a (.int (cel ms (a : Int) + 1))) (fun z => ny2d (by rw [z]; simp)) t6.hs
        have hu7 := tup_set (ys := (ms.map V.int).set a (.int (cel ms (a : Int) + 1))) (e6 _ _ hu) t6.hs
        revert t7 E7 px7 py7 hu7
        generalize upd H6 s' (.lst ((ms.map V.int).set a (.int (cel ms (a : Int) + 1)))) = H7
        intro t7 E7 px7 py7 hu7
        refine q_asgC (vs := [.ref p', .int (a : Int), .int 1]) (by walk_at "ea") fun H8 e8 => ?_
        have t8 := t7.ex e8
        have E8 := E7.trans e8
        obtain ⟨m1, m2, m3⟩ := id t8.ne
        refine ⟨p', dx', hp', lp', _, _, t8.x, t8.hh, t8.pl, m1, by omega, by omega, .inl ⟨a, 1, offs H8 [hp', lp'], rfl, lt, ib, offs_none (by simp), offs_none (by simp), offs_ex _ _, fun tt x y H9 nt nx ny xy tx ty e9 hh9 pl9 ht px py => ?_⟩⟩
        walk_at "st"
        have two : ∀ b ∈ [hp', lp'], b ∈ [hp', lp', s'] := fun b m => by
          rw [show [hp', lp', s'] = [hp', lp'] ++ [s'] from rfl]
          exact List.mem_append.mpr (.inl m)
        have t9 := t8.told e9 hh9 pl9
        have E9 := offs_trans E8 (fun b m => .inl (two b m)) e9
        have l2 : Lsts H8 [hp', lp'] := .cons ⟨_, t8.hh⟩ (.cons t8.pl.lst (.nil _))
        have px9 := (offs_pr (px7.ex e8) (fun m => nx2d (two _ m)) l2).ex e9
        have py9 := (offs_pr (py7.ex e8) (fun m => ny2d (two _ m)) l2).ex e9
        have hu9 := e9 _ _ (offs_at (l2.no_tup (e8 _ _ hu7)) (e8 _ _ hu7))
        have s9 := s1.off E9 t1.lsts no2'.1 no2'.2.1 no2'.2.2.1 no2'.2.2.2.1
        have ll := liftL_len ms a 1
        refine s_ifOr (vs := [.ref tt, .ref u]) (by walk_at "ea") fun H10 e10 => ?_
        refine alike_new lm1 k1 (E9.trans e10) (t9.lsts.ex e10) sub2 no2'.2.2.2.2 (offs_back E8 t8.lsts nx) (offs_back E8 t8.lsts ny) xy (e10 _ _ ht) (e10 _ _ hu9) (px.ex e10) (py.ex e10) (px9.ex e10) (py9.ex e10) (lack_few (by omega)) (lack_few (by omega)) fun H11 E11 e11 lxy nxM nyM ht11 px11 py11 lm11 k11 => not_go ?_
        have nm : ∀ {b}, b ∈ M → b ∉ [x, y] := fun {b} m z => by
          rcases List.mem_cons.mp z with z | z
          · exact nxM (z ▸ m)
          · exact nyM (List.mem_singleton.mp z ▸ m)
        have s11 := (s9.ex e10).off e11 lxy (nm (sub0 _ (by simp))) (nm (sub0 _ (by simp))) (nm (sub0 _ (by simp))) (nm (sub0 _ (by simp)))
        have t11 := (t9.ex e10).off e11 lxy (nm (sub2 _ (by simp))) (nm (sub2 _ (by simp))) (nm (sub2 _ (by simp)))
        refine t_orNot (vs := [.ref th, .ref tt]) (by walk_at "ea") fun H12 e12 => ?_
        refine ⟨th, .ref tt, M, ts, rfl, tm, lm11.ex e12, k11.ex e12, by omega, .inr ⟨tt, x, y, _, _, rfl, e12 _ _ ht11, nxM, nyM, px11.ex e12, py11.ex e12, fun H13 ts' e13' k13 len13 => not_go ?_⟩⟩
        have lt12 : Lsts H12 [th] := .cons ⟨_, (k11.ex e12).l⟩ (.nil H12)
        have n1 : ∀ {b}, b ∈ [hp, lp, h, d] → b ∉ [th] := fun {b} m z => thA (List.mem_singleton.mp z ▸ m)
        have n2 : ∀ {b}, b ∈ [hp', lp', s'] → b ∉ [th] := fun {b} m z => no2'.2.2.2.2 (List.mem_singleton.mp z ▸ m)
        have s13 := (s11.ex e12).off e13' lt12 (n1 (by simp)) (n1 (by simp)) (n1 (by simp)) (n1 (by simp))
        have t13 := (t11.ex e12).off e13' lt12 (n2 (by simp)) (n2 (by simp)) (n2 (by simp))
        refine t_notC (vs := [.ref p', .ref s']) (by walk_at "ea") fun H14 e14 => ?_
        have t14 := t13.ex e14
        refine ⟨.bl true, ⟨p', dx', hp', lp', s', _, rfl, t14.x, t14.hh, t14.hs, by omega, rfl⟩, fun H15 e15' => ⟨true, rfl, ?_⟩⟩
        refine no_go ?_
        have E13 : Ex Hc H13 := ex_base ((ex_base E1 (fun b m => nob b (sub2 b m)) E11).trans e12) (fun b m => by rw [List.mem_singleton.mp m]; exact nob th tm) e13'
        have e1315 := e14.trans e15'
        exact ⟨ls, _, _, ts', _, _, _, _, _, rfl, E13.trans e1315, s13.ex e1315, by omega, t13.ex e1315, by rw [List.length_append, List.length_cons, List.length_nil]; omega, by omega, fun j hj => by
          rcases liftL_mem hj with hj | hj
          · have := mb j hj
            omega
          · omega, k13.ex e1315, by omega⟩
      · intro _ H2 e2
        refine q_asg2C (vs := [.int c, .ref h]) (by walk_at "ea") fun H3 e3 => ?_
        have s3 := s1.ex (e2.trans e3)
        have ln := afterL_len bs ls
        refine ⟨h, _, c, rfl, s3.hs, by omega, by omega, fun tt x y H4 nt e4 ht dk => g_tup2 (st_of ht) ?_⟩
        walk_at "st"
        have e14 := (e2.trans e3).trans e4
        refine s_ifNot (vs := [.ref p, .ref h, .ref d, x, y, .ref th]) (by walk_at "ea") fun H5 e5 => ?_
        have e15 := e14.trans e5
        have s5 := s1.ex e15
        have t5 := t1.ex e15
        have k5 := k1.ex e15
        rw [ln] at dk
        refine ⟨p, dx, hp, lp, h, d, th, bs, ls, ts, M, x, y, rfl, s5, dk.ex e5, sub1, lm1.ex e15, k5, thA, by omega, by omega, fun H6 ls' ts' E6 s6 len6 k6 len7 => not_go ?_⟩
        have l5 : Lsts H5 [hp, lp, h, d, th] := fun m hm => (lm1.ex e15) m (sub1 m hm)
        exact ⟨ls', ls2, ms, ts', _, _, _, _, _, rfl, ex_base (E1.trans e15) (fun b m => nob b (sub1 b m)) E6, s6, by omega, t5.off E6 l5 no1.1 no1.2.1 no1.2.2, by omega, ml, fun j hj => by
          have := mb j hj
          omega, k6, by omega⟩
    · clear k7 t7 len7 s7 E7 H7 ls0
      rintro σ' H1 ⟨ls, ls2, ms, ts, v12, v13, v14, v15, v16, rfl, E1, s1, len1, t1, len2, ml, mb, k1, len3⟩
      rw [List.length_map] at len1 len2 len3
      have lm1 := lstsM s1 t1 k1
      refine q_ifOr (vs := [.ref p, .ref h, .ref d]) (by walk_at "ea") fun H2 e2 => ?_
      have s2 := s1.ex e2
      refine ⟨p, dx, hp, lp, h, d, bs, ls, rfl, s2, by omega, fun H3 E3 s3 => not_go ?_⟩
      have n1 := fun {b} (m : b ∈ [hp, lp, h, d]) => sub45 (e := th) m
      have t3 := (t1.ex e2).off E3 s2.lsts (fun m => no1.1 (n1 m)) (fun m => no1.2.1 (n1 m)) (fun m => no1.2.2 (n1 m))
      have k3 := (k1.ex e2).step (fun b m => .inl (sub0 b m)) E3 thA
      have b3 := ex_base (E1.trans e2) (fun b m => nob b (sub0 b m)) E3
      refine et_is (b := false) (et_test (ev_op (by walk_at "ev") (by walk_at "ev") (rv_neI (sq_of s3.hs) (sq_of (b3 _ _ hb1))))) (by show (!decide (bs = bs)) = false; simp) H3 (Ex.refl _) _ fun H4 e4 => no_go2 ?_
      refine t_and (vs := [.ref th, .non]) (by walk_at "ea") fun H5 e5 => ?_
      have e35 := e4.trans e5
      refine ⟨th, .non, M, ts, rfl, tm, lstsM (s3.ex e35) (t3.ex e35) (k3.ex e35), k3.ex e35, by omega, .inl ⟨.inl rfl, fun H6 e6 => and_go ?_⟩⟩
      refine t_and (vs := [.ref p', .ref s']) (by walk_at "ea") fun H7 e7 => ?_
      have e37 := (e35.trans e6).trans e7
      have t7 := t3.ex e37
      refine ⟨.bl true, ⟨p', dx', hp', lp', s', _, rfl, t7.x, t7.hh, t7.hs, by omega, rfl⟩, fun H8 e8 => and_go ?_⟩
      have b8 := b3.trans (e37.trans e8)
      exact (ev_is (w := .bl true) (v := .bl (decide (bs = bs))) (ev_op (by walk_at "ev") (by walk_at "ev") (rv_eqI (sq_of (b8 _ _ hg)) (sq_of (b8 _ _ hb1)))) (by simp)) H8 (Ex.refl _) _ fun H9 e9 => q H9
end
section
theorem all_mk {l : PySem.W.OpenLaw} {w : World} {K : PySem.W.Frag} {h : Heap} {mg : Str → Option Value} {fa : Addr} {f__law_cell_at f__law_whole f_is_whole f_check_hill f_slope f_steeper f__seen_ahead f_sights f__is_in_bound f_checked f__without f___init__ f_told f_seen f__moved f_lift f_back f__law_sole f__law_base f__law_told f__law_sights_by f__law_lacking f__law_due_by f__law_deed_by f__law_alike f__law_stands f__law_kept f__law_lifted f__law_all_back f__law_goes f__law_done f_law : Addr} {N_HillError : Addr} {N_NoLand : Addr} {N_NoHill : Addr} {N_SameHill : Addr} {N_TooHigh : Addr} {N_NothingDone : Addr} {N_Land : Addr} {t_BOUND : _} {t_MOST_HILLS : _} (X : K.In h) (G : h.Ns mainGlobals mg) (hfa : mg "law" = some (.ref fa))
    (g_Land : PySem.W.nsIn K mainGlobals "Land" = some (some (.ref N_Land)))
    {od__law_cell_at an__law_cell_at : Option Addr} {sl__law_cell_at : Array (Option Value)} {oc__law_cell_at kV__law_cell_at dc__law_cell_at pm__law_cell_at cd__law_cell_at ct__law_cell_at : Value}
    (a__law_cell_at : PySem.W.nsIn K mainGlobals "_law_cell_at" = some (some (.ref f__law_cell_at)))
    (l__law_cell_at : K.lookup f__law_cell_at = some ⟨oc__law_cell_at, od__law_cell_at, .func (PySem.W.fnOf "_law_cell_at" "_law_cell_at" (defArgs s_law_cell_at) (defBody s_law_cell_at) (defScope s_law_cell_at) .none kV__law_cell_at dc__law_cell_at pm__law_cell_at an__law_cell_at cd__law_cell_at ct__law_cell_at), sl__law_cell_at⟩)
    (c__law_cell_at : PySem.W.codeIn K cd__law_cell_at "_law_cell_at" = true) (k__law_cell_at : PySem.W.keepIn K (.ref f__law_cell_at) = true)
    {od__law_whole an__law_whole : Option Addr} {sl__law_whole : Array (Option Value)} {oc__law_whole kV__law_whole dc__law_whole pm__law_whole cd__law_whole ct__law_whole : Value}
    (a__law_whole : PySem.W.nsIn K mainGlobals "_law_whole" = some (some (.ref f__law_whole)))
    (l__law_whole : K.lookup f__law_whole = some ⟨oc__law_whole, od__law_whole, .func (PySem.W.fnOf "_law_whole" "_law_whole" (defArgs s_law_whole) (defBody s_law_whole) (defScope s_law_whole) .none kV__law_whole dc__law_whole pm__law_whole an__law_whole cd__law_whole ct__law_whole), sl__law_whole⟩)
    (c__law_whole : PySem.W.codeIn K cd__law_whole "_law_whole" = true) (k__law_whole : PySem.W.keepIn K (.ref f__law_whole) = true)
    {od_is_whole an_is_whole : Option Addr} {sl_is_whole : Array (Option Value)} {oc_is_whole kV_is_whole dc_is_whole pm_is_whole cd_is_whole ct_is_whole : Value}
    (a_is_whole : PySem.W.nsIn K mainGlobals "is_whole" = some (some (.ref f_is_whole)))
    (l_is_whole : K.lookup f_is_whole = some ⟨oc_is_whole, od_is_whole, .func (PySem.W.fnOf "is_whole" "is_whole" (defArgs sis_whole) (defBody sis_whole) (defScope sis_whole) .none kV_is_whole dc_is_whole pm_is_whole an_is_whole cd_is_whole ct_is_whole), sl_is_whole⟩)
    (c_is_whole : PySem.W.codeIn K cd_is_whole "is_whole" = true) (k_is_whole : PySem.W.keepIn K (.ref f_is_whole) = true)
    {od_check_hill an_check_hill : Option Addr} {sl_check_hill : Array (Option Value)} {oc_check_hill kV_check_hill dc_check_hill pm_check_hill cd_check_hill ct_check_hill : Value}
    (a_check_hill : PySem.W.nsIn K mainGlobals "check_hill" = some (some (.ref f_check_hill)))
    (l_check_hill : K.lookup f_check_hill = some ⟨oc_check_hill, od_check_hill, .func (PySem.W.fnOf "check_hill" "check_hill" (defArgs scheck_hill) (defBody scheck_hill) (defScope scheck_hill) .none kV_check_hill dc_check_hill pm_check_hill an_check_hill cd_check_hill ct_check_hill), sl_check_hill⟩)
    (c_check_hill : PySem.W.codeIn K cd_check_hill "check_hill" = true) (k_check_hill : PySem.W.keepIn K (.ref f_check_hill) = true)
    {od_slope an_slope : Option Addr} {sl_slope : Array (Option Value)} {oc_slope kV_slope dc_slope pm_slope cd_slope ct_slope : Value}
    (a_slope : PySem.W.nsIn K mainGlobals "slope" = some (some (.ref f_slope)))
    (l_slope : K.lookup f_slope = some ⟨oc_slope, od_slope, .func (PySem.W.fnOf "slope" "slope" (defArgs sslope) (defBody sslope) (defScope sslope) .none kV_slope dc_slope pm_slope an_slope cd_slope ct_slope), sl_slope⟩)
    (c_slope : PySem.W.codeIn K cd_slope "slope" = true) (k_slope : PySem.W.keepIn K (.ref f_slope) = true)
    {od_steeper an_steeper : Option Addr} {sl_steeper : Array (Option Value)} {oc_steeper kV_steeper dc_steeper pm_steeper cd_steeper ct_steeper : Value}
    (a_steeper : PySem.W.nsIn K mainGlobals "steeper" = some (some (.ref f_steeper)))
    (l_steeper : K.lookup f_steeper = some ⟨oc_steeper, od_steeper, .func (PySem.W.fnOf "steeper" "steeper" (defArgs ssteeper) (defBody ssteeper) (defScope ssteeper) .none kV_steeper dc_steeper pm_steeper an_steeper cd_steeper ct_steeper), sl_steeper⟩)
    (c_steeper : PySem.W.codeIn K cd_steeper "steeper" = true) (k_steeper : PySem.W.keepIn K (.ref f_steeper) = true)
    {od__seen_ahead an__seen_ahead : Option Addr} {sl__seen_ahead : Array (Option Value)} {oc__seen_ahead kV__seen_ahead dc__seen_ahead pm__seen_ahead cd__seen_ahead ct__seen_ahead : Value}
    (a__seen_ahead : PySem.W.nsIn K mainGlobals "_seen_ahead" = some (some (.ref f__seen_ahead)))
    (l__seen_ahead : K.lookup f__seen_ahead = some ⟨oc__seen_ahead, od__seen_ahead, .func (PySem.W.fnOf "_seen_ahead" "_seen_ahead" (defArgs s_seen_ahead) (defBody s_seen_ahead) (defScope s_seen_ahead) .none kV__seen_ahead dc__seen_ahead pm__seen_ahead an__seen_ahead cd__seen_ahead ct__seen_ahead), sl__seen_ahead⟩)
    (c__seen_ahead : PySem.W.codeIn K cd__seen_ahead "_seen_ahead" = true) (k__seen_ahead : PySem.W.keepIn K (.ref f__seen_ahead) = true)
    {od_sights an_sights : Option Addr} {sl_sights : Array (Option Value)} {oc_sights kV_sights dc_sights pm_sights cd_sights ct_sights : Value}
    (a_sights : PySem.W.nsIn K mainGlobals "sights" = some (some (.ref f_sights)))
    (l_sights : K.lookup f_sights = some ⟨oc_sights, od_sights, .func (PySem.W.fnOf "sights" "sights" (defArgs ssights) (defBody ssights) (defScope ssights) .none kV_sights dc_sights pm_sights an_sights cd_sights ct_sights), sl_sights⟩)
    (c_sights : PySem.W.codeIn K cd_sights "sights" = true) (k_sights : PySem.W.keepIn K (.ref f_sights) = true)
    {od__is_in_bound an__is_in_bound : Option Addr} {sl__is_in_bound : Array (Option Value)} {oc__is_in_bound kV__is_in_bound dc__is_in_bound pm__is_in_bound cd__is_in_bound ct__is_in_bound : Value}
    (a__is_in_bound : PySem.W.nsIn K mainGlobals "_is_in_bound" = some (some (.ref f__is_in_bound)))
    (l__is_in_bound : K.lookup f__is_in_bound = some ⟨oc__is_in_bound, od__is_in_bound, .func (PySem.W.fnOf "_is_in_bound" "_is_in_bound" (defArgs s_is_in_bound) (defBody s_is_in_bound) (defScope s_is_in_bound) .none kV__is_in_bound dc__is_in_bound pm__is_in_bound an__is_in_bound cd__is_in_bound ct__is_in_bound), sl__is_in_bound⟩)
    (c__is_in_bound : PySem.W.codeIn K cd__is_in_bound "_is_in_bound" = true) (k__is_in_bound : PySem.W.keepIn K (.ref f__is_in_bound) = true)
    {od_checked an_checked : Option Addr} {sl_checked : Array (Option Value)} {oc_checked kV_checked dc_checked pm_checked cd_checked ct_checked : Value}
    (a_checked : PySem.W.nsIn K mainGlobals "checked" = some (some (.ref f_checked)))
    (l_checked : K.lookup f_checked = some ⟨oc_checked, od_checked, .func (PySem.W.fnOf "checked" "checked" (defArgs schecked) (defBody schecked) (defScope schecked) .none kV_checked dc_checked pm_checked an_checked cd_checked ct_checked), sl_checked⟩)
    (c_checked : PySem.W.codeIn K cd_checked "checked" = true) (k_checked : PySem.W.keepIn K (.ref f_checked) = true)
    {od__without an__without : Option Addr} {sl__without : Array (Option Value)} {oc__without kV__without dc__without pm__without cd__without ct__without : Value}
    (a__without : PySem.W.nsIn K mainGlobals "_without" = some (some (.ref f__without)))
    (l__without : K.lookup f__without = some ⟨oc__without, od__without, .func (PySem.W.fnOf "_without" "_without" (defArgs s_without) (defBody s_without) (defScope s_without) .none kV__without dc__without pm__without an__without cd__without ct__without), sl__without⟩)
    (c__without : PySem.W.codeIn K cd__without "_without" = true) (k__without : PySem.W.keepIn K (.ref f__without) = true)
    {od___init__ an___init__ : Option Addr} {sl___init__ : Array (Option Value)} {oc___init__ kV___init__ dc___init__ pm___init__ cd___init__ ct___init__ : Value}
    (a___init__ : PySem.W.findIn K (.ref N_Land) "__init__" = some (some (.ref f___init__)))
    (l___init__ : K.lookup f___init__ = some ⟨oc___init__, od___init__, .func (PySem.W.fnOf "__init__" "Land.__init__" (defArgs s__init__) (defBody s__init__) (defScope s__init__) .none kV___init__ dc___init__ pm___init__ an___init__ cd___init__ ct___init__), sl___init__⟩)
    (c___init__ : PySem.W.codeIn K cd___init__ "Land.__init__" = true) (k___init__ : PySem.W.keepIn K (.ref f___init__) = true)
    {od_told an_told : Option Addr} {sl_told : Array (Option Value)} {oc_told kV_told dc_told pm_told cd_told ct_told : Value}
    (a_told : PySem.W.findIn K (.ref N_Land) "told" = some (some (.ref f_told)))
    (l_told : K.lookup f_told = some ⟨oc_told, od_told, .func (PySem.W.fnOf "told" "Land.told" (defArgs stold) (defBody stold) (defScope stold) .none kV_told dc_told pm_told an_told cd_told ct_told), sl_told⟩)
    (c_told : PySem.W.codeIn K cd_told "Land.told" = true) (k_told : PySem.W.keepIn K (.ref f_told) = true)
    {od_seen an_seen : Option Addr} {sl_seen : Array (Option Value)} {oc_seen kV_seen dc_seen pm_seen cd_seen ct_seen : Value}
    (a_seen : PySem.W.findIn K (.ref N_Land) "seen" = some (some (.ref f_seen)))
    (l_seen : K.lookup f_seen = some ⟨oc_seen, od_seen, .func (PySem.W.fnOf "seen" "Land.seen" (defArgs sseen) (defBody sseen) (defScope sseen) .none kV_seen dc_seen pm_seen an_seen cd_seen ct_seen), sl_seen⟩)
    (c_seen : PySem.W.codeIn K cd_seen "Land.seen" = true) (k_seen : PySem.W.keepIn K (.ref f_seen) = true)
    {od__moved an__moved : Option Addr} {sl__moved : Array (Option Value)} {oc__moved kV__moved dc__moved pm__moved cd__moved ct__moved : Value}
    (a__moved : PySem.W.findIn K (.ref N_Land) "_moved" = some (some (.ref f__moved)))
    (l__moved : K.lookup f__moved = some ⟨oc__moved, od__moved, .func (PySem.W.fnOf "_moved" "Land._moved" (defArgs s_moved) (defBody s_moved) (defScope s_moved) .none kV__moved dc__moved pm__moved an__moved cd__moved ct__moved), sl__moved⟩)
    (c__moved : PySem.W.codeIn K cd__moved "Land._moved" = true) (k__moved : PySem.W.keepIn K (.ref f__moved) = true)
    {od_lift an_lift : Option Addr} {sl_lift : Array (Option Value)} {oc_lift kV_lift dc_lift pm_lift cd_lift ct_lift : Value}
    (a_lift : PySem.W.findIn K (.ref N_Land) "lift" = some (some (.ref f_lift)))
    (l_lift : K.lookup f_lift = some ⟨oc_lift, od_lift, .func (PySem.W.fnOf "lift" "Land.lift" (defArgs slift) (defBody slift) (defScope slift) .none kV_lift dc_lift pm_lift an_lift cd_lift ct_lift), sl_lift⟩)
    (c_lift : PySem.W.codeIn K cd_lift "Land.lift" = true) (k_lift : PySem.W.keepIn K (.ref f_lift) = true)
    {od_back an_back : Option Addr} {sl_back : Array (Option Value)} {oc_back kV_back dc_back pm_back cd_back ct_back : Value}
    (a_back : PySem.W.findIn K (.ref N_Land) "back" = some (some (.ref f_back)))
    (l_back : K.lookup f_back = some ⟨oc_back, od_back, .func (PySem.W.fnOf "back" "Land.back" (defArgs sback) (defBody sback) (defScope sback) .none kV_back dc_back pm_back an_back cd_back ct_back), sl_back⟩)
    (c_back : PySem.W.codeIn K cd_back "Land.back" = true) (k_back : PySem.W.keepIn K (.ref f_back) = true)
    {od__law_sole an__law_sole : Option Addr} {sl__law_sole : Array (Option Value)} {oc__law_sole kV__law_sole dc__law_sole pm__law_sole cd__law_sole ct__law_sole : Value}
    (a__law_sole : PySem.W.nsIn K mainGlobals "_law_sole" = some (some (.ref f__law_sole)))
    (l__law_sole : K.lookup f__law_sole = some ⟨oc__law_sole, od__law_sole, .func (PySem.W.fnOf "_law_sole" "_law_sole" (defArgs s_law_sole) (defBody s_law_sole) (defScope s_law_sole) .none kV__law_sole dc__law_sole pm__law_sole an__law_sole cd__law_sole ct__law_sole), sl__law_sole⟩)
    (c__law_sole : PySem.W.codeIn K cd__law_sole "_law_sole" = true) (k__law_sole : PySem.W.keepIn K (.ref f__law_sole) = true)
    {od__law_base an__law_base : Option Addr} {sl__law_base : Array (Option Value)} {oc__law_base kV__law_base dc__law_base pm__law_base cd__law_base ct__law_base : Value}
    (a__law_base : PySem.W.nsIn K mainGlobals "_law_base" = some (some (.ref f__law_base)))
    (l__law_base : K.lookup f__law_base = some ⟨oc__law_base, od__law_base, .func (PySem.W.fnOf "_law_base" "_law_base" (defArgs s_law_base) (defBody s_law_base) (defScope s_law_base) .none kV__law_base dc__law_base pm__law_base an__law_base cd__law_base ct__law_base), sl__law_base⟩)
    (c__law_base : PySem.W.codeIn K cd__law_base "_law_base" = true) (k__law_base : PySem.W.keepIn K (.ref f__law_base) = true)
    {od__law_told an__law_told : Option Addr} {sl__law_told : Array (Option Value)} {oc__law_told kV__law_told dc__law_told pm__law_told cd__law_told ct__law_told : Value}
    (a__law_told : PySem.W.nsIn K mainGlobals "_law_told" = some (some (.ref f__law_told)))
    (l__law_told : K.lookup f__law_told = some ⟨oc__law_told, od__law_told, .func (PySem.W.fnOf "_law_told" "_law_told" (defArgs s_law_told) (defBody s_law_told) (defScope s_law_told) .none kV__law_told dc__law_told pm__law_told an__law_told cd__law_told ct__law_told), sl__law_told⟩)
    (c__law_told : PySem.W.codeIn K cd__law_told "_law_told" = true) (k__law_told : PySem.W.keepIn K (.ref f__law_told) = true)
    {od__law_sights_by an__law_sights_by : Option Addr} {sl__law_sights_by : Array (Option Value)} {oc__law_sights_by kV__law_sights_by dc__law_sights_by pm__law_sights_by cd__law_sights_by ct__law_sights_by : Value}
    (a__law_sights_by : PySem.W.nsIn K mainGlobals "_law_sights_by" = some (some (.ref f__law_sights_by)))
    (l__law_sights_by : K.lookup f__law_sights_by = some ⟨oc__law_sights_by, od__law_sights_by, .func (PySem.W.fnOf "_law_sights_by" "_law_sights_by" (defArgs s_law_sights_by) (defBody s_law_sights_by) (defScope s_law_sights_by) .none kV__law_sights_by dc__law_sights_by pm__law_sights_by an__law_sights_by cd__law_sights_by ct__law_sights_by), sl__law_sights_by⟩)
    (c__law_sights_by : PySem.W.codeIn K cd__law_sights_by "_law_sights_by" = true) (k__law_sights_by : PySem.W.keepIn K (.ref f__law_sights_by) = true)
    {od__law_lacking an__law_lacking : Option Addr} {sl__law_lacking : Array (Option Value)} {oc__law_lacking kV__law_lacking dc__law_lacking pm__law_lacking cd__law_lacking ct__law_lacking : Value}
    (a__law_lacking : PySem.W.nsIn K mainGlobals "_law_lacking" = some (some (.ref f__law_lacking)))
    (l__law_lacking : K.lookup f__law_lacking = some ⟨oc__law_lacking, od__law_lacking, .func (PySem.W.fnOf "_law_lacking" "_law_lacking" (defArgs s_law_lacking) (defBody s_law_lacking) (defScope s_law_lacking) .none kV__law_lacking dc__law_lacking pm__law_lacking an__law_lacking cd__law_lacking ct__law_lacking), sl__law_lacking⟩)
    (c__law_lacking : PySem.W.codeIn K cd__law_lacking "_law_lacking" = true) (k__law_lacking : PySem.W.keepIn K (.ref f__law_lacking) = true)
    {od__law_due_by an__law_due_by : Option Addr} {sl__law_due_by : Array (Option Value)} {oc__law_due_by kV__law_due_by dc__law_due_by pm__law_due_by cd__law_due_by ct__law_due_by : Value}
    (a__law_due_by : PySem.W.nsIn K mainGlobals "_law_due_by" = some (some (.ref f__law_due_by)))
    (l__law_due_by : K.lookup f__law_due_by = some ⟨oc__law_due_by, od__law_due_by, .func (PySem.W.fnOf "_law_due_by" "_law_due_by" (defArgs s_law_due_by) (defBody s_law_due_by) (defScope s_law_due_by) .none kV__law_due_by dc__law_due_by pm__law_due_by an__law_due_by cd__law_due_by ct__law_due_by), sl__law_due_by⟩)
    (c__law_due_by : PySem.W.codeIn K cd__law_due_by "_law_due_by" = true) (k__law_due_by : PySem.W.keepIn K (.ref f__law_due_by) = true)
    {od__law_deed_by an__law_deed_by : Option Addr} {sl__law_deed_by : Array (Option Value)} {oc__law_deed_by kV__law_deed_by dc__law_deed_by pm__law_deed_by cd__law_deed_by ct__law_deed_by : Value}
    (a__law_deed_by : PySem.W.nsIn K mainGlobals "_law_deed_by" = some (some (.ref f__law_deed_by)))
    (l__law_deed_by : K.lookup f__law_deed_by = some ⟨oc__law_deed_by, od__law_deed_by, .func (PySem.W.fnOf "_law_deed_by" "_law_deed_by" (defArgs s_law_deed_by) (defBody s_law_deed_by) (defScope s_law_deed_by) .none kV__law_deed_by dc__law_deed_by pm__law_deed_by an__law_deed_by cd__law_deed_by ct__law_deed_by), sl__law_deed_by⟩)
    (c__law_deed_by : PySem.W.codeIn K cd__law_deed_by "_law_deed_by" = true) (k__law_deed_by : PySem.W.keepIn K (.ref f__law_deed_by) = true)
    {od__law_alike an__law_alike : Option Addr} {sl__law_alike : Array (Option Value)} {oc__law_alike kV__law_alike dc__law_alike pm__law_alike cd__law_alike ct__law_alike : Value}
    (a__law_alike : PySem.W.nsIn K mainGlobals "_law_alike" = some (some (.ref f__law_alike)))
    (l__law_alike : K.lookup f__law_alike = some ⟨oc__law_alike, od__law_alike, .func (PySem.W.fnOf "_law_alike" "_law_alike" (defArgs s_law_alike) (defBody s_law_alike) (defScope s_law_alike) .none kV__law_alike dc__law_alike pm__law_alike an__law_alike cd__law_alike ct__law_alike), sl__law_alike⟩)
    (c__law_alike : PySem.W.codeIn K cd__law_alike "_law_alike" = true) (k__law_alike : PySem.W.keepIn K (.ref f__law_alike) = true)
    {od__law_stands an__law_stands : Option Addr} {sl__law_stands : Array (Option Value)} {oc__law_stands kV__law_stands dc__law_stands pm__law_stands cd__law_stands ct__law_stands : Value}
    (a__law_stands : PySem.W.nsIn K mainGlobals "_law_stands" = some (some (.ref f__law_stands)))
    (l__law_stands : K.lookup f__law_stands = some ⟨oc__law_stands, od__law_stands, .func (PySem.W.fnOf "_law_stands" "_law_stands" (defArgs s_law_stands) (defBody s_law_stands) (defScope s_law_stands) .none kV__law_stands dc__law_stands pm__law_stands an__law_stands cd__law_stands ct__law_stands), sl__law_stands⟩)
    (c__law_stands : PySem.W.codeIn K cd__law_stands "_law_stands" = true) (k__law_stands : PySem.W.keepIn K (.ref f__law_stands) = true)
    {od__law_kept an__law_kept : Option Addr} {sl__law_kept : Array (Option Value)} {oc__law_kept kV__law_kept dc__law_kept pm__law_kept cd__law_kept ct__law_kept : Value}
    (a__law_kept : PySem.W.nsIn K mainGlobals "_law_kept" = some (some (.ref f__law_kept)))
    (l__law_kept : K.lookup f__law_kept = some ⟨oc__law_kept, od__law_kept, .func (PySem.W.fnOf "_law_kept" "_law_kept" (defArgs s_law_kept) (defBody s_law_kept) (defScope s_law_kept) .none kV__law_kept dc__law_kept pm__law_kept an__law_kept cd__law_kept ct__law_kept), sl__law_kept⟩)
    (c__law_kept : PySem.W.codeIn K cd__law_kept "_law_kept" = true) (k__law_kept : PySem.W.keepIn K (.ref f__law_kept) = true)
    {od__law_lifted an__law_lifted : Option Addr} {sl__law_lifted : Array (Option Value)} {oc__law_lifted kV__law_lifted dc__law_lifted pm__law_lifted cd__law_lifted ct__law_lifted : Value}
    (a__law_lifted : PySem.W.nsIn K mainGlobals "_law_lifted" = some (some (.ref f__law_lifted)))
    (l__law_lifted : K.lookup f__law_lifted = some ⟨oc__law_lifted, od__law_lifted, .func (PySem.W.fnOf "_law_lifted" "_law_lifted" (defArgs s_law_lifted) (defBody s_law_lifted) (defScope s_law_lifted) .none kV__law_lifted dc__law_lifted pm__law_lifted an__law_lifted cd__law_lifted ct__law_lifted), sl__law_lifted⟩)
    (c__law_lifted : PySem.W.codeIn K cd__law_lifted "_law_lifted" = true) (k__law_lifted : PySem.W.keepIn K (.ref f__law_lifted) = true)
    {od__law_all_back an__law_all_back : Option Addr} {sl__law_all_back : Array (Option Value)} {oc__law_all_back kV__law_all_back dc__law_all_back pm__law_all_back cd__law_all_back ct__law_all_back : Value}
    (a__law_all_back : PySem.W.nsIn K mainGlobals "_law_all_back" = some (some (.ref f__law_all_back)))
    (l__law_all_back : K.lookup f__law_all_back = some ⟨oc__law_all_back, od__law_all_back, .func (PySem.W.fnOf "_law_all_back" "_law_all_back" (defArgs s_law_all_back) (defBody s_law_all_back) (defScope s_law_all_back) .none kV__law_all_back dc__law_all_back pm__law_all_back an__law_all_back cd__law_all_back ct__law_all_back), sl__law_all_back⟩)
    (c__law_all_back : PySem.W.codeIn K cd__law_all_back "_law_all_back" = true) (k__law_all_back : PySem.W.keepIn K (.ref f__law_all_back) = true)
    {od__law_goes an__law_goes : Option Addr} {sl__law_goes : Array (Option Value)} {oc__law_goes kV__law_goes dc__law_goes pm__law_goes cd__law_goes ct__law_goes : Value}
    (a__law_goes : PySem.W.nsIn K mainGlobals "_law_goes" = some (some (.ref f__law_goes)))
    (l__law_goes : K.lookup f__law_goes = some ⟨oc__law_goes, od__law_goes, .func (PySem.W.fnOf "_law_goes" "_law_goes" (defArgs s_law_goes) (defBody s_law_goes) (defScope s_law_goes) .none kV__law_goes dc__law_goes pm__law_goes an__law_goes cd__law_goes ct__law_goes), sl__law_goes⟩)
    (c__law_goes : PySem.W.codeIn K cd__law_goes "_law_goes" = true) (k__law_goes : PySem.W.keepIn K (.ref f__law_goes) = true)
    {od__law_done an__law_done : Option Addr} {sl__law_done : Array (Option Value)} {oc__law_done kV__law_done dc__law_done pm__law_done cd__law_done ct__law_done : Value}
    (a__law_done : PySem.W.nsIn K mainGlobals "_law_done" = some (some (.ref f__law_done)))
    (l__law_done : K.lookup f__law_done = some ⟨oc__law_done, od__law_done, .func (PySem.W.fnOf "_law_done" "_law_done" (defArgs s_law_done) (defBody s_law_done) (defScope s_law_done) .none kV__law_done dc__law_done pm__law_done an__law_done cd__law_done ct__law_done), sl__law_done⟩)
    (c__law_done : PySem.W.codeIn K cd__law_done "_law_done" = true) (k__law_done : PySem.W.keepIn K (.ref f__law_done) = true)
    {od_law an_law : Option Addr} {sl_law : Array (Option Value)} {oc_law kV_law dc_law pm_law cd_law ct_law : Value}
    (a_law : PySem.W.nsIn K mainGlobals "law" = some (some (.ref f_law)))
    (l_law : K.lookup f_law = some ⟨oc_law, od_law, .func (PySem.W.fnOf "law" "law" (defArgs slaw) (defBody slaw) (defScope slaw) .none kV_law dc_law pm_law an_law cd_law ct_law), sl_law⟩)
    (c_law : PySem.W.codeIn K cd_law "law" = true) (k_law : PySem.W.keepIn K (.ref f_law) = true)
    (z_len : PySem.W.nsIn K mainGlobals "len" = some none)
    (z_range : PySem.W.nsIn K mainGlobals "range" = some none)
    (z_isinstance : PySem.W.nsIn K mainGlobals "isinstance" = some none)
    (z_int : PySem.W.nsIn K mainGlobals "int" = some none)
    (z_bool : PySem.W.nsIn K mainGlobals "bool" = some none)
    (z_list : PySem.W.nsIn K mainGlobals "list" = some none)
    (z_tuple : PySem.W.nsIn K mainGlobals "tuple" = some none)
    (z_min : PySem.W.nsIn K mainGlobals "min" = some none)
    (z_max : PySem.W.nsIn K mainGlobals "max" = some none)
    (z_all : PySem.W.nsIn K mainGlobals "all" = some none)
    (z_sorted : PySem.W.nsIn K mainGlobals "sorted" = some none)
    (z_zip : PySem.W.nsIn K mainGlobals "zip" = some none)
    (z_abs : PySem.W.nsIn K mainGlobals "abs" = some none)
    (z_any : PySem.W.nsIn K mainGlobals "any" = some none)
    (z_set : PySem.W.nsIn K mainGlobals "set" = some none)
    (z_str : PySem.W.nsIn K mainGlobals "str" = some none)
    (z_ValueError : PySem.W.nsIn K mainGlobals "ValueError" = some none)
    (g_HillError : PySem.W.nsIn K mainGlobals "HillError" = some (some (.ref N_HillError)))
    (x_HillError : PySem.W.excIn K N_HillError [.type "ValueError", .type "Exception", .type "BaseException", .type "object"] "ValueError.__new__" = true)
    (k_HillError : PySem.W.keepIn K (.ref N_HillError) = true)
    (b_HillError : PySem.W.subIn K (.ref N_HillError) (.type "BaseException") = some true)
    (t_HillError : PySem.W.typeIn K (.ref N_HillError) = some (.type "type"))
    (d_HillError : PySem.W.hasDictIn K N_HillError = true)
    (s_HillError : PySem.W.subIn K (.ref N_HillError) (.ref N_HillError) = some true)
    (g_NoLand : PySem.W.nsIn K mainGlobals "NoLand" = some (some (.ref N_NoLand)))
    (x_NoLand : PySem.W.excIn K N_NoLand [.type "ValueError", .type "Exception", .type "BaseException", .type "object"] "ValueError.__new__" = true)
    (k_NoLand : PySem.W.keepIn K (.ref N_NoLand) = true)
    (b_NoLand : PySem.W.subIn K (.ref N_NoLand) (.type "BaseException") = some true)
    (t_NoLand : PySem.W.typeIn K (.ref N_NoLand) = some (.type "type"))
    (d_NoLand : PySem.W.hasDictIn K N_NoLand = true)
    (s_NoLand : PySem.W.subIn K (.ref N_NoLand) (.ref N_NoLand) = some true)
    (g_NoHill : PySem.W.nsIn K mainGlobals "NoHill" = some (some (.ref N_NoHill)))
    (x_NoHill : PySem.W.excIn K N_NoHill [.type "ValueError", .type "Exception", .type "BaseException", .type "object"] "ValueError.__new__" = true)
    (k_NoHill : PySem.W.keepIn K (.ref N_NoHill) = true)
    (b_NoHill : PySem.W.subIn K (.ref N_NoHill) (.type "BaseException") = some true)
    (t_NoHill : PySem.W.typeIn K (.ref N_NoHill) = some (.type "type"))
    (d_NoHill : PySem.W.hasDictIn K N_NoHill = true)
    (s_NoHill : PySem.W.subIn K (.ref N_NoHill) (.ref N_NoHill) = some true)
    (g_SameHill : PySem.W.nsIn K mainGlobals "SameHill" = some (some (.ref N_SameHill)))
    (x_SameHill : PySem.W.excIn K N_SameHill [.type "ValueError", .type "Exception", .type "BaseException", .type "object"] "ValueError.__new__" = true)
    (k_SameHill : PySem.W.keepIn K (.ref N_SameHill) = true)
    (b_SameHill : PySem.W.subIn K (.ref N_SameHill) (.type "BaseException") = some true)
    (t_SameHill : PySem.W.typeIn K (.ref N_SameHill) = some (.type "type"))
    (d_SameHill : PySem.W.hasDictIn K N_SameHill = true)
    (s_SameHill : PySem.W.subIn K (.ref N_SameHill) (.ref N_SameHill) = some true)
    (g_TooHigh : PySem.W.nsIn K mainGlobals "TooHigh" = some (some (.ref N_TooHigh)))
    (x_TooHigh : PySem.W.excIn K N_TooHigh [.type "ValueError", .type "Exception", .type "BaseException", .type "object"] "ValueError.__new__" = true)
    (k_TooHigh : PySem.W.keepIn K (.ref N_TooHigh) = true)
    (b_TooHigh : PySem.W.subIn K (.ref N_TooHigh) (.type "BaseException") = some true)
    (t_TooHigh : PySem.W.typeIn K (.ref N_TooHigh) = some (.type "type"))
    (d_TooHigh : PySem.W.hasDictIn K N_TooHigh = true)
    (s_TooHigh : PySem.W.subIn K (.ref N_TooHigh) (.ref N_TooHigh) = some true)
    (g_NothingDone : PySem.W.nsIn K mainGlobals "NothingDone" = some (some (.ref N_NothingDone)))
    (x_NothingDone : PySem.W.excIn K N_NothingDone [.type "ValueError", .type "Exception", .type "BaseException", .type "object"] "ValueError.__new__" = true)
    (k_NothingDone : PySem.W.keepIn K (.ref N_NothingDone) = true)
    (b_NothingDone : PySem.W.subIn K (.ref N_NothingDone) (.type "BaseException") = some true)
    (t_NothingDone : PySem.W.typeIn K (.ref N_NothingDone) = some (.type "type"))
    (d_NothingDone : PySem.W.hasDictIn K N_NothingDone = true)
    (s_NothingDone : PySem.W.subIn K (.ref N_NothingDone) (.ref N_NothingDone) = some true)
    (hg_NoHill : PySem.W.findIn K (.ref N_NoHill) "__getattribute__" = some (some (.builtin "BaseException.__getattribute__")))
    (hk_NoHill : PySem.W.findIn K (.ref N_NoHill) "__getattr__" = some none)
    (ha_NoHill : PySem.W.findIn K (.ref N_NoHill) "__class__" = some (some (.builtin "object.__class__")))
    (hm_NoHill : PySem.W.mroIn K N_NoHill (.type "object") = some true)
    (kv_NoHill : PySem.W.subIn K (.ref N_NoHill) (.type "ValueError") = some true)
    (kc_NoHill_NoLand : PySem.W.subIn K (.ref N_NoHill) (.ref N_NoLand) = some false)
    (kc_NoHill_SameHill : PySem.W.subIn K (.ref N_NoHill) (.ref N_SameHill) = some false)
    (kc_NoHill_TooHigh : PySem.W.subIn K (.ref N_NoHill) (.ref N_TooHigh) = some false)
    (kc_NoHill_NothingDone : PySem.W.subIn K (.ref N_NoHill) (.ref N_NothingDone) = some false)
    (kc_NoHill_HillError : PySem.W.subIn K (.ref N_NoHill) (.ref N_HillError) = some true)
    (hg_TooHigh : PySem.W.findIn K (.ref N_TooHigh) "__getattribute__" = some (some (.builtin "BaseException.__getattribute__")))
    (hk_TooHigh : PySem.W.findIn K (.ref N_TooHigh) "__getattr__" = some none)
    (ha_TooHigh : PySem.W.findIn K (.ref N_TooHigh) "__class__" = some (some (.builtin "object.__class__")))
    (hm_TooHigh : PySem.W.mroIn K N_TooHigh (.type "object") = some true)
    (kv_TooHigh : PySem.W.subIn K (.ref N_TooHigh) (.type "ValueError") = some true)
    (kc_TooHigh_NoLand : PySem.W.subIn K (.ref N_TooHigh) (.ref N_NoLand) = some false)
    (kc_TooHigh_NoHill : PySem.W.subIn K (.ref N_TooHigh) (.ref N_NoHill) = some false)
    (kc_TooHigh_SameHill : PySem.W.subIn K (.ref N_TooHigh) (.ref N_SameHill) = some false)
    (kc_TooHigh_NothingDone : PySem.W.subIn K (.ref N_TooHigh) (.ref N_NothingDone) = some false)
    (kc_TooHigh_HillError : PySem.W.subIn K (.ref N_TooHigh) (.ref N_HillError) = some true)
    (hg_NothingDone : PySem.W.findIn K (.ref N_NothingDone) "__getattribute__" = some (some (.builtin "BaseException.__getattribute__")))
    (hk_NothingDone : PySem.W.findIn K (.ref N_NothingDone) "__getattr__" = some none)
    (ha_NothingDone : PySem.W.findIn K (.ref N_NothingDone) "__class__" = some (some (.builtin "object.__class__")))
    (hm_NothingDone : PySem.W.mroIn K N_NothingDone (.type "object") = some true)
    (kv_NothingDone : PySem.W.subIn K (.ref N_NothingDone) (.type "ValueError") = some true)
    (kc_NothingDone_NoLand : PySem.W.subIn K (.ref N_NothingDone) (.ref N_NoLand) = some false)
    (kc_NothingDone_NoHill : PySem.W.subIn K (.ref N_NothingDone) (.ref N_NoHill) = some false)
    (kc_NothingDone_SameHill : PySem.W.subIn K (.ref N_NothingDone) (.ref N_SameHill) = some false)
    (kc_NothingDone_TooHigh : PySem.W.subIn K (.ref N_NothingDone) (.ref N_TooHigh) = some false)
    (kc_NothingDone_HillError : PySem.W.subIn K (.ref N_NothingDone) (.ref N_HillError) = some true)
    (hn_cls : PySem.W.specialIn K (.builtin "object.__class__") "__get__" = some (some (.builtin "getset_descriptor.__get__")))
    (ht_cls : PySem.W.takesIn K (.builtin "object.__class__") = some true)
    (gc_BOUND : PySem.W.nsIn K mainGlobals "BOUND" = some (some (.int 1000000000000000000 t_BOUND)))
    (gc_MOST_HILLS : PySem.W.nsIn K mainGlobals "MOST_HILLS" = some (some (.int 200 t_MOST_HILLS)))
    (cpg : PySem.W.plainGet K N_Land Str.empty = true)
    (chd : PySem.W.hasDictIn K N_Land = true)
    (cpo : PySem.W.plainOver K N_Land = true)
    (csa : PySem.W.findIn K (.ref N_Land) "__setattr__" = some (some (.builtin "object.__setattr__")))
    (cmk : PySem.W.makesIn K N_Land = true)
    (ckc : PySem.W.keepIn K (.ref N_Land) = true)
    (n__heights : PySem.W.findIn K (.ref N_Land) "_heights" = some none)
    (n__lifts : PySem.W.findIn K (.ref N_Land) "_lifts" = some none)
    (i___init__ : PySem.W.isFn K (.ref f___init__) = true)
    (i_told : PySem.W.isFn K (.ref f_told) = true)
    (i_seen : PySem.W.isFn K (.ref f_seen) = true)
    (i__moved : PySem.W.isFn K (.ref f__moved) = true)
    (i_lift : PySem.W.isFn K (.ref f_lift) = true)
    (i_back : PySem.W.isFn K (.ref f_back) = true)
    : ∃ fd : FuncData, (∀ (s : Shared) (v : Value), BindsTo s fd ⟨[v], []⟩ [("_law_script", v)]) ∧ ∀ base : Heap, K.In base → base.Ns mainGlobals mg → FnOk l.prog w K mg base CX0 9 fa fd ["_law_script"] (spLaw K) := by
  have e := hfa.symm.trans (PySem.W.mg_of X G a_law)
  cases e
  have F__law_cell_at := fun_mk (st := s_law_cell_at) l__law_cell_at c__law_cell_at k__law_cell_at
  have F__law_whole := fun_mk (st := s_law_whole) l__law_whole c__law_whole k__law_whole
  have F_is_whole := fun_mk (st := sis_whole) l_is_whole c_is_whole k_is_whole
  have F_check_hill := fun_mk (st := scheck_hill) l_check_hill c_check_hill k_check_hill
  have F_slope := fun_mk (st := sslope) l_slope c_slope k_slope
  have F_steeper := fun_mk (st := ssteeper) l_steeper c_steeper k_steeper
  have F__seen_ahead := fun_mk (st := s_seen_ahead) l__seen_ahead c__seen_ahead k__seen_ahead
  have F_sights := fun_mk (st := ssights) l_sights c_sights k_sights
  have F__is_in_bound := fun_mk (st := s_is_in_bound) l__is_in_bound c__is_in_bound k__is_in_bound
  have F_checked := fun_mk (st := schecked) l_checked c_checked k_checked
  have F__without := fun_mk (st := s_without) l__without c__without k__without
  have F___init__ := fun_mk (st := s__init__) l___init__ c___init__ k___init__
  have F_told := fun_mk (st := stold) l_told c_told k_told
  have F_seen := fun_mk (st := sseen) l_seen c_seen k_seen
  have F__moved := fun_mk (st := s_moved) l__moved c__moved k__moved
  have F_lift := fun_mk (st := slift) l_lift c_lift k_lift
  have F_back := fun_mk (st := sback) l_back c_back k_back
  have F__law_sole := fun_mk (st := s_law_sole) l__law_sole c__law_sole k__law_sole
  have F__law_base := fun_mk (st := s_law_base) l__law_base c__law_base k__law_base
  have F__law_told := fun_mk (st := s_law_told) l__law_told c__law_told k__law_told
  have F__law_sights_by := fun_mk (st := s_law_sights_by) l__law_sights_by c__law_sights_by k__law_sights_by
  have F__law_lacking := fun_mk (st := s_law_lacking) l__law_lacking c__law_lacking k__law_lacking
  have F__law_due_by := fun_mk (st := s_law_due_by) l__law_due_by c__law_due_by k__law_due_by
  have F__law_deed_by := fun_mk (st := s_law_deed_by) l__law_deed_by c__law_deed_by k__law_deed_by
  have F__law_alike := fun_mk (st := s_law_alike) l__law_alike c__law_alike k__law_alike
  have F__law_stands := fun_mk (st := s_law_stands) l__law_stands c__law_stands k__law_stands
  have F__law_kept := fun_mk (st := s_law_kept) l__law_kept c__law_kept k__law_kept
  have F__law_lifted := fun_mk (st := s_law_lifted) l__law_lifted c__law_lifted k__law_lifted
  have F__law_all_back := fun_mk (st := s_law_all_back) l__law_all_back c__law_all_back k__law_all_back
  have F__law_goes := fun_mk (st := s_law_goes) l__law_goes c__law_goes k__law_goes
  have F__law_done := fun_mk (st := s_law_done) l__law_done c__law_done k__law_done
  have F_law := fun_mk (st := slaw) l_law c_law k_law
  have B : Blt mg := ⟨PySem.W.mg_none_of X G z_len, PySem.W.mg_none_of X G z_range, PySem.W.mg_none_of X G z_isinstance, PySem.W.mg_none_of X G z_int, PySem.W.mg_none_of X G z_bool, PySem.W.mg_none_of X G z_list, PySem.W.mg_none_of X G z_tuple, PySem.W.mg_none_of X G z_min, PySem.W.mg_none_of X G z_max, PySem.W.mg_none_of X G z_all, PySem.W.mg_none_of X G z_sorted, PySem.W.mg_none_of X G z_zip, PySem.W.mg_none_of X G z_abs, PySem.W.mg_none_of X G z_any, PySem.W.mg_none_of X G z_set, PySem.W.mg_none_of X G z_str, PySem.W.mg_none_of X G z_ValueError⟩
  refine ⟨PySem.W.fnOf "law" "law" (defArgs slaw) (defBody slaw) (defScope slaw) .none kV_law dc_law pm_law an_law cd_law ct_law, fun s v => .of_eq rfl, fun base _ _ => ?_⟩
  have X_HillError : ExK K mg "HillError" N_HillError := ⟨PySem.W.mg_of X G g_HillError, x_HillError, k_HillError, b_HillError, t_HillError, d_HillError, s_HillError⟩
  have X_NoLand : ExK K mg "NoLand" N_NoLand := ⟨PySem.W.mg_of X G g_NoLand, x_NoLand, k_NoLand, b_NoLand, t_NoLand, d_NoLand, s_NoLand⟩
  have X_NoHill : ExK K mg "NoHill" N_NoHill := ⟨PySem.W.mg_of X G g_NoHill, x_NoHill, k_NoHill, b_NoHill, t_NoHill, d_NoHill, s_NoHill⟩
  have X_SameHill : ExK K mg "SameHill" N_SameHill := ⟨PySem.W.mg_of X G g_SameHill, x_SameHill, k_SameHill, b_SameHill, t_SameHill, d_SameHill, s_SameHill⟩
  have X_TooHigh : ExK K mg "TooHigh" N_TooHigh := ⟨PySem.W.mg_of X G g_TooHigh, x_TooHigh, k_TooHigh, b_TooHigh, t_TooHigh, d_TooHigh, s_TooHigh⟩
  have X_NothingDone : ExK K mg "NothingDone" N_NothingDone := ⟨PySem.W.mg_of X G g_NothingDone, x_NothingDone, k_NothingDone, b_NothingDone, t_NothingDone, d_NothingDone, s_NothingDone⟩
  have sole_NoHill : SoleK K N_NoLand N_NoHill N_SameHill N_TooHigh N_NothingDone N_HillError N_NoHill := ⟨⟨hg_NoHill, hk_NoHill, b_NoHill, d_NoHill, ha_NoHill, hn_cls, ht_cls, hm_NoHill⟩, ⟨_, _, _, _, _, X_NoLand.kit kc_NoHill_NoLand, X_NoHill.kit X_NoHill.s, X_SameHill.kit kc_NoHill_SameHill, X_TooHigh.kit kc_NoHill_TooHigh, X_NothingDone.kit kc_NoHill_NothingDone, rfl⟩, X_HillError.kit kc_NoHill_HillError, kit_top (by decide +kernel) kv_NoHill⟩
  have sole_TooHigh : SoleK K N_NoLand N_NoHill N_SameHill N_TooHigh N_NothingDone N_HillError N_TooHigh := ⟨⟨hg_TooHigh, hk_TooHigh, b_TooHigh, d_TooHigh, ha_TooHigh, hn_cls, ht_cls, hm_TooHigh⟩, ⟨_, _, _, _, _, X_NoLand.kit kc_TooHigh_NoLand, X_NoHill.kit kc_TooHigh_NoHill, X_SameHill.kit kc_TooHigh_SameHill, X_TooHigh.kit X_TooHigh.s, X_NothingDone.kit kc_TooHigh_NothingDone, rfl⟩, X_HillError.kit kc_TooHigh_HillError, kit_top (by decide +kernel) kv_TooHigh⟩
  have sole_NothingDone : SoleK K N_NoLand N_NoHill N_SameHill N_TooHigh N_NothingDone N_HillError N_NothingDone := ⟨⟨hg_NothingDone, hk_NothingDone, b_NothingDone, d_NothingDone, ha_NothingDone, hn_cls, ht_cls, hm_NothingDone⟩, ⟨_, _, _, _, _, X_NoLand.kit kc_NothingDone_NoLand, X_NoHill.kit kc_NothingDone_NoHill, X_SameHill.kit kc_NothingDone_SameHill, X_TooHigh.kit kc_NothingDone_TooHigh, X_NothingDone.kit X_NothingDone.s, rfl⟩, X_HillError.kit kc_NothingDone_HillError, kit_top (by decide +kernel) kv_NothingDone⟩
  have L : LandK K N_Land := ⟨⟨cpg, chd, cpo, csa⟩, n__heights, n__lifts⟩
  have T : Csts mg := ⟨⟨t_BOUND, PySem.W.mg_of X G gc_BOUND⟩, ⟨t_MOST_HILLS, PySem.W.mg_of X G gc_MOST_HILLS⟩⟩
  have C__law_cell_at : Cal l.prog w K mg base "_law_cell_at" 1 ["_law_script", "_law_k"] (spV (RCel K)) := ⟨f__law_cell_at, _, ok_cel F__law_cell_at B, PySem.W.mg_of X G a__law_cell_at, F__law_cell_at.kp, F__law_cell_at.binds (ps := ["_law_script", "_law_k"]) fun _ _ _ _ _ _ us hl => match us, hl with | [_, _], _ => rfl⟩
  have C__law_whole : Cal l.prog w K mg base "_law_whole" 1 ["_law_found"] (spV RWholeV) := ⟨f__law_whole, _, ok_whole10 F__law_whole B, PySem.W.mg_of X G a__law_whole, F__law_whole.kp, F__law_whole.binds (ps := ["_law_found"]) fun _ _ _ _ _ _ us hl => match us, hl with | [_], _ => rfl⟩
  have C_is_whole : Cal l.prog w K mg base "is_whole" 1 ["number"] (spV RWholeV) := ⟨f_is_whole, _, ok_is_whole F_is_whole B, PySem.W.mg_of X G a_is_whole, F_is_whole.kp, F_is_whole.binds (ps := ["number"]) fun _ _ _ _ _ _ us hl => match us, hl with | [_], _ => rfl⟩
  have C_check_hill : CalX l.prog w K mg base "check_hill" 2 ["land", "place"] (spVX (RPlace K) (RNoPlace K N_NoHill)) := ⟨f_check_hill, _, ok_check F_check_hill B C_is_whole X_NoHill, PySem.W.mg_of X G a_check_hill, F_check_hill.kp, F_check_hill.binds (ps := ["land", "place"]) fun _ _ _ _ _ _ us hl => match us, hl with | [_, _], _ => rfl⟩
  have C_slope : Cal l.prog w K mg base "slope" 1 ["land", "a", "b"] (spU (RSlope K)) := ⟨f_slope, _, ok_slope F_slope, PySem.W.mg_of X G a_slope, F_slope.kp, F_slope.binds (ps := ["land", "a", "b"]) fun _ _ _ _ _ _ us hl => match us, hl with | [_, _, _], _ => rfl⟩
  have C_steeper : Cal l.prog w K mg base "steeper" 1 ["one", "other"] (spV (RSteeper K)) := ⟨f_steeper, _, ok_steeper F_steeper, PySem.W.mg_of X G a_steeper, F_steeper.kp, F_steeper.binds (ps := ["one", "other"]) fun _ _ _ _ _ _ us hl => match us, hl with | [_, _], _ => rfl⟩
  have C__seen_ahead : Cal l.prog w K mg base "_seen_ahead" 2 ["land", "a"] (spL (RAhead K)) := ⟨f__seen_ahead, _, ok_ahead F__seen_ahead B C_slope C_steeper, PySem.W.mg_of X G a__seen_ahead, F__seen_ahead.kp, F__seen_ahead.binds (ps := ["land", "a"]) fun _ _ _ _ _ _ us hl => match us, hl with | [_, _], _ => rfl⟩
  have C_sights : Cal l.prog w K mg base "sights" 3 ["land"] (spP (RSights K)) := ⟨f_sights, _, ok_sights F_sights B C__seen_ahead, PySem.W.mg_of X G a_sights, F_sights.kp, F_sights.binds (ps := ["land"]) fun _ _ _ _ _ _ us hl => match us, hl with | [_], _ => rfl⟩
  have C__is_in_bound : Cal l.prog w K mg base "_is_in_bound" 1 ["height"] (spV RInB) := ⟨f__is_in_bound, _, ok_inB F__is_in_bound T, PySem.W.mg_of X G a__is_in_bound, F__is_in_bound.kp, F__is_in_bound.binds (ps := ["height"]) fun _ _ _ _ _ _ us hl => match us, hl with | [_], _ => rfl⟩
  have C_checked : CalX l.prog w K mg base "checked" 2 ["land"] (spLX (RChecked K) (RNoLand N_NoLand)) := ⟨f_checked, _, ok_checked F_checked B T X_NoLand C_is_whole C__is_in_bound, PySem.W.mg_of X G a_checked, F_checked.kp, F_checked.binds (ps := ["land"]) fun _ _ _ _ _ _ us hl => match us, hl with | [_], _ => rfl⟩
  have C__without : Cal l.prog w K mg base "_without" 1 ["pairs", "others"] (spP RWithout) := ⟨f__without, _, ok_without F__without B, PySem.W.mg_of X G a__without, F__without.kp, F__without.binds (ps := ["pairs", "others"]) fun _ _ _ _ _ _ us hl => match us, hl with | [_, _], _ => rfl⟩
  have C_Land : CalN l.prog w K mg base (L2.CX l.prog w) "Land" N_Land 3 ["self", "heights"] (spInit N_Land N_NoLand) := ⟨f___init__, _, ok_init F___init__ L C_checked, ⟨cmk, a___init__, i___init__, ckc⟩, PySem.W.mg_of X G g_Land, F___init__.binds (ps := ["self", "heights"]) fun _ _ _ _ _ _ us hl => match us, hl with | [_, _], _ => rfl⟩
  have C_told : CalM l.prog w K mg base CX0 N_Land "told" 1 ["self"] (spL (RTold N_Land)) := ⟨L.cl, f_told, _, ok_told F_told B L, ⟨a_told, i_told, F_told.kp⟩, F_told.binds (ps := ["self"]) fun _ _ _ _ _ _ us hl => match us, hl with | [_], _ => rfl⟩
  have C_seen : CalM l.prog w K mg base CX0 N_Land "seen" 4 ["self"] (spP (RSeen N_Land)) := ⟨L.cl, f_seen, _, ok_seen F_seen B L C_sights, ⟨a_seen, i_seen, F_seen.kp⟩, F_seen.binds (ps := ["self"]) fun _ _ _ _ _ _ us hl => match us, hl with | [_], _ => rfl⟩
  have C__moved : CalM l.prog w K mg base CX0 N_Land "_moved" 4 ["self", "place", "by"] (spMoved N_Land) := ⟨L.cl, f__moved, _, ok_moved F__moved B L C_sights C__without, ⟨a__moved, i__moved, F__moved.kp⟩, F__moved.binds (ps := ["self", "place", "by"]) fun _ _ _ _ _ _ us hl => match us, hl with | [_, _, _], _ => rfl⟩
  have C_lift : CalM l.prog w K mg base (L2.CX l.prog w) N_Land "lift" 5 ["self", "place", "by"] (spLift N_Land N_NoHill N_TooHigh) := ⟨L.cl, f_lift, _, ok_lift F_lift B L X_TooHigh C_is_whole C__is_in_bound C_check_hill C__moved, ⟨a_lift, i_lift, F_lift.kp⟩, F_lift.binds (ps := ["self", "place", "by"]) fun _ _ _ _ _ _ us hl => match us, hl with | [_, _, _], _ => rfl⟩
  have C_back : CalM l.prog w K mg base (L2.CX l.prog w) N_Land "back" 5 ["self"] (spBack N_Land N_NothingDone) := ⟨L.cl, f_back, _, ok_back F_back B L X_NothingDone C__moved, ⟨a_back, i_back, F_back.kp⟩, F_back.binds (ps := ["self"]) fun _ _ _ _ _ _ us hl => match us, hl with | [_], _ => rfl⟩
  have C__law_sole : CalZ l.prog w K mg base "_law_sole" 1 "_law_error" (fun C v => SoleK K N_NoLand N_NoHill N_SameHill N_TooHigh N_NothingDone N_HillError C ∧ v = .bl true) := ⟨f__law_sole, _, fun C v h => by obtain ⟨h, rfl⟩ := h; exact ok_sole F__law_sole B X_NoLand X_NoHill X_SameHill X_TooHigh X_NothingDone X_HillError h, PySem.W.mg_of X G a__law_sole, F__law_sole.kp, F__law_sole.binds (ps := ["_law_error"]) fun _ _ _ _ _ _ us hl => match us, hl with | [_], _ => rfl⟩
  have C__law_base : CalZ l.prog w K mg base "_law_base" 2 "_law_error" (fun C v => SoleK K N_NoLand N_NoHill N_SameHill N_TooHigh N_NothingDone N_HillError C ∧ v = .bl true) := ⟨f__law_base, _, fun C v h => by obtain ⟨h, rfl⟩ := h; exact ok_base F__law_base C__law_sole h, PySem.W.mg_of X G a__law_base, F__law_base.kp, F__law_base.binds (ps := ["_law_error"]) fun _ _ _ _ _ _ us hl => match us, hl with | [_], _ => rfl⟩
  have C__law_told : Cal l.prog w K mg base "_law_told" 6 ["_law_land", "_law_place", "_law_by"] (spTold N_Land) := ⟨f__law_told, _, ok_told10 F__law_told B X_NoHill X_TooHigh X_NothingDone (PySem.W.exm_ref X_NoHill.b X_NoHill.d X_NoHill.t kc_TooHigh_NoHill) (PySem.W.exm_ref X_NoHill.b X_NoHill.d X_NoHill.t kc_NothingDone_NoHill) (PySem.W.exm_ref X_TooHigh.b X_TooHigh.d X_TooHigh.t kc_NothingDone_TooHigh) sole_NoHill sole_TooHigh sole_NothingDone C__law_base C_lift C_back, PySem.W.mg_of X G a__law_told, F__law_told.kp, F__law_told.binds (ps := ["_law_land", "_law_place", "_law_by"]) fun _ _ _ _ _ _ us hl => match us, hl with | [_, _, _], _ => rfl⟩
  have C__law_sights_by : Cal l.prog w K mg base "_law_sights_by" 1 ["_law_land"] (spP (RSightsBy K)) := ⟨f__law_sights_by, _, ok_sights_by F__law_sights_by B, PySem.W.mg_of X G a__law_sights_by, F__law_sights_by.kp, F__law_sights_by.binds (ps := ["_law_land"]) fun _ _ _ _ _ _ us hl => match us, hl with | [_], _ => rfl⟩
  have C__law_lacking : Cal l.prog w K mg base "_law_lacking" 1 ["_law_pairs", "_law_others"] (spP RWithout) := ⟨f__law_lacking, _, ok_lacking F__law_lacking B, PySem.W.mg_of X G a__law_lacking, F__law_lacking.kp, F__law_lacking.binds (ps := ["_law_pairs", "_law_others"]) fun _ _ _ _ _ _ us hl => match us, hl with | [_, _], _ => rfl⟩
  have C__law_due_by : Cal l.prog w K mg base "_law_due_by" 2 ["_law_heights", "_law_place", "_law_by"] (spDue) := ⟨f__law_due_by, _, ok_due F__law_due_by B C__law_whole C__law_sights_by C__law_lacking, PySem.W.mg_of X G a__law_due_by, F__law_due_by.kp, F__law_due_by.binds (ps := ["_law_heights", "_law_place", "_law_by"]) fun _ _ _ _ _ _ us hl => match us, hl with | [_, _, _], _ => rfl⟩
  have C__law_deed_by : Cal l.prog w K mg base "_law_deed_by" 1 ["_law_cell", "_law_heights"] (spDeed) := ⟨f__law_deed_by, _, ok_deed F__law_deed_by B, PySem.W.mg_of X G a__law_deed_by, F__law_deed_by.kp, F__law_deed_by.binds (ps := ["_law_cell", "_law_heights"]) fun _ _ _ _ _ _ us hl => match us, hl with | [_, _], _ => rfl⟩
  have C__law_alike : Cal l.prog w K mg base "_law_alike" 1 ["_law_found", "_law_due"] (spAlike) := ⟨f__law_alike, _, ok_alike10 F__law_alike B, PySem.W.mg_of X G a__law_alike, F__law_alike.kp, F__law_alike.binds (ps := ["_law_found", "_law_due"]) fun _ _ _ _ _ _ us hl => match us, hl with | [_, _], _ => rfl⟩
  have C__law_stands : Cal l.prog w K mg base "_law_stands" 5 ["_law_land", "_law_heights"] (spV (RStands N_Land)) := ⟨f__law_stands, _, ok_stands F__law_stands B L C_told C_seen C__law_sights_by, PySem.W.mg_of X G a__law_stands, F__law_stands.kp, F__law_stands.binds (ps := ["_law_land", "_law_heights"]) fun _ _ _ _ _ _ us hl => match us, hl with | [_, _], _ => rfl⟩
  have C__law_kept : Cal l.prog w K mg base "_law_kept" 1 ["_law_told_here", "_law_found"] (spKept K) := ⟨f__law_kept, _, ok_kept F__law_kept B, PySem.W.mg_of X G a__law_kept, F__law_kept.kp, F__law_kept.binds (ps := ["_law_told_here", "_law_found"]) fun _ _ _ _ _ _ us hl => match us, hl with | [_, _], _ => rfl⟩
  have C__law_lifted : Cal l.prog w K mg base "_law_lifted" 6 ["_law_land", "_law_heights", "_law_done_here"] (spLifted N_Land) := ⟨f__law_lifted, _, ok_lifted F__law_lifted B C_lift, PySem.W.mg_of X G a__law_lifted, F__law_lifted.kp, F__law_lifted.binds (ps := ["_law_land", "_law_heights", "_law_done_here"]) fun _ _ _ _ _ _ us hl => match us, hl with | [_, _, _], _ => rfl⟩
  have C__law_all_back : Cal l.prog w K mg base "_law_all_back" 7 ["_law_land", "_law_heights", "_law_done_here"] (spAllBack2 N_Land) := ⟨f__law_all_back, _, ok_all_back F__law_all_back B C__law_told C__law_stands, PySem.W.mg_of X G a__law_all_back, F__law_all_back.kp, F__law_all_back.binds (ps := ["_law_land", "_law_heights", "_law_done_here"]) fun _ _ _ _ _ _ us hl => match us, hl with | [_, _, _], _ => rfl⟩
  have C__law_goes : Cal l.prog w K mg base "_law_goes" 7 ["_law_land", "_law_heights", "_law_done_here", "_law_place", "_law_by", "_law_told_here"] (spGoes N_Land) := ⟨f__law_goes, _, ok_goes F__law_goes B C__law_due_by C__law_told C__law_alike C__law_kept C__law_stands, PySem.W.mg_of X G a__law_goes, F__law_goes.kp, F__law_goes.binds (ps := ["_law_land", "_law_heights", "_law_done_here", "_law_place", "_law_by", "_law_told_here"]) fun _ _ _ _ _ _ us hl => match us, hl with | [_, _, _, _, _, _], _ => rfl⟩
  have C__law_done : Cal l.prog w K mg base "_law_done" 8 ["_law_land", "_law_heights", "_law_done_here", "_law_place", "_law_by", "_law_told_here"] (spGoes N_Land) := ⟨f__law_done, _, ok_done F__law_done B C_told C_seen C__law_goes, PySem.W.mg_of X G a__law_done, F__law_done.kp, F__law_done.binds (ps := ["_law_land", "_law_heights", "_law_done_here", "_law_place", "_law_by", "_law_told_here"]) fun _ _ _ _ _ _ us hl => match us, hl with | [_, _, _, _, _, _], _ => rfl⟩
  exact ok_law F_law B C__law_cell_at C_Land C__law_lifted C__law_due_by C__law_told C__law_alike C__law_kept C__law_stands C__law_deed_by C__law_done C__law_all_back
end
end Hx
open PySem PySem.W PyProof.Rows
set_option maxHeartbeats 0 in
set_option maxRecDepth 100000 in
theorem PySem.Challenge.cw_hillsight_k10_whole_changes_holds : PySem.Challenge.rw_hillsight_k10_whole_changes.Holds := by
  w_on; o_law; k_head; (case hw => w_witness2)
  k_fill
  refine L2.walk_of (l := PySem.Challenge.rw_hillsight_k10_whole_changes) (n := 63) (k := 9) (x := "_law_script") (CX := fun _ => L2.CX0) (sp := fun w => Hx.spLaw _) rfl (by decide) rfl ⟨rfl, by decide, by decide⟩ (fun w h Y => PySem.W.kIn_of Y) ?F (fun _ _ a ns hl _ hS => ⟨a, ns, rfl, hS, hl, fun _ => rfl⟩) (fun _ _ _ _ _ h => h)
  case F =>
    intro w mg fa h KX G hmg
    refine' Hx.all_mk KX G hmg ?g_Land ?a__law_cell_at ?l__law_cell_at ?c__law_cell_at ?k__law_cell_at ?a__law_whole ?l__law_whole ?c__law_whole ?k__law_whole ?a_is_whole ?l_is_whole ?c_is_whole ?k_is_whole ?a_check_hill ?l_check_hill ?c_check_hill ?k_check_hill ?a_slope ?l_slope ?c_slope ?k_slope ?a_steeper ?l_steeper ?c_steeper ?k_steeper ?a__seen_ahead ?l__seen_ahead ?c__seen_ahead ?k__seen_ahead ?a_sights ?l_sights ?c_sights ?k_sights ?a__is_in_bound ?l__is_in_bound ?c__is_in_bound ?k__is_in_bound ?a_checked ?l_checked ?c_checked ?k_checked ?a__without ?l__without ?c__without ?k__without ?a___init__ ?l___init__ ?c___init__ ?k___init__ ?a_told ?l_told ?c_told ?k_told ?a_seen ?l_seen ?c_seen ?k_seen ?a__moved ?l__moved ?c__moved ?k__moved ?a_lift ?l_lift ?c_lift ?k_lift ?a_back ?l_back ?c_back ?k_back ?a__law_sole ?l__law_sole ?c__law_sole ?k__law_sole ?a__law_base ?l__law_base ?c__law_base ?k__law_base ?a__law_told ?l__law_told ?c__law_told ?k__law_told ?a__law_sights_by ?l__law_sights_by ?c__law_sights_by ?k__law_sights_by ?a__law_lacking ?l__law_lacking ?c__law_lacking ?k__law_lacking ?a__law_due_by ?l__law_due_by ?c__law_due_by ?k__law_due_by ?a__law_deed_by ?l__law_deed_by ?c__law_deed_by ?k__law_deed_by ?a__law_alike ?l__law_alike ?c__law_alike ?k__law_alike ?a__law_stands ?l__law_stands ?c__law_stands ?k__law_stands ?a__law_kept ?l__law_kept ?c__law_kept ?k__law_kept ?a__law_lifted ?l__law_lifted ?c__law_lifted ?k__law_lifted ?a__law_all_back ?l__law_all_back ?c__law_all_back ?k__law_all_back ?a__law_goes ?l__law_goes ?c__law_goes ?k__law_goes ?a__law_done ?l__law_done ?c__law_done ?k__law_done ?a_law ?l_law ?c_law ?k_law ?z_len ?z_range ?z_isinstance ?z_int ?z_bool ?z_list ?z_tuple ?z_min ?z_max ?z_all ?z_sorted ?z_zip ?z_abs ?z_any ?z_set ?z_str ?z_ValueError ?g_HillError ?x_HillError ?k_HillError ?b_HillError ?t_HillError ?d_HillError ?s_HillError ?g_NoLand ?x_NoLand ?k_NoLand ?b_NoLand ?t_NoLand ?d_NoLand ?s_NoLand ?g_NoHill ?x_NoHill ?k_NoHill ?b_NoHill ?t_NoHill ?d_NoHill ?s_NoHill ?g_SameHill ?x_SameHill ?k_SameHill ?b_SameHill ?t_SameHill ?d_SameHill ?s_SameHill ?g_TooHigh ?x_TooHigh ?k_TooHigh ?b_TooHigh ?t_TooHigh ?d_TooHigh ?s_TooHigh ?g_NothingDone ?x_NothingDone ?k_NothingDone ?b_NothingDone ?t_NothingDone ?d_NothingDone ?s_NothingDone ?hg_NoHill ?hk_NoHill ?ha_NoHill ?hm_NoHill ?kv_NoHill ?kc_NoHill_NoLand ?kc_NoHill_SameHill ?kc_NoHill_TooHigh ?kc_NoHill_NothingDone ?kc_NoHill_HillError ?hg_TooHigh ?hk_TooHigh ?ha_TooHigh ?hm_TooHigh ?kv_TooHigh ?kc_TooHigh_NoLand ?kc_TooHigh_NoHill ?kc_TooHigh_SameHill ?kc_TooHigh_NothingDone ?kc_TooHigh_HillError ?hg_NothingDone ?hk_NothingDone ?ha_NothingDone ?hm_NothingDone ?kv_NothingDone ?kc_NothingDone_NoLand ?kc_NothingDone_NoHill ?kc_NothingDone_SameHill ?kc_NothingDone_TooHigh ?kc_NothingDone_HillError ?hn_cls ?ht_cls ?gc_BOUND ?gc_MOST_HILLS ?cpg ?chd ?cpo ?csa ?cmk ?ckc ?n__heights ?n__lifts ?i___init__ ?i_told ?i_seen ?i__moved ?i_lift ?i_back
    (case g_Land => k_is)
    (case a__law_cell_at => k_is)
    (case l__law_cell_at => k_is)
    (case c__law_cell_at => k_is)
    (case k__law_cell_at => k_is)
    (case a__law_whole => k_is)
    (case l__law_whole => k_is)
    (case c__law_whole => k_is)
    (case k__law_whole => k_is)
    (case a_is_whole => k_is)
    (case l_is_whole => k_is)
    (case c_is_whole => k_is)
    (case k_is_whole => k_is)
    (case a_check_hill => k_is)
    (case l_check_hill => k_is)
    (case c_check_hill => k_is)
    (case k_check_hill => k_is)
    (case a_slope => k_is)
    (case l_slope => k_is)
    (case c_slope => k_is)
    (case k_slope => k_is)
    (case a_steeper => k_is)
    (case l_steeper => k_is)
    (case c_steeper => k_is)
    (case k_steeper => k_is)
    (case a__seen_ahead => k_is)
    (case l__seen_ahead => k_is)
    (case c__seen_ahead => k_is)
    (case k__seen_ahead => k_is)
    (case a_sights => k_is)
    (case l_sights => k_is)
    (case c_sights => k_is)
    (case k_sights => k_is)
    (case a__is_in_bound => k_is)
    (case l__is_in_bound => k_is)
    (case c__is_in_bound => k_is)
    (case k__is_in_bound => k_is)
    (case a_checked => k_is)
    (case l_checked => k_is)
    (case c_checked => k_is)
    (case k_checked => k_is)
    (case a__without => k_is)
    (case l__without => k_is)
    (case c__without => k_is)
    (case k__without => k_is)
    (case a___init__ => k_is)
    (case l___init__ => k_is)
    (case c___init__ => k_is)
    (case k___init__ => k_is)
    (case a_told => k_is)
    (case l_told => k_is)
    (case c_told => k_is)
    (case k_told => k_is)
    (case a_seen => k_is)
    (case l_seen => k_is)
    (case c_seen => k_is)
    (case k_seen => k_is)
    (case a__moved => k_is)
    (case l__moved => k_is)
    (case c__moved => k_is)
    (case k__moved => k_is)
    (case a_lift => k_is)
    (case l_lift => k_is)
    (case c_lift => k_is)
    (case k_lift => k_is)
    (case a_back => k_is)
    (case l_back => k_is)
    (case c_back => k_is)
    (case k_back => k_is)
    (case a__law_sole => k_is)
    (case l__law_sole => k_is)
    (case c__law_sole => k_is)
    (case k__law_sole => k_is)
    (case a__law_base => k_is)
    (case l__law_base => k_is)
    (case c__law_base => k_is)
    (case k__law_base => k_is)
    (case a__law_told => k_is)
    (case l__law_told => k_is)
    (case c__law_told => k_is)
    (case k__law_told => k_is)
    (case a__law_sights_by => k_is)
    (case l__law_sights_by => k_is)
    (case c__law_sights_by => k_is)
    (case k__law_sights_by => k_is)
    (case a__law_lacking => k_is)
    (case l__law_lacking => k_is)
    (case c__law_lacking => k_is)
    (case k__law_lacking => k_is)
    (case a__law_due_by => k_is)
    (case l__law_due_by => k_is)
    (case c__law_due_by => k_is)
    (case k__law_due_by => k_is)
    (case a__law_deed_by => k_is)
    (case l__law_deed_by => k_is)
    (case c__law_deed_by => k_is)
    (case k__law_deed_by => k_is)
    (case a__law_alike => k_is)
    (case l__law_alike => k_is)
    (case c__law_alike => k_is)
    (case k__law_alike => k_is)
    (case a__law_stands => k_is)
    (case l__law_stands => k_is)
    (case c__law_stands => k_is)
    (case k__law_stands => k_is)
    (case a__law_kept => k_is)
    (case l__law_kept => k_is)
    (case c__law_kept => k_is)
    (case k__law_kept => k_is)
    (case a__law_lifted => k_is)
    (case l__law_lifted => k_is)
    (case c__law_lifted => k_is)
    (case k__law_lifted => k_is)
    (case a__law_all_back => k_is)
    (case l__law_all_back => k_is)
    (case c__law_all_back => k_is)
    (case k__law_all_back => k_is)
    (case a__law_goes => k_is)
    (case l__law_goes => k_is)
    (case c__law_goes => k_is)
    (case k__law_goes => k_is)
    (case a__law_done => k_is)
    (case l__law_done => k_is)
    (case c__law_done => k_is)
    (case k__law_done => k_is)
    (case a_law => k_is)
    (case l_law => k_is)
    (case c_law => k_is)
    (case k_law => k_is)
    (case z_len => k_is)
    (case z_range => k_is)
    (case z_isinstance => k_is)
    (case z_int => k_is)
    (case z_bool => k_is)
    (case z_list => k_is)
    (case z_tuple => k_is)
    (case z_min => k_is)
    (case z_max => k_is)
    (case z_all => k_is)
    (case z_sorted => k_is)
    (case z_zip => k_is)
    (case z_abs => k_is)
    (case z_any => k_is)
    (case z_set => k_is)
    (case z_str => k_is)
    (case z_ValueError => k_is)
    (case g_HillError => k_is)
    (case x_HillError => k_exc)
    (case k_HillError => k_is)
    (case b_HillError => k_is)
    (case t_HillError => k_is)
    (case d_HillError => k_is)
    (case s_HillError => first | rfl | k_is)
    (case g_NoLand => k_is)
    (case x_NoLand => k_exc)
    (case k_NoLand => k_is)
    (case b_NoLand => k_is)
    (case t_NoLand => k_is)
    (case d_NoLand => k_is)
    (case s_NoLand => first | rfl | k_is)
    (case g_NoHill => k_is)
    (case x_NoHill => k_exc)
    (case k_NoHill => k_is)
    (case b_NoHill => k_is)
    (case t_NoHill => k_is)
    (case d_NoHill => k_is)
    (case s_NoHill => first | rfl | k_is)
    (case g_SameHill => k_is)
    (case x_SameHill => k_exc)
    (case k_SameHill => k_is)
    (case b_SameHill => k_is)
    (case t_SameHill => k_is)
    (case d_SameHill => k_is)
    (case s_SameHill => first | rfl | k_is)
    (case g_TooHigh => k_is)
    (case x_TooHigh => k_exc)
    (case k_TooHigh => k_is)
    (case b_TooHigh => k_is)
    (case t_TooHigh => k_is)
    (case d_TooHigh => k_is)
    (case s_TooHigh => first | rfl | k_is)
    (case g_NothingDone => k_is)
    (case x_NothingDone => k_exc)
    (case k_NothingDone => k_is)
    (case b_NothingDone => k_is)
    (case t_NothingDone => k_is)
    (case d_NothingDone => k_is)
    (case s_NothingDone => first | rfl | k_is)
    (case hg_NoHill => k_is)
    (case hk_NoHill => k_is)
    (case ha_NoHill => k_is)
    (case hm_NoHill => k_is)
    (case kv_NoHill => k_is)
    (case kc_NoHill_NoLand => k_is)
    (case kc_NoHill_SameHill => k_is)
    (case kc_NoHill_TooHigh => k_is)
    (case kc_NoHill_NothingDone => k_is)
    (case kc_NoHill_HillError => k_is)
    (case hg_TooHigh => k_is)
    (case hk_TooHigh => k_is)
    (case ha_TooHigh => k_is)
    (case hm_TooHigh => k_is)
    (case kv_TooHigh => k_is)
    (case kc_TooHigh_NoLand => k_is)
    (case kc_TooHigh_NoHill => k_is)
    (case kc_TooHigh_SameHill => k_is)
    (case kc_TooHigh_NothingDone => k_is)
    (case kc_TooHigh_HillError => k_is)
    (case hg_NothingDone => k_is)
    (case hk_NothingDone => k_is)
    (case ha_NothingDone => k_is)
    (case hm_NothingDone => k_is)
    (case kv_NothingDone => k_is)
    (case kc_NothingDone_NoLand => k_is)
    (case kc_NothingDone_NoHill => k_is)
    (case kc_NothingDone_SameHill => k_is)
    (case kc_NothingDone_TooHigh => k_is)
    (case kc_NothingDone_HillError => k_is)
    (case hn_cls => k_is)
    (case ht_cls => k_is)
    (case gc_BOUND => k_is)
    (case gc_MOST_HILLS => k_is)
    (case cpg => k_is)
    (case chd => k_is)
    (case cpo => k_is)
    (case csa => k_is)
    (case cmk => k_is)
    (case ckc => k_is)
    (case n__heights => k_is)
    (case n__lifts => k_is)
    (case i___init__ => k_is)
    (case i_told => k_is)
    (case i_seen => k_is)
    (case i__moved => k_is)
    (case i_lift => k_is)
    (case i_back => k_is)
