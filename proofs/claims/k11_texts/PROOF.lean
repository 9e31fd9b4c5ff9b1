import PyProof.Rows.All
import Wide.All
import OpenK.AllK
import Wide.FinOn
import HandS.ForMost
import HandS.ForExc
import HandS.TryMany
import HandS.ExcIs
import HandS.IsInst
import HandS.Evl
import HandS.Wide
import HandS.SortRule
import HandS.HotCalls
import HandS.Style
import HandS.Star
import HandS.Codes
import HandS.Replace
import HandS.StrMore
import KE.OsScanText
import PySem.Challenge.RW_hillsight_k11_texts
set_option Elab.async false
set_option linter.all false
set_option maxRecDepth 100000
set_option maxHeartbeats 4000000
/-! Hx: a thin layer of our own over HandS and Evl: called defs as one fact, values of the usual expressions, equality of int lists. -/
namespace Hx
open PySem PySem.Spec PyProof.Rows L2 Evl
/-- the built-in names that stay free in the module -/
structure Blt (mg : Str → Option Value) : Prop where
  m_len : mg "len" = none
  m_range : mg "range" = none
  m_isinstance : mg "isinstance" = none
  m_int : mg "int" = none
  m_bool : mg "bool" = none
  m_list : mg "list" = none
  m_tuple : mg "tuple" = none
  m_min : mg "min" = none
  m_max : mg "max" = none
  m_all : mg "all" = none
  m_sorted : mg "sorted" = none
  m_zip : mg "zip" = none
  m_abs : mg "abs" = none
  m_any : mg "any" = none
  m_set : mg "set" = none
  m_str : mg "str" = none
  m_ValueError : mg "ValueError" = none
/-- a def of the module that keeps a promise -/
structure Cal (P : Program) (w : World) (K : PySem.W.Frag) (mg : Str → Option Value) (base : Heap) (x : Str) (k : Nat) (ps : List Str) (sp : Sp) : Prop where
  ex : ∃ f fd, FnOk P w K mg base CX0 k f fd ps sp ∧ mg x = some (.ref f) ∧ PySem.W.keepIn K (.ref f) = true ∧ Binds K fd ps []
section
variable {X : Cx}
theorem pe_cal {x : Str} {k j : Nat} {ps : List Str} {sp : Sp} {p pos : Pos} {e : Expr} {es : List Expr} {t : TA} (C : Cal X.prog X.w X.K X.mg X.base x k ps sp) (hr : Room j X.A) (ha : PA X (e :: es) t) (hk : k ≤ j := by decide) (hg : Gl X x := by rfl)
    (hdb : (x == ("__debug__" : Str)) = false := by decide) (he : starEach (e :: es) X.env = (false, eval e X.env) :: starEach es X.env := by rfl) (hpl : (backTo pos (starEach es X.env)).any (·.1) = false := by rfl) :
    PE X (.Call (.Name x p) (e :: es) [] pos) (tCall sp [] E0 t) := by
  obtain ⟨f, fd, F, hm, kp, b⟩ := C.ex
  exact pe_call F (hr.mono hk) hg hm kp b .nil pass0 ha hdb he hpl
end
section
variable {K : PySem.W.Frag} {σ : L2.St} {H H' : Hp} {ta tb te tx : TE} {t u : TT} {x y z v : V} {D : Ends} {tu tw tz : TS} {g : TG}
theorem ex_at {H H' : Hp} {a : Addr} {o : HO} (e : Ex H H') (h : H a = some o) : H' a = some o := e a o h
theorem ex_step {H H1 H2 : Hp} (b : Ex H1 H2) (a : Ex H H1) : Ex H H2 := a.trans b
/-! ### values -/
theorem ev_int {i j : Int} (h : Ev te σ H (.int i)) (e : i = j) : Ev te σ H (.int j) := e ▸ h
theorem rc_isi {x : V} {t : Value} {T : String} {b : Bool} (ty : ∀ H1, Ex H H1 → TyX K H1 x t) (e : PySem.W.kitOne K t (.type T) = some b) : RC (rIsi K) [x, .ty T] H (.bl b) :=
  fun H1 e1 Q q => ⟨x, .ty T, t, .type T, b, rfl, .ty T, ty H1 e1, e, q H1 (Ex.refl H1)⟩
theorem rc_isi_int {i : Int} {T : String} {b : Bool} (e : kitB "int" T = some b) : RC (rIsi K) [.int i, .ty T] H (.bl b) := rc_isi (fun _ _ => .base (.int i)) (kit_ty e)
theorem rc_isi_bl {i : Bool} {T : String} {b : Bool} (e : kitB "bool" T = some b) : RC (rIsi K) [.bl i, .ty T] H (.bl b) := rc_isi (fun _ _ => .base (.bl i)) (kit_ty e)
theorem rc_isi_non {T : String} {b : Bool} (e : kitB "NoneType" T = some b) : RC (rIsi K) [.non, .ty T] H (.bl b) := rc_isi (fun _ _ => .base .non) (kit_ty e)
theorem rc_isi_str {i : Str} {T : String} {b : Bool} (e : kitB "str" T = some b) : RC (rIsi K) [.str i, .ty T] H (.bl b) := rc_isi (fun _ _ => .base (.str i)) (kit_ty e)
theorem rc_isi_lst {a : Addr} {xs : List V} {T : String} {b : Bool} (h : H a = some (.lst xs)) (e : kitB "list" T = some b) : RC (rIsi K) [.ref a, .ty T] H (.bl b) := rc_isi (fun _ e1 => .base (.lst (e1 _ _ h))) (kit_ty e)
theorem rc_isi_tup {a : Addr} {xs : List V} {T : String} {b : Bool} (h : H a = some (.tup xs)) (e : kitB "tuple" T = some b) : RC (rIsi K) [.ref a, .ty T] H (.bl b) := rc_isi (fun _ e1 => .base (.tup (e1 _ _ h))) (kit_ty e)
theorem rc_len {p : Addr} {ys : List V} (h : SqL K H p ys) : RC (fun xs H Q => ∃ p ys, xs = [V.ref p] ∧ (SqL K H p ys ∨ SqT K H p ys) ∧ Q (.int ys.length) H) [.ref p] H (.int (ys.length : Int)) :=
  fun H1 e Q q => ⟨p, ys, rfl, .inl (ex_l e h), q H1 (Ex.refl H1)⟩
theorem rc_lenT {p : Addr} {ys : List V} (h : SqT K H p ys) : RC (fun xs H Q => ∃ p ys, xs = [V.ref p] ∧ (SqL K H p ys ∨ SqT K H p ys) ∧ Q (.int ys.length) H) [.ref p] H (.int (ys.length : Int)) :=
  fun H1 e Q q => ⟨p, ys, rfl, .inr (ex_t e h), q H1 (Ex.refl H1)⟩
theorem rcl_list {p : Addr} {ys : List V} (h : SqL K H p ys) : RCL (fun xs H Q => ∃ p ys, xs = [V.ref p] ∧ (SqL K H p ys ∨ SqT K H p ys) ∧ ∀ l, H l = none → Q (.ref l) (upd H l (.lst ys))) [.ref p] H ys :=
  fun H1 e Q q => ⟨p, ys, rfl, .inl (ex_l e h), fun l hl => q l _ hl (Ex.new hl) upd_same⟩
theorem rc_min {i j : Int} : RC (fun xs H Q => ∃ i j, xs = [V.int i, V.int j] ∧ Q (.int (if j < i then j else i)) H) [.int i, .int j] H (.int (min i j)) := fun H1 _ Q q => ⟨i, j, rfl, by
  have e : (if j < i then j else i) = min i j := by rw [Int.min_def]; split <;> split <;> omega
  rw [e]; exact q H1 (Ex.refl H1)⟩
theorem rc_max {i j : Int} : RC (fun xs H Q => ∃ i j, xs = [V.int i, V.int j] ∧ Q (.int (if j > i then j else i)) H) [.int i, .int j] H (.int (max i j)) := fun H1 _ Q q => ⟨i, j, rfl, by
  have e : (if j > i then j else i) = max i j := by rw [Int.max_def]; split <;> split <;> omega
  rw [e]; exact q H1 (Ex.refl H1)⟩
theorem kb_int_int : kitB "int" "int" = some true := by decide +kernel
theorem kb_int_bool : kitB "int" "bool" = some false := by decide +kernel
theorem kb_bool_int : kitB "bool" "int" = some true := by decide +kernel
theorem kb_bool_bool : kitB "bool" "bool" = some true := by decide +kernel
theorem kb_NoneType_int : kitB "NoneType" "int" = some false := by decide +kernel
theorem kb_NoneType_bool : kitB "NoneType" "bool" = some false := by decide +kernel
theorem kb_str_int : kitB "str" "int" = some false := by decide +kernel
theorem kb_str_bool : kitB "str" "bool" = some false := by decide +kernel
theorem kb_list_list : kitB "list" "list" = some true := by decide +kernel
theorem kb_tuple_tuple : kitB "tuple" "tuple" = some true := by decide +kernel
theorem kb_list_int : kitB "list" "int" = some false := by decide +kernel
theorem kb_tuple_int : kitB "tuple" "int" = some false := by decide +kernel
theorem kb_list_bool : kitB "list" "bool" = some false := by decide +kernel
theorem kb_tuple_bool : kitB "tuple" "bool" = some false := by decide +kernel
theorem kb_list_tuple : kitB "list" "tuple" = some false := by decide +kernel
theorem kb_tuple_list : kitB "tuple" "list" = some false := by decide +kernel
theorem kb_int_list : kitB "int" "list" = some false := by decide +kernel
theorem kb_int_tuple : kitB "int" "tuple" = some false := by decide +kernel
theorem rc_intb {k : Bool} : RC (fun xs H Q => (∃ i, xs = [V.int i] ∧ Q (.int i) H) ∨ ∃ k, xs = [V.bl k] ∧ Q (.int (if k then 1 else 0)) H) [.bl k] H (.int (if k then 1 else 0)) := fun H1 _ _ q => .inr ⟨k, rfl, q H1 (Ex.refl H1)⟩
/-! ### int lists compared -/
theorem dp_ints : ∀ ns : List Int, DpAll K H (ns.map V.int) (ns.map PyData.int)
  | [] => .nil
  | n :: r => .cons (.int n) (dp_ints r)
theorem ints_lay : ∀ ns : List Int, PyData.canLayAll0 (ns.map PyData.int) = true
  | [] => by simp [PyData.canLayAll0]
  | n :: r => by simp [PyData.canLayAll0, PyData.canLay0, ints_lay r]
theorem ints_depth : ∀ ns : List Int, PyData.depthAll (ns.map PyData.int) ≤ 1
  | [] => by simp [PyData.depthAll]
  | n :: r => by
    have h := ints_depth r
    simp only [List.map_cons, PyData.depthAll, PyData.depth]
    omega
theorem ints_shaped (ns : List Int) : SeqAt.shaped (.list (ns.map PyData.int)) = true := by
  have h1 := ints_depth ns
  have h2 : PyData.depth (.list (ns.map PyData.int)) ≤ 64 := by
    simp only [PyData.depth]
    omega
  show (PyData.canLay0 (.list (ns.map PyData.int)) && decide (PyData.depth (.list (ns.map PyData.int)) ≤ 64)) = true
  rw [Bool.and_eq_true]
  exact ⟨by simp only [PyData.canLay0]; exact ints_lay ns, decide_eq_true h2⟩
theorem ints_eqvAll : ∀ ns ms : List Int, PyData.eqvAll (ns.map PyData.int) (ms.map PyData.int) = decide (ns = ms)
  | [], [] => by simp [PyData.eqvAll]
  | [], _ :: _ => by simp [PyData.eqvAll]
  | _ :: _, [] => by simp [PyData.eqvAll]
  | n :: r, m :: s => by
    have h := ints_eqvAll r s
    simp only [List.map_cons, PyData.eqvAll, PyData.eqv, h]
    by_cases e : n = m <;> by_cases e2 : r = s <;> simp [e, e2]
theorem ints_eqv (ns ms : List Int) : PyData.eqv (.list (ns.map PyData.int)) (.list (ms.map PyData.int)) = decide (ns = ms) := by
  simp only [PyData.eqv, ints_eqvAll]
theorem rv_eqI {p q : Addr} {ns ms : List Int} (h1 : SqL K H p (ns.map V.int)) (h2 : SqL K H q (ms.map V.int)) : RV (rEqD K) (.ref p) (.ref q) H (.bl (decide (ns = ms))) :=
  fun H1 e Q k => ⟨_, _, .lst (ex_l e h1) (dp_ints ns), .lst (ex_l e h2) (dp_ints ms), ints_shaped ns, ints_shaped ms, by rw [ints_eqv]; exact k H1 (Ex.refl H1)⟩
theorem rv_neI {p q : Addr} {ns ms : List Int} (h1 : SqL K H p (ns.map V.int)) (h2 : SqL K H q (ms.map V.int)) : RV (rNeD K) (.ref p) (.ref q) H (.bl (!decide (ns = ms))) :=
  fun H1 e Q k => ⟨_, _, .lst (ex_l e h1) (dp_ints ns), .lst (ex_l e h2) (dp_ints ms), ints_shaped ns, ints_shaped ms, by rw [ints_eqv]; exact k H1 (Ex.refl H1)⟩
/-! ### promises of one shape -/
/-- a def that hands back a value and leaves all as it was: R tells which -/
def spV (R : List V → Hp → V → Prop) : Sp := fun vs H Q _ => ∃ v, R vs H v ∧ RetV v H Q
/-- a def that hands back a new list, a new tuple -/
def spL (R : List V → Hp → List V → Prop) : Sp := fun vs H Q _ => ∃ xs, R vs H xs ∧ RetL xs H Q
def RetU (xs : List V) (H : Hp) (Q : VK) : Prop := ∀ p H2, H p = none → Ex H H2 → H2 p = some (.tup xs) → Q (.ref p) H2
def spU (R : List V → Hp → List V → Prop) : Sp := fun vs H Q _ => ∃ xs, R vs H xs ∧ RetU xs H Q
theorem ev_cal {R : List V → Hp → V → Prop} {vs : List V} {E : XK} {ta : TA} (h : EvA ta σ H vs) (hs : ∀ H1, Ex H H1 → R vs H1 z) : Ev (tCall (spV R) [] E ta) σ H z :=
  ev_call (vs := vs) h fun H1 e Q q E => ⟨z, by rw [List.append_nil]; exact hs H1 e, q⟩
theorem el_cal {R : List V → Hp → List V → Prop} {vs xs : List V} {E : XK} {ta : TA} (h : EvA ta σ H vs) (hs : ∀ H1, Ex H H1 → R vs H1 xs) : EvL (tCall (spL R) [] E ta) σ H xs :=
  el_call (vs := vs) h fun H1 e Q q E => ⟨xs, by rw [List.append_nil]; exact hs H1 e, q⟩
theorem eu_cal {R : List V → Hp → List V → Prop} {vs xs : List V} {E : XK} {ta : TA} (h : EvA ta σ H vs) (hs : ∀ H1, Ex H H1 → R vs H1 xs) : EvU (tCall (spU R) [] E ta) σ H xs :=
  fun H1 e Q q => h H1 e _ fun H2 e2 => ⟨xs, by rw [List.append_nil]; exact hs H2 (e.trans e2), fun p H3 hp e3 h3 => q p H3 (fresh_back e2 hp) (e2.trans e3) h3⟩
/-! ### a new tuple walked; a tuple unpacked -/
theorem s_forNT {xs : List V} {tl : TE} (h : EvU tl σ H xs) (Pv : Addr → Nat → L2.St → Hp → Prop) (h0 : ∀ p H1, H p = none → Ex H H1 → H1 p = some (.tup xs) → Pv p 0 σ H1) (hl : ∀ p i σ' H', i ≤ xs.length → Pv p i σ' H' → SqT K H' p xs)
    (hs : ∀ p i x σ' H', xs[i]? = some x → Pv p i σ' H' → g x σ' H' fun σ2 H2 => tu { D with nx := Pv p (i + 1), ct := Pv p (i + 1), bk := D.nx } σ2 H2) (hd : ∀ p σ' H', Pv p xs.length σ' H' → D.nx σ' H') : tFor (iTup K tl) g tu D σ H :=
  h H (Ex.refl H) _ fun p H1 hp e h1 => ⟨p, rfl, ⟨xs, st_of h1⟩, for_tup (Pv p) (h0 p H1 hp e h1) (hl p) (hs p) (hd p)⟩
theorem q_forNT {xs : List V} {tl : TE} (h : EvU tl σ H xs) (Pv : Addr → Nat → L2.St → Hp → Prop) (h0 : ∀ p H1, H p = none → Ex H H1 → H1 p = some (.tup xs) → Pv p 0 σ H1) (hl : ∀ p i σ' H', i ≤ xs.length → Pv p i σ' H' → SqT K H' p xs)
    (hs : ∀ p i x σ' H', xs[i]? = some x → Pv p i σ' H' → g x σ' H' fun σ2 H2 => tu { D with nx := Pv p (i + 1), ct := Pv p (i + 1), bk := tz D } σ2 H2) (hd : ∀ p σ' H', Pv p xs.length σ' H' → tz D σ' H') : tSeq (tFor (iTup K tl) g tu) tz D σ H :=
  s_forNT (D := { D with nx := tz D }) h Pv h0 hl hs hd
theorem g_tup2 {i j : Nat} {p : Addr} {x y : V} {Q : L2.St → Hp → Prop} (h : SqT K H p [x, y]) (q : Q ((σ.set i (some x)).set j (some y)) H) : gTup K 2 (gCons (gName i) (gCons (gName j) gNil)) (.ref p) σ H Q :=
  ⟨p, [x, y], rfl, h, rfl, x, [y], rfl, y, [], rfl, rfl, q⟩
theorem q_unpack {i j : Nat} {p : Addr} (ha : Ev te σ H (.ref p)) (h : SqT K H p [x, y]) (k : ∀ H1, Ex H H1 → tz D ((σ.set i (some x)).set j (some y)) H1) : tSeq (tAsg te (gTup K 2 (gCons (gName i) (gCons (gName j) gNil)))) tz D σ H :=
  ha H (Ex.refl H) _ fun H1 e => g_tup2 (ex_t e h) (k H1 e)
/-- a chain of two comparisons of ints, as a value -/
theorem ev_chain {r r' : R2} {tc : TE} {y w : V} {a b : Bool} (ha : Ev ta σ H x) (hb : Ev tb σ H y) (hc : Ev tc σ H w) (h1 : RV r x y H (.bl a)) (h2 : RV r' y w H (.bl b)) : Ev (tChain r r' ta tb tc) σ H (.bl (a && b)) := fun H1 e Q q =>
  ha H1 e _ fun H2 e2 => hb H2 (e.trans e2) _ fun H3 e3 => h1 H3 ((e.trans e2).trans e3) _ fun H4 e4 => ⟨a, rfl, by
    have e' := (((e.trans e2).trans e3).trans e4)
    have e'' := ((e2.trans e3).trans e4)
    cases a with
    | true => exact hc H4 e' _ fun H5 e5 => h2 H5 (e'.trans e5) _ fun H6 e6 => q H6 ((e''.trans e5).trans e6)
    | false => exact q H4 e''⟩
end
/-! ### the cells of a script -/
def cel (ns : List Int) (j : Int) : Int := ns.getD j.toNat 0
theorem getD_ix {ns : List Int} {j : Int} (h0 : 0 ≤ j) (h : j < (ns.length : Int)) : atI (ns.map V.int) j = some (V.int (cel ns j)) := by
  unfold cel
  have h1 : j.toNat < ns.length := by omega
  have e : j = ((j.toNat : Nat) : Int) := by omega
  have e2 : (ns.map V.int)[j.toNat]? = some (V.int (ns.getD j.toNat 0)) := by
    rw [List.getElem?_map, List.getD_eq_getElem?_getD, List.getElem?_eq_getElem h1]
    rfl
  have h3 := atI_nat e2
  rw [← e] at h3
  exact h3
def RCel (K : PySem.W.Frag) (vs : List V) (H : Hp) (v : V) : Prop := ∃ (l : Addr) (ns : List Int) (j : Int), vs = [.ref l, .int j] ∧ 0 ≤ j ∧ SqL K H l (ns.map V.int) ∧ v = .int (cel ns j)
/-- what the def that looks whether a thing is a whole number hands back, of the things it is asked of -/
def RWhole (vs : List V) (_ : Hp) (v : V) : Prop := ∃ x, vs = [x] ∧ (((∃ i, x = .int i) ∧ v = .bl true) ∨ (x = .non ∧ v = .bl false) ∨ ((∃ b, x = .bl b) ∧ v = .bl false) ∨ ((∃ b, x = .str b) ∧ v = .bl false))
def RSlope (K : PySem.W.Frag) (vs : List V) (H : Hp) (xs : List V) : Prop := ∃ (l : Addr) (ns : List Int) (a b : Int), vs = [.ref l, .int a, .int b] ∧ 0 ≤ a ∧ a < (ns.length : Int) ∧ 0 ≤ b ∧ b < (ns.length : Int) ∧ SqL K H l (ns.map V.int) ∧
  xs = [.int (cel ns b - cel ns a), .int (b - a)]
def RSteeper (K : PySem.W.Frag) (vs : List V) (H : Hp) (v : V) : Prop := ∃ (p1 p2 : Addr) (r1 n1 r2 n2 : Int), vs = [.ref p1, .ref p2] ∧ SqT K H p1 [.int r1, .int n1] ∧ SqT K H p2 [.int r2, .int n2] ∧
  -(2 ^ 64) < n1 ∧ n1 < 2 ^ 64 ∧ -(2 ^ 64) < n2 ∧ n2 < 2 ^ 64 ∧ v = .bl (decide (r2 * n1 < r1 * n2))
section
variable {K : PySem.W.Frag} {σ : L2.St} {H : Hp} {ta : TA} {E : XK}
theorem ev_cel {l : Addr} {ns : List Int} {j : Int} (h : EvA ta σ H [.ref l, .int j]) (hs : SqL K H l (ns.map V.int)) (h0 : 0 ≤ j) : Ev (tCall (spV (RCel K)) [] E ta) σ H (.int (cel ns j)) :=
  ev_cal h fun _ e => ⟨l, ns, j, rfl, h0, ex_l e hs, rfl⟩
theorem ev_whole {i : Int} (h : EvA ta σ H [.int i]) : Ev (tCall (spV RWhole) [] E ta) σ H (.bl true) := ev_cal h fun _ _ => ⟨_, rfl, .inl ⟨⟨i, rfl⟩, rfl⟩⟩
theorem eu_slope {l : Addr} {ns : List Int} {a b : Int} (h : EvA ta σ H [.ref l, .int a, .int b]) (hs : SqL K H l (ns.map V.int)) (a0 : 0 ≤ a) (a1 : a < (ns.length : Int)) (b0 : 0 ≤ b) (b1 : b < (ns.length : Int)) :
    EvU (tCall (spU (RSlope K)) [] E ta) σ H [.int (cel ns b - cel ns a), .int (b - a)] := eu_cal h fun _ e => ⟨l, ns, a, b, rfl, a0, a1, b0, b1, ex_l e hs, rfl⟩
theorem ev_steeper {p1 p2 : Addr} {r1 n1 r2 n2 : Int} (h : EvA ta σ H [.ref p1, .ref p2]) (h1 : SqT K H p1 [.int r1, .int n1]) (h2 : SqT K H p2 [.int r2, .int n2]) (b1 : -(2 ^ 64) < n1) (b2 : n1 < 2 ^ 64) (b3 : -(2 ^ 64) < n2) (b4 : n2 < 2 ^ 64) :
    Ev (tCall (spV (RSteeper K)) [] E ta) σ H (.bl (decide (r2 * n1 < r1 * n2))) := ev_cal h fun _ e => ⟨p1, p2, r1, n1, r2, n2, rfl, ex_t e h1, ex_t e h2, b1, b2, b3, b4, rfl⟩
end
end Hx
namespace Hx
open PySem PySem.Spec PyProof.Rows L2 Evl
/-! ### the lands that the laws build -/
def heightOf (c k kind tilt : Int) : Int :=
  if kind = 0 then c % 7 - 3 else if kind = 1 then tilt * k + c % 2 else if kind = 2 then c * 48271 % (2 * 1000000000000000000 + 1) - 1000000000000000000
  else if kind = 3 then k * k * (tilt % 3 - 1) + c % 3 else 1000000000000000000 - c % 3
def RHeight (vs : List V) (_ : Hp) (v : V) : Prop := ∃ c k kind tilt : Int, vs = [.int c, .int k, .int kind, .int tilt] ∧ 0 ≤ k ∧ k ≤ 1000 ∧ -3 ≤ tilt ∧ tilt ≤ 3 ∧ v = .int (heightOf c k kind tilt)
def kindOf (ns : List Int) (most : Int) : Int := cel ns 0 / most % 5
def tiltOf (ns : List Int) (most : Int) : Int := cel ns 0 / most / 5 % 7 - 3
def landOf (ns : List Int) (most : Int) : List Int := (List.range (1 + cel ns 0 % most).toNat).map fun (k : Nat) => heightOf (cel ns (3 + (k : Int))) k (kindOf ns most) (tiltOf ns most)
def RLand (K : PySem.W.Frag) (vs : List V) (H : Hp) (xs : List V) : Prop := ∃ (l : Addr) (ns : List Int) (most : Int), vs = [.ref l, .int most] ∧ 1 ≤ most ∧ most ≤ 100 ∧ SqL K H l (ns.map V.int) ∧ xs = (landOf ns most).map V.int
def moreOf (ns : List Int) (most : Int) (n : Int) (k : Nat) : Int := heightOf (cel ns (3 + (k : Int) % 20) * ((k : Int) + 5)) (n + (k : Int)) (kindOf ns most) (tiltOf ns most)
def longerOf (ns land : List Int) (most many : Int) : List Int := land ++ (List.range many.toNat).map (moreOf ns most land.length)
def RLonger (K : PySem.W.Frag) (vs : List V) (H : Hp) (xs : List V) : Prop := ∃ (l b : Addr) (ns land : List Int) (most many : Int), vs = [.ref l, .ref b, .int most, .int many] ∧ 1 ≤ most ∧ most ≤ 100 ∧ 0 ≤ many ∧ (land.length : Int) + many ≤ 1000 ∧ SqL K H l (ns.map V.int) ∧ SqL K H b (land.map V.int) ∧
  xs = (longerOf ns land most many).map V.int
theorem landOf_len (ns : List Int) (most : Int) : (landOf ns most).length = (1 + cel ns 0 % most).toNat := by
  unfold landOf
  rw [List.length_map, List.length_range]
theorem longerOf_len (ns land : List Int) (most many : Int) : (longerOf ns land most many).length = land.length + many.toNat := by
  unfold longerOf
  rw [List.length_append, List.length_map, List.length_range]
section
variable {K : PySem.W.Frag} {σ : L2.St} {H : Hp} {ta : TA} {E : XK}
theorem ev_height {c k kind tilt : Int} (h : EvA ta σ H [.int c, .int k, .int kind, .int tilt]) (h1 : 0 ≤ k) (h2 : k ≤ 1000) (h3 : -3 ≤ tilt) (h4 : tilt ≤ 3) : Ev (tCall (spV RHeight) [] E ta) σ H (.int (heightOf c k kind tilt)) :=
  ev_cal h fun _ _ => ⟨c, k, kind, tilt, rfl, h1, h2, h3, h4, rfl⟩
theorem el_land {l : Addr} {ns : List Int} {most : Int} (h : EvA ta σ H [.ref l, .int most]) (hs : SqL K H l (ns.map V.int)) (h1 : 1 ≤ most) (h2 : most ≤ 100) : EvL (tCall (spL (RLand K)) [] E ta) σ H ((landOf ns most).map V.int) :=
  el_cal h fun _ e => ⟨l, ns, most, rfl, h1, h2, ex_l e hs, rfl⟩
theorem el_longer {l b : Addr} {ns land : List Int} {most many : Int} (h : EvA ta σ H [.ref l, .ref b, .int most, .int many]) (hs : SqL K H l (ns.map V.int)) (hb : SqL K H b (land.map V.int)) (h1 : 1 ≤ most) (h2 : most ≤ 100) (h3 : 0 ≤ many) (h4 : (land.length : Int) + many ≤ 1000) :
    EvL (tCall (spL (RLonger K)) [] E ta) σ H ((longerOf ns land most many).map V.int) := el_cal h fun _ e => ⟨l, b, ns, land, most, many, rfl, h1, h2, h3, h4, ex_l e hs, ex_l e hb, rfl⟩
theorem et_yes : EvT tYes σ H true := fun H1 _ _ q => q H1 (Ex.refl H1)
theorem given_all {n : Nat} {v : Nat → V} {g : Nat → Int} (h : ∀ i, v i = .int (g i)) : given n (fun _ => true) v = ((List.range n).map g).map V.int := by
  unfold given
  rw [List.filter_eq_self.mpr (fun _ _ => rfl), List.map_map]
  exact List.map_congr_left fun i _ => h i
end
end Hx
namespace Hx
open PySem PySem.Spec PyProof.Rows L2 Evl
section
variable {K : PySem.W.Frag} {σ : L2.St} {H : Hp} {ta tb : TE} {x : V}
theorem rv_isN : RV (fun x y H Q => y = .non ∧ Q (.bl (decide (x = .non))) H) x .non H (.bl (decide (x = .non))) := fun H1 _ _ q => ⟨rfl, q H1 (Ex.refl H1)⟩
theorem rv_notN : RV (fun x y H Q => y = .non ∧ Q (.bl (!decide (x = .non))) H) x .non H (.bl (!decide (x = .non))) := fun H1 _ _ q => ⟨rfl, q H1 (Ex.refl H1)⟩
end
end Hx
namespace Hx
open PySem PySem.Spec PyProof.Rows L2 Evl
section
variable {σ : L2.St} {H : Hp}
theorem ev_pow {a b c : Int} (h1 : CPow a b) (h2 : a ^ b.toNat = c) : Ev (tOp (rI CPow fun i j => .int (i ^ j.toNat)) (tC (.int a)) (tC (.int b))) σ H (.int c) := h2 ▸ ev_op ev_c ev_c (rv_I h1)
theorem ev_pow18 : Ev (tOp (rI CPow fun i j => .int (i ^ j.toNat)) (tC (.int 10)) (tC (.int 18))) σ H (.int 1000000000000000000) := ev_pow ⟨by decide, by decide, by decide⟩ (by decide)
theorem ev_pow14 : Ev (tOp (rI CPow fun i j => .int (i ^ j.toNat)) (tC (.int 10)) (tC (.int 14))) σ H (.int 100000000000000) := ev_pow ⟨by decide, by decide, by decide⟩ (by decide)
theorem ev_pow9 : Ev (tOp (rI CPow fun i j => .int (i ^ j.toNat)) (tC (.int 10)) (tC (.int 9))) σ H (.int 1000000000) := ev_pow ⟨by decide, by decide, by decide⟩ (by decide)
end
end Hx
/-! The mathematics of looking: which hills see each other, by products of whole numbers. -/
namespace Hx
/-- the slope from a to k is less than that from a to b -/
def lowB (land : List Int) (a b k : Int) : Prop := (cel land k - cel land a) * (b - a) < (cel land b - cel land a) * (k - a)
instance {land : List Int} {a b k : Int} : Decidable (lowB land a b k) := by unfold lowB; infer_instance
def seesP (land : List Int) (a b : Int) : Prop := ∀ k, a < k → k < b → lowB land a b k
def seesB (land : List Int) (a b : Int) : Bool := (List.range (b - a - 1).toNat).all fun i => decide (lowB land a b (a + 1 + (i : Int)))
theorem seesB_iff {land : List Int} {a b : Int} : seesB land a b = true ↔ seesP land a b := by
  unfold seesB seesP
  rw [List.all_eq_true]
  constructor
  · intro h k h1 h2
    have z := h (k - a - 1).toNat (List.mem_range.mpr (by omega))
    have e : a + 1 + (((k - a - 1).toNat : Nat) : Int) = k := by omega
    rw [e] at z
    exact of_decide_eq_true z
  · intro h i hi
    have hi := List.mem_range.mp hi
    exact decide_eq_true (h _ (by omega) (by omega))
theorem seesB_false {land : List Int} {a b k : Int} (h1 : a < k) (h2 : k < b) (h : ¬ lowB land a b k) : seesB land a b = false := by
  cases e : seesB land a b with
  | false => rfl
  | true => exact absurd (seesB_iff.mp e k h1 h2) h
/-- the best of the places a + 1 .. a + i: none is steeper from a -/
def Best (land : List Int) (a : Int) (i : Nat) (best : Int) : Prop := a < best ∧ best ≤ a + i ∧ ∀ k, a < k → k ≤ a + i → (cel land k - cel land a) * (best - a) ≤ (cel land best - cel land a) * (k - a)
theorem lt_of_best {x y z n1 n2 n3 : Int} (h2 : 0 < n2) (h3 : 0 < n3) (h1 : 0 < n1) (a : y * n1 < x * n2) (b : z * n2 ≤ y * n3) : z * n1 < x * n3 := by
  have k1 : z * n2 * n1 ≤ y * n3 * n1 := Int.mul_le_mul_of_nonneg_right b (by omega)
  have k2 : y * n1 * n3 < x * n2 * n3 := Int.mul_lt_mul_of_pos_right a h3
  have k3 : (z * n1) * n2 < (x * n3) * n2 := by grind
  exact Int.lt_of_mul_lt_mul_right k3 (by omega)
theorem le_of_best {x y z n1 n2 n3 : Int} (h2 : 0 < n2) (h3 : 0 < n3) (h1 : 0 < n1) (a : y * n1 ≤ x * n2) (b : z * n2 ≤ y * n3) : z * n1 ≤ x * n3 := by
  have k1 : z * n2 * n1 ≤ y * n3 * n1 := Int.mul_le_mul_of_nonneg_right b (by omega)
  have k2 : y * n1 * n3 ≤ x * n2 * n3 := Int.mul_le_mul_of_nonneg_right a (by omega)
  have k3 : (z * n1) * n2 ≤ (x * n3) * n2 := by grind
  exact Int.le_of_mul_le_mul_right k3 h2
theorem best_one (land : List Int) (a : Int) : Best land a 1 (a + 1) := by
  refine ⟨by omega, by omega, fun k h1 h2 => ?_⟩
  have e : k = a + 1 := by omega
  rw [e]
  omega
/-- the next place is steeper than the best: it is seen, and the best -/
theorem best_yes {land : List Int} {a best : Int} {i : Nat} (h : Best land a i best) (hs : (cel land best - cel land a) * (a + 1 + i - a) < (cel land (a + 1 + i) - cel land a) * (best - a)) :
    Best land a (i + 1) (a + 1 + i) ∧ seesB land a (a + 1 + i) = true := by
  obtain ⟨h1, h2, h3⟩ := h
  refine ⟨⟨by omega, by omega, fun k k1 k2 => ?_⟩, seesB_iff.mpr fun k k1 k2 => ?_⟩
  · by_cases e : k = a + 1 + i
    · rw [e]
      omega
    · exact le_of_best (n2 := best - a) (by omega) (by omega) (by omega) (Int.le_of_lt hs) (h3 k k1 (by omega))
  · exact lt_of_best (n2 := best - a) (by omega) (by omega) (by omega) hs (h3 k k1 (by omega))
theorem best_no {land : List Int} {a best : Int} {i : Nat} (h : Best land a i best) (hs : ¬ (cel land best - cel land a) * (a + 1 + i - a) < (cel land (a + 1 + i) - cel land a) * (best - a)) :
    Best land a (i + 1) best ∧ seesB land a (a + 1 + i) = false := by
  obtain ⟨h1, h2, h3⟩ := h
  refine ⟨⟨by omega, by omega, fun k k1 k2 => ?_⟩, seesB_false (k := best) (by omega) (by omega) hs⟩
  by_cases e : k = a + 1 + i
  · rw [e]
    omega
  · exact h3 k k1 (by omega)
theorem sees_next (land : List Int) (a : Int) : seesB land a (a + 1) = true := seesB_iff.mpr fun k h1 h2 => by omega
/-- what the hill at a sees ahead of it, of the next i places -/
def aheadN (land : List Int) (a : Int) (i : Nat) : List Int := ((List.range i).map fun (j : Nat) => a + 1 + (j : Int)).filter (seesB land a)
theorem aheadN_yes {land : List Int} {a : Int} {i : Nat} (h : seesB land a (a + 1 + i) = true) : aheadN land a (i + 1) = aheadN land a i ++ [a + 1 + (i : Int)] := by
  unfold aheadN
  rw [List.range_succ, List.map_append, List.filter_append]
  simp [h]
theorem aheadN_no {land : List Int} {a : Int} {i : Nat} (h : seesB land a (a + 1 + i) = false) : aheadN land a (i + 1) = aheadN land a i := by
  unfold aheadN
  rw [List.range_succ, List.map_append, List.filter_append]
  simp [h]
theorem aheadN_len (land : List Int) (a : Int) (i : Nat) : (aheadN land a i).length ≤ i := by
  unfold aheadN
  have h := List.length_filter_le (seesB land a) ((List.range i).map fun (j : Nat) => a + 1 + (j : Int))
  rw [List.length_map, List.length_range] at h
  exact h
def aheadOf (land : List Int) (a : Int) : List Int := aheadN land a ((land.length : Int) - (a + 1)).toNat
theorem mem_aheadOf {land : List Int} {a b : Int} : b ∈ aheadOf land a ↔ a < b ∧ b < (land.length : Int) ∧ seesP land a b := by
  unfold aheadOf aheadN
  rw [List.mem_filter, List.mem_map, seesB_iff]
  constructor
  · rintro ⟨⟨j, hj, rfl⟩, h⟩
    have hj := List.mem_range.mp hj
    exact ⟨by omega, by omega, h⟩
  · rintro ⟨h1, h2, h⟩
    exact ⟨⟨(b - a - 1).toNat, List.mem_range.mpr (by omega), by omega⟩, h⟩
end Hx
namespace Hx
open PySem PySem.Spec PyProof.Rows L2 Evl
def RAhead (K : PySem.W.Frag) (vs : List V) (H : Hp) (xs : List V) : Prop := ∃ (l : Addr) (land : List Int) (a : Int), vs = [.ref l, .int a] ∧ 0 ≤ a ∧ a < (land.length : Int) ∧ land.length ≤ 1000 ∧ SqL K H l (land.map V.int) ∧ xs = (aheadOf land a).map V.int
section
variable {K : PySem.W.Frag} {σ : L2.St} {H : Hp} {ta : TA} {E : XK}
theorem el_ahead {l : Addr} {land : List Int} {a : Int} (h : EvA ta σ H [.ref l, .int a]) (hs : SqL K H l (land.map V.int)) (h1 : 0 ≤ a) (h2 : a < (land.length : Int)) (h3 : land.length ≤ 1000) : EvL (tCall (spL (RAhead K)) [] E ta) σ H ((aheadOf land a).map V.int) :=
  el_cal h fun _ e => ⟨l, land, a, rfl, h1, h2, h3, ex_l e hs, rfl⟩
end
end Hx
/-! Lists of pairs of whole numbers: each item a tuple of its own. -/
namespace Hx
open PySem PySem.Spec PyProof.Rows L2 Evl
/-- at the addresses stand the pairs -/
def Tups (H : Hp) (as : List Addr) (ps : List (Int × Int)) : Prop := as.length = ps.length ∧ ∀ (i : Nat) (a : Addr) (q : Int × Int), as[i]? = some a → ps[i]? = some q → H a = some (.tup [.int q.1, .int q.2])
theorem Tups.nil (H : Hp) : Tups H [] [] := ⟨rfl, fun i a q h => by simp at h⟩
theorem Tups.ex {H H' : Hp} {as : List Addr} {ps : List (Int × Int)} (e : Ex H H') (t : Tups H as ps) : Tups H' as ps := ⟨t.1, fun i a q h1 h2 => e _ _ (t.2 i a q h1 h2)⟩
theorem Tups.snoc {H : Hp} {as : List Addr} {ps : List (Int × Int)} {p : Addr} {q : Int × Int} (t : Tups H as ps) (h : H p = some (.tup [.int q.1, .int q.2])) : Tups H (as ++ [p]) (ps ++ [q]) := by
  refine ⟨by rw [List.length_append, List.length_append, t.1]; rfl, fun i a r h1 h2 => ?_⟩
  by_cases hi : i < as.length
  · rw [List.getElem?_append_left hi] at h1
    rw [List.getElem?_append_left (by rw [← t.1]; exact hi)] at h2
    exact t.2 i a r h1 h2
  · rw [List.getElem?_append_right (by omega)] at h1
    rw [List.getElem?_append_right (by rw [← t.1]; omega), ← t.1] at h2
    cases e : i - as.length with
    | zero =>
      rw [e] at h1 h2
      have e1 : p = a := Option.some.inj h1
      have e2 : q = r := Option.some.inj h2
      rw [← e1, ← e2]
      exact h
    | succ k =>
      rw [e] at h1
      simp at h1
theorem Tups.upd {H : Hp} {as : List Addr} {ps : List (Int × Int)} {D : Addr} {xs ys : List V} (t : Tups H as ps) (h : H D = some (.lst xs)) : Tups (upd H D (.lst ys)) as ps := ⟨t.1, fun i a q h1 h2 => by
  have z := t.2 i a q h1 h2
  have n : a ≠ D := ne_of z h (by intro w; cases w)
  rw [upd_ne n]
  exact z⟩
/-- evaluates to a new list of those pairs -/
def EvP (te : TE) (σ : L2.St) (H : Hp) (ps : List (Int × Int)) : Prop := ∀ H1, Ex H H1 → ∀ Q : VK, (∀ p H2 as, H1 p = none → Ex H1 H2 → H2 p = some (.lst (as.map V.ref)) → Tups H2 as ps → Q (.ref p) H2) → te σ H1 Q
def RetP (ps : List (Int × Int)) (H : Hp) (Q : VK) : Prop := ∀ p H2 as, H p = none → Ex H H2 → H2 p = some (.lst (as.map V.ref)) → Tups H2 as ps → Q (.ref p) H2
def spP (R : List V → Hp → List (Int × Int) → Prop) : Sp := fun vs H Q _ => ∃ xs, R vs H xs ∧ RetP xs H Q
section
variable {K : PySem.W.Frag} {σ : L2.St} {H : Hp} {ta tb te tl : TE} {D : Ends} {tz : TS} {ps : List (Int × Int)}
theorem ep_cal {R : List V → Hp → List (Int × Int) → Prop} {vs : List V} {E : XK} {ta : TA} (h : EvA ta σ H vs) (hs : ∀ H1, Ex H H1 → R vs H1 ps) : EvP (tCall (spP R) [] E ta) σ H ps :=
  fun H1 e Q q => h H1 e _ fun H2 e2 => ⟨ps, by rw [List.append_nil]; exact hs H2 (e.trans e2), fun p H3 as hp e3 h3 t3 => q p H3 as (fresh_back e2 hp) (e2.trans e3) h3 t3⟩
theorem q_asgP {i : Nat} (h : EvP te σ H ps) (k : ∀ p H1 as, H p = none → Ex H H1 → H1 p = some (.lst (as.map V.ref)) → Tups H1 as ps → tz D (σ.set i (some (.ref p))) H1) : tSeq (tAsg te (gName i)) tz D σ H :=
  h H (Ex.refl H) _ k
theorem s_retP (h : EvP te σ H ps) (k : ∀ p H1 as, H p = none → Ex H H1 → H1 p = some (.lst (as.map V.ref)) → Tups H1 as ps → D.rt (.ref p) H1) : tRet te D σ H := h H (Ex.refl H) _ k
theorem t_yes {A B : Hp → Prop} (h : A H) : tYes σ H fun b H1 => if b = true then A H1 else B H1 := by
  show (if true = true then A H else B H)
  rw [if_pos rfl]
  exact h
/-- [(a, b) for a in range(n) for b in row(a)] -/
def flatP (row : Nat → List Int) (n : Nat) : List (Int × Int) := (List.range n).flatMap fun k => (row k).map fun b => ((k : Int), b)
theorem flatP_succ (row : Nat → List Int) (n : Nat) : flatP row (n + 1) = flatP row n ++ (row n).map fun b => ((n : Int), b) := by
  unfold flatP
  rw [List.range_succ, List.flatMap_append]
  simp
theorem ep_lc2 {ta ta2 : TA} {i j : Nat} {vs vs1 : List Nat} {n : Int} (row : Nat → List Int) (h : EvA ta σ H [.int n]) (hn : 0 ≤ n ∧ n ≤ 1000) (hrow : ∀ k, (row k).length ≤ 1000)
    (hw : ∀ x, wipe ((wipe σ vs).set i (some x)) vs = wipe σ vs) (hw1 : ∀ x y, wipe ((wipe ((wipe σ vs).set i (some x)) vs1).set j (some y)) vs1 = wipe ((wipe σ vs).set i (some x)) vs1)
    (hl : ∀ (k : Nat) H1, Ex H H1 → (k : Int) < n → EvL tl ((wipe σ vs).set i (some (.int (k : Int)))) H1 ((row k).map V.int))
    (he : ∀ (k : Nat) (b : Int) H1, Ex H H1 → (k : Int) < n → EvA ta2 ((wipe ((wipe σ vs).set i (some (.int (k : Int)))) vs1).set j (some (.int b))) H1 [.int (k : Int), .int b]) :
    EvP (tLc2 (iRng1 ta) (gName i) tYes (iList K tl) (gName j) tYes (tTup ta2) vs vs1) σ H (flatP row n.toNat) := fun H0 e0 Q q => h H0 e0 _ fun H1 e1 => ⟨n, rfl, by omega, by omega, fun Dl hD => by
  let Pv : Nat → Hp → Prop := fun k H' => Ex H1 H' ∧ ∃ as, H' Dl = some (.lst (as.map V.ref)) ∧ Tups H' as (flatP row k) ∧ as.length ≤ k * 1000
  refine ⟨fun k m H' => m = n.toNat - k ∧ k ≤ n.toNat ∧ Pv k H', ⟨n.toNat, by omega, Nat.zero_le _, Ex.new hD, [], upd_same, Tups.nil _, Nat.zero_le _⟩, ?_⟩
  rintro k m H' ⟨rfl, hk, e2, as, hl2, t2, z2⟩
  by_cases hlt : k < n.toNat
  · refine .inr ⟨hlt, Pv (k + 1), fun H'' p => ⟨n.toNat - (k + 1), by omega, rfl, hlt, p⟩, fun x H'' y => ?_⟩
    obtain ⟨y1, y2⟩ := y
    subst y1 y2
    have ek : ((0 : Int) + ((k : Nat) : Int)) = (k : Int) := Int.zero_add _
    show wipe ((wipe σ vs).set i (some (.int ((0 : Int) + ((k : Nat) : Int))))) vs = wipe σ vs ∧ _
    rw [ek]
    refine ⟨hw _, ?_⟩
    refine t_yes ?_
    refine hl k H'' ((e0.trans e1).trans e2) (by omega) H'' (Ex.refl _) _ fun p H3 hp e3 h3 => ⟨p, rfl, ⟨_, sq_of h3⟩, ?_⟩
    let Pv1 : Nat → Hp → Prop := fun b H4 => Ex H1 H4 ∧ H4 p = some (.lst ((row k).map V.int)) ∧ ∃ as, H4 Dl = some (.lst (as.map V.ref)) ∧ Tups H4 as (flatP row k ++ ((row k).take b).map fun b => ((k : Int), b)) ∧ as.length ≤ k * 1000 + b
    have npD : p ≠ Dl := fun z => by rw [z, hl2] at hp; cases hp
    have n1p : H1 p = none := fresh_back e2 hp
    refine ⟨fun b m H4 => m = (row k).length - b ∧ b ≤ (row k).length ∧ Pv1 b H4, ⟨(row k).length, by omega, Nat.zero_le _, e2.trans e3, h3, as, e3 _ _ hl2, ?_, by omega⟩, ?_⟩
    · rw [List.take_zero, List.map_nil, List.append_nil]
      exact t2.ex e3
    rintro b m H4 ⟨rfl, hb, e4, h4, as', hl4, t4, z4⟩
    by_cases hbl : b < (row k).length
    · have hx : ((row k).map V.int)[b]? = some (.int (row k)[b]) := by rw [List.getElem?_map, List.getElem?_eq_getElem hbl]; rfl
      refine .inr ⟨⟨_, _, sq_of h4, hx⟩, Pv1 (b + 1), fun H5 p5 => ⟨(row k).length - (b + 1), by omega, rfl, hbl, p5⟩, fun x H5 y => ?_⟩
      obtain ⟨y1, y2⟩ := y
      subst y1
      have ex := (y2 _ (sq_of h4)).symm.trans hx
      have ex := Option.some.inj ex
      subst ex
      refine ⟨hw1 _ _, ?_⟩
      refine t_yes ?_
      refine he k _ H5 ((e0.trans e1).trans e4) (by omega) H5 (Ex.refl _) _ fun H6 e6 => ⟨sz_of (Nat.le_of_ble_eq_true rfl), fun t nt => ?_⟩
      have hl6 := e6 _ _ hl4
      have ntD : Dl ≠ t := ne_of_none hl6 nt
      have e7 : Ex H6 (upd H6 t (.tup [.int (k : Int), .int (row k)[b]])) := Ex.new nt
      have hl7 := e7 _ _ hl6
      have hk1 := hrow k
      have hk2 : k ≤ 1000 := by omega
      refine ⟨_, hl7, (by rw [List.length_map, sizeLine_eq]; omega), Ex.mut ((e4.trans e6).trans e7) hD, ?_, as' ++ [t], ?_, ?_, ?_⟩
      · rw [upd_ne npD]
        exact e7 _ _ (e6 _ _ h4)
      · rw [upd_same, List.map_append]
        rfl
      · have z := (((t4.ex e6).ex e7).snoc (p := t) (q := ((k : Int), (row k)[b])) upd_same).upd (ys := as'.map V.ref ++ [.ref t]) hl7
        rw [List.append_assoc] at z
        have et : (row k).take (b + 1) = (row k).take b ++ [(row k)[b]] := by rw [List.take_add_one, List.getElem?_eq_getElem hbl]; rfl
        rw [et, List.map_append]
        exact z
      · rw [List.length_append]
        show as'.length + 1 ≤ _
        omega
    · have eb : b = (row k).length := by omega
      subst eb
      refine .inl ⟨⟨_, sq_of h4, by rw [List.length_map]; omega⟩, e4, as', hl4, ?_, ?_⟩
      · rw [flatP_succ]
        rw [List.take_length] at t4
        exact t4
      · have := hrow k
        omega
  · have ek : k = n.toNat := by omega
    subst ek
    exact .inl ⟨Nat.le_refl _, q Dl H' as (fresh_back e1 hD) (e1.trans e2) hl2 t2⟩⟩
end
end Hx
namespace Hx
open PySem PySem.Spec PyProof.Rows L2 Evl
/-- the sights of a land -/
def sightsOf (land : List Int) : List (Int × Int) := flatP (fun k => aheadOf land (k : Int)) ((land.length : Nat) : Int).toNat
def RSights (K : PySem.W.Frag) (vs : List V) (H : Hp) (xs : List (Int × Int)) : Prop := ∃ (l : Addr) (land : List Int), vs = [.ref l] ∧ land.length ≤ 1000 ∧ SqL K H l (land.map V.int) ∧ xs = sightsOf land
theorem ep_sights {K : PySem.W.Frag} {σ : L2.St} {H : Hp} {ta : TA} {E : XK} {l : Addr} {land : List Int} (h : EvA ta σ H [.ref l]) (hs : SqL K H l (land.map V.int)) (h3 : land.length ≤ 1000) : EvP (tCall (spP (RSights K)) [] E ta) σ H (sightsOf land) :=
  ep_cal h fun _ e => ⟨l, land, rfl, h3, ex_l e hs, rfl⟩
theorem mem_sightsOf {land : List Int} {a b : Int} : (a, b) ∈ sightsOf land ↔ 0 ≤ a ∧ a < b ∧ b < (land.length : Int) ∧ seesP land a b := by
  unfold sightsOf flatP
  rw [List.mem_flatMap]
  constructor
  · rintro ⟨k, hk, h⟩
    have hk := List.mem_range.mp hk
    obtain ⟨c, hc, e⟩ := List.mem_map.mp h
    have e1 : ((k : Nat) : Int) = a := congrArg Prod.fst e
    have e2 : c = b := congrArg Prod.snd e
    subst e1 e2
    obtain ⟨h1, h2, h3⟩ := mem_aheadOf.mp hc
    exact ⟨by omega, h1, h2, h3⟩
  · rintro ⟨h0, h1, h2, h3⟩
    refine ⟨a.toNat, List.mem_range.mpr (by omega), List.mem_map.mpr ⟨b, ?_, ?_⟩⟩
    · have e : ((a.toNat : Nat) : Int) = a := by omega
      show b ∈ aheadOf land ((a.toNat : Nat) : Int)
      rw [e]
      exact mem_aheadOf.mpr ⟨h1, h2, h3⟩
    · have e : ((a.toNat : Nat) : Int) = a := by omega
      rw [e]
end Hx
/-! Lists of pairs compared and sorted; the sights of lands that are tilted, stretched, turned. -/
namespace Hx
open PySem PySem.Spec PyProof.Rows L2 Evl
def pD (q : Int × Int) : PyData := .tuple [.int q.1, .int q.2]
theorem pD_lay (z : Int × Int) : (pD z).canLay0 = true := by simp [pD, PyData.canLay0, PyData.canLayAll0]
theorem pD_depth (z : Int × Int) : (pD z).depth ≤ 1 := by simp [pD, PyData.depth, PyData.depthAll]
theorem pDs_lay : ∀ zs : List (Int × Int), PyData.canLayAll0 (zs.map pD) = true
  | [] => by simp [PyData.canLayAll0]
  | z :: zs => by simp [PyData.canLayAll0, pD_lay z, pDs_lay zs]
theorem pDs_depth : ∀ zs : List (Int × Int), PyData.depthAll (zs.map pD) ≤ 3
  | [] => by simp [PyData.depthAll]
  | z :: zs => by
    have h1 := pDs_depth zs
    have h2 := pD_depth z
    simp only [List.map_cons, PyData.depthAll]
    omega
theorem pDs_shaped (zs : List (Int × Int)) : SeqAt.shaped (.list (zs.map pD)) = true := by
  have h1 := pDs_depth zs
  have h2 : PyData.depth (.list (zs.map pD)) ≤ 64 := by
    simp only [PyData.depth]
    omega
  show (PyData.canLay0 (.list (zs.map pD)) && decide (PyData.depth (.list (zs.map pD)) ≤ 64)) = true
  rw [Bool.and_eq_true]
  exact ⟨by simp only [PyData.canLay0]; exact pDs_lay zs, decide_eq_true h2⟩
theorem pD_eqv (z w : Int × Int) : PyData.eqv (pD z) (pD w) = decide (z = w) := by
  obtain ⟨a, b⟩ := z
  obtain ⟨c, d⟩ := w
  have e : PyData.eqv (pD (a, b)) (pD (c, d)) = ((a == c) && ((b == d) && true)) := by simp only [pD, PyData.eqv, PyData.eqvAll]
  rw [e]
  by_cases h1 : a = c <;> by_cases h2 : b = d <;> simp [h1, h2]
theorem pDs_eqvAll : ∀ zs ws : List (Int × Int), PyData.eqvAll (zs.map pD) (ws.map pD) = decide (zs = ws)
  | [], [] => by simp [PyData.eqvAll]
  | [], _ :: _ => by simp [PyData.eqvAll]
  | _ :: _, [] => by simp [PyData.eqvAll]
  | n :: r, m :: s => by
    have h := pDs_eqvAll r s
    simp only [List.map_cons, PyData.eqvAll, pD_eqv, h]
    by_cases e : n = m <;> by_cases e2 : r = s <;> simp [e, e2]
theorem pDs_eqv (zs ws : List (Int × Int)) : PyData.eqv (.list (zs.map pD)) (.list (ws.map pD)) = decide (zs = ws) := by
  simp only [PyData.eqv, pDs_eqvAll]
section
variable {K : PySem.W.Frag} {σ : L2.St} {H : Hp} {ta tb te tl : TE} {D : Ends} {tz : TS} {ps qs : List (Int × Int)} {as bs : List Addr} {p q : Addr}
theorem dp_tups : ∀ {as : List Addr} {ps : List (Int × Int)}, Tups H as ps → DpAll K H (as.map V.ref) (ps.map pD)
  | [], [], _ => .nil
  | [], _ :: _, t => by cases t.1
  | _ :: _, [], t => by cases t.1
  | a :: as, z :: ps, t => .cons (.tup (st_of (t.2 0 a z rfl rfl)) (.cons (.int _) (.cons (.int _) .nil))) (dp_tups ⟨Nat.succ.inj t.1, fun i a q h1 h2 => t.2 (i + 1) a q h1 h2⟩)
/-- at p stands a list of the pairs -/
def PrL (H : Hp) (p : Addr) (ps : List (Int × Int)) : Prop := ∃ as, H p = some (.lst (as.map V.ref)) ∧ Tups H as ps
theorem PrL.ex {H H' : Hp} (e : Ex H H') (h : PrL H p ps) : PrL H' p ps := by
  obtain ⟨as, h1, h2⟩ := h
  exact ⟨as, e _ _ h1, h2.ex e⟩
theorem PrL.dp {K : PySem.W.Frag} (h : PrL H p ps) : Dp K H (.ref p) (.list (ps.map pD)) := by
  obtain ⟨as, h1, h2⟩ := h
  exact .lst (sq_of h1) (dp_tups h2)
theorem rv_eqP (h1 : PrL H p ps) (h2 : PrL H q qs) : RV (rEqD K) (.ref p) (.ref q) H (.bl (decide (ps = qs))) :=
  fun H1 e Q k => ⟨_, _, (h1.ex e).dp, (h2.ex e).dp, pDs_shaped ps, pDs_shaped qs, by rw [pDs_eqv]; exact k H1 (Ex.refl H1)⟩
theorem rv_neP (h1 : PrL H p ps) (h2 : PrL H q qs) : RV (rNeD K) (.ref p) (.ref q) H (.bl (!decide (ps = qs))) :=
  fun H1 e Q k => ⟨_, _, (h1.ex e).dp, (h2.ex e).dp, pDs_shaped ps, pDs_shaped qs, by rw [pDs_eqv]; exact k H1 (Ex.refl H1)⟩
/-- a new list of pairs on the left, on the right -/
theorem ev_opPl {r : R2} {y z : V} (ha : EvP ta σ H ps) (hb : Ev tb σ H y) (hr : ∀ p H1, PrL H1 p ps → Ex H H1 → RV r (.ref p) y H1 z) : Ev (tOp r ta tb) σ H z := fun H1 e Q k =>
  ha H1 e _ fun p H2 as _ e2 h2 t2 => hb H2 (e.trans e2) _ fun H3 e3 => hr p H2 ⟨as, h2, t2⟩ (e.trans e2) H3 e3 _ fun H4 e4 => k H4 ((e2.trans e3).trans e4)
theorem ev_opPr {r : R2} {x z : V} (ha : Ev ta σ H x) (hb : EvP tb σ H ps) (hr : ∀ p H1, PrL H1 p ps → Ex H H1 → RV r x (.ref p) H1 z) : Ev (tOp r ta tb) σ H z := fun H1 e Q k =>
  ha H1 e _ fun H2 e2 => hb H2 (e.trans e2) _ fun p H3 as _ e3 h3 t3 => hr p H3 ⟨as, h3, t3⟩ ((e.trans e2).trans e3) H3 (Ex.refl _) _ fun H4 e4 => k H4 ((e2.trans e3).trans e4)
/-- the lesser by the first, then by the second -/
def ltq (x y : Int × Int) : Prop := x.1 < y.1 ∨ (x.1 = y.1 ∧ x.2 < y.2)
def keyOf (H : Hp) : V → Int × Int := fun v => match v with
  | .ref t => (match H t with
    | some (.tup [.int a, .int b]) => (a, b)
    | _ => (0, 0))
  | _ => (0, 0)
theorem keyOf_at {t : Addr} {a b : Int} (h : H t = some (.tup [.int a, .int b])) : keyOf H (.ref t) = (a, b) := by
  unfold keyOf
  simp only [h]
theorem ep_sorted {qs : List (Int × Int)} (h : EvP te σ H ps) (hp : qs.Perm ps) (hs : qs.Pairwise ltq) : EvP (tCB (rSortedPO K) (tCons te tNil)) σ H qs := fun H0 e0 Q k => by
  refine h H0 e0 _ fun p H1 as np e1 h1 t1 => ?_
  have hk : ∀ x ∈ as.map V.ref, ∃ t, x = V.ref t ∧ H1 t = some (.tup [.int (keyOf H1 x).1, .int (keyOf H1 x).2]) := by
    intro x hx
    obtain ⟨t, ht, rfl⟩ := List.mem_map.mp hx
    obtain ⟨i, hi, et⟩ := List.getElem_of_mem ht
    have hi2 : i < ps.length := by rw [← t1.1]; exact hi
    have z := t1.2 i t ps[i] (by rw [List.getElem?_eq_getElem hi, et]) (List.getElem?_eq_getElem hi2)
    refine ⟨t, rfl, ?_⟩
    rw [keyOf_at z]
    exact z
  refine ⟨p, as.map V.ref, keyOf H1, rfl, sq_of h1, hk, fun ys l hys hst hl => ?_⟩
  have hm : (as.map V.ref).map (keyOf H1) = ps := by
    refine List.ext_getElem ?_ fun i h2 h3 => ?_
    · rw [List.length_map, List.length_map, t1.1]
    · have hi : i < as.length := by simpa using h2
      rw [List.getElem_map, List.getElem_map]
      have z := t1.2 i as[i] ps[i] (List.getElem?_eq_getElem hi) (List.getElem?_eq_getElem h3)
      rw [keyOf_at z]
  have hyp : (ys.map (keyOf H1)).Perm ps := by
    rw [← hm]
    exact hst.perm.map _
  have hysq : ys.map (keyOf H1) = qs := by
    refine List.Perm.eq_of_pairwise (le := fun x y => ¬ ltq y x) ?_ ?_ ?_ (hyp.trans hp.symm)
    · intro a b _ _ h1 h2
      unfold ltq at h1 h2
      exact Prod.ext (by omega) (by omega)
    · rw [List.pairwise_map]
      refine hys.imp fun {x y} hxy => ?_
      intro z
      have w : ltP (keyOf H1) y x = true := SrtO.lexB_iff.mpr (by unfold ltq at z; omega)
      rw [w] at hxy
      cases hxy
    · refine hs.imp fun {x y} hxy => ?_
      unfold ltq at hxy ⊢
      omega
  -- the refs, as addresses
  have hys' : ∃ cs : List Addr, ys = cs.map V.ref := by
    refine ⟨ys.map (fun v => match v with | .ref t => t | _ => 0), ?_⟩
    rw [List.map_map]
    refine (List.map_id ys).symm.trans (List.map_congr_left fun v hv => ?_)
    obtain ⟨t, _, rfl⟩ := List.mem_map.mp (hst.perm.mem_iff.mp hv)
    rfl
  obtain ⟨cs, rfl⟩ := hys'
  refine k l _ cs (fresh_back e1 hl) (e1.trans (Ex.new hl)) upd_same ?_
  refine ⟨by rw [← hysq, List.length_map, List.length_map], fun i a q h2 h3 => ?_⟩
  have hmem : V.ref a ∈ as.map V.ref := hst.perm.mem_iff.mp (List.mem_map.mpr ⟨a, List.mem_of_getElem? h2, rfl⟩)
  obtain ⟨t, e, z⟩ := hk _ hmem
  cases e
  rw [← hysq, List.getElem?_map, List.getElem?_map, h2] at h3
  have e3 : keyOf H1 (.ref a) = q := Option.some.inj h3
  rw [e3] at z
  exact Ex.new hl _ _ z
end
end Hx

namespace Hx
open PySem PySem.Spec PyProof.Rows L2 Evl
section
variable {K : PySem.W.Frag} {σ : L2.St} {H : Hp} {te tl : TE} {ps : List (Int × Int)} {p : Addr}
/-! ### comprehensions over int lists and lists of pairs -/
theorem given_of {xs : List Int} {v : Nat → V} {g : Int → Int} (h : ∀ i x, xs[i]? = some x → v i = .int (g x)) : given xs.length (fun _ => true) v = (xs.map g).map V.int := by
  unfold given
  rw [List.filter_eq_self.mpr (fun _ _ => rfl)]
  refine List.ext_getElem (by simp) fun i h1 h2 => ?_
  have hi : i < xs.length := by simpa using h1
  rw [List.getElem_map, List.getElem_map, List.getElem_map, List.getElem_range]
  exact h i _ (List.getElem?_eq_getElem hi)
theorem el_lcIN {xs : List Int} {j : Nat} {vs : List Nat} (g : Int → Int) (h : EvL tl σ H (xs.map V.int)) (hz : xs.length ≤ 40000) (hw : ∀ x, wipe ((wipe σ vs).set j (some x)) vs = wipe σ vs)
    (he : ∀ x H1, Ex H H1 → x ∈ xs → Ev te ((wipe σ vs).set j (some (.int x))) H1 (.int (g x))) : EvL (tLc (iList K tl) (gName j) tYes te vs) σ H ((xs.map g).map V.int) := by
  have hl : (xs.map V.int).length = xs.length := List.length_map ..
  have z := el_lcNL (K := K) (te := te) (t := tYes) (fun _ => true) (fun i => .int (g (cel xs (i : Int)))) h (by omega) hw (fun _ _ _ _ _ => et_yes) (fun i x H1 e hx _ => by
    rw [List.getElem?_map] at hx
    cases q : xs[i]? with
    | none => rw [q] at hx; cases hx
    | some y =>
      rw [q] at hx
      have ex : V.int y = x := Option.some.inj hx
      subst ex
      have ey : cel xs (i : Int) = y := by unfold cel; rw [List.getD_eq_getElem?_getD]; (show (xs[i]?).getD 0 = y); rw [q]; rfl
      rw [ey]
      exact he y H1 e (List.mem_of_getElem? q))
  rw [hl, given_of (xs := xs) (g := g)] at z
  · exact z
  · intro i x hx
    have ey : cel xs (i : Int) = x := by unfold cel; rw [List.getD_eq_getElem?_getD]; (show (xs[i]?).getD 0 = x); rw [hx]; rfl
    rw [ey]
theorem el_lcI {xs : List Int} {a : Addr} {j : Nat} {vs : List Nat} (g : Int → Int) (h : Ev tl σ H (.ref a)) (hx : SqL K H a (xs.map V.int)) (hz : xs.length ≤ 40000) (hw : ∀ x, wipe ((wipe σ vs).set j (some x)) vs = wipe σ vs)
    (he : ∀ x H1, Ex H H1 → x ∈ xs → Ev te ((wipe σ vs).set j (some (.int x))) H1 (.int (g x))) : EvL (tLc (iList K tl) (gName j) tYes te vs) σ H ((xs.map g).map V.int) := by
  have hl : (xs.map V.int).length = xs.length := List.length_map ..
  have z := el_lcL (K := K) (te := te) (t := tYes) (fun _ => true) (fun i => .int (g (cel xs (i : Int)))) h hx (by omega) hw (fun _ _ _ _ _ => et_yes) (fun i x H1 e hx _ => by
    rw [List.getElem?_map] at hx
    cases q : xs[i]? with
    | none => rw [q] at hx; cases hx
    | some y =>
      rw [q] at hx
      have ex : V.int y = x := Option.some.inj hx
      subst ex
      have ey : cel xs (i : Int) = y := by unfold cel; rw [List.getD_eq_getElem?_getD]; (show (xs[i]?).getD 0 = y); rw [q]; rfl
      rw [ey]
      exact he y H1 e (List.mem_of_getElem? q))
  rw [hl, given_of (xs := xs) (g := g)] at z
  · exact z
  · intro i x hx
    have ey : cel xs (i : Int) = x := by unfold cel; rw [List.getD_eq_getElem?_getD]; (show (xs[i]?).getD 0 = x); rw [hx]; rfl
    rw [ey]
theorem el_lcR {ta : TA} {n : Int} {j : Nat} {vs : List Nat} (g : Nat → Int) (h : EvA ta σ H [.int n]) (hn : 0 ≤ n ∧ n ≤ 40000) (hw : ∀ x, wipe ((wipe σ vs).set j (some x)) vs = wipe σ vs)
    (he : ∀ (i : Nat) H1, Ex H H1 → (i : Int) < n → Ev te ((wipe σ vs).set j (some (.int (i : Int)))) H1 (.int (g i))) : EvL (tLc (iRng1 ta) (gName j) tYes te vs) σ H (((List.range n.toNat).map g).map V.int) := by
  have z := el_lcR1 (te := te) (t := tYes) (fun _ => true) (fun i => .int (g i)) h hn hw (fun _ _ _ _ => et_yes) (fun i H1 e hi _ => he i H1 e hi)
  rw [given_all (g := g) (fun _ => rfl)] at z
  exact z
theorem ep_lcP {ta2 : TA} {i j : Nat} {vs : List Nat} (f : Int × Int → Int × Int) (h : Ev tl σ H (.ref p)) (hp : PrL H p ps) (hz : ps.length ≤ 100000) (hw : ∀ x y, wipe (((wipe σ vs).set i (some x)).set j (some y)) vs = wipe σ vs)
    (he : ∀ q H1, Ex H H1 → q ∈ ps → EvA ta2 (((wipe σ vs).set i (some (.int q.1))).set j (some (.int q.2))) H1 [.int (f q).1, .int (f q).2]) :
    EvP (tLc (iList K tl) (gTup K 2 (gCons (gName i) (gCons (gName j) gNil))) tYes (tTup ta2) vs) σ H (ps.map f) := fun H0 e0 Q k => h H0 e0 _ fun H1 e1 => by
  obtain ⟨as, ha, ta⟩ := hp
  have ha1 := e1 _ _ (e0 _ _ ha)
  refine ⟨p, rfl, ⟨_, sq_of ha1⟩, fun Dl hD => ?_⟩
  refine lc_list (xs := as.map V.ref) (fun n H' => Ex H1 H' ∧ ∃ bs, H' Dl = some (.lst (bs.map V.ref)) ∧ Tups H' bs ((ps.map f).take n)) ⟨Ex.new hD, [], upd_same, Tups.nil _⟩ (fun n H' _ q => sq_of (q.1 _ _ ha1)) ?_ ?_
  · rintro n x H' hx ⟨e2, bs, hb, tb⟩
    rw [List.getElem?_map] at hx
    cases qa : as[n]? with
    | none => rw [qa] at hx; cases hx
    | some t =>
      rw [qa] at hx
      have ex : V.ref t = x := Option.some.inj hx
      subst ex
      have hn : n < ps.length := by rw [← ta.1]; exact (List.getElem?_eq_some_iff.mp qa).1
      have ht := e2 _ _ (e1 _ _ (e0 _ _ (ta.2 n t ps[n] qa (List.getElem?_eq_getElem hn))))
      refine ⟨t, _, rfl, st_of ht, rfl, _, _, rfl, _, _, rfl, rfl, hw _ _, ?_⟩
      refine t_yes ?_
      refine he ps[n] H' ((e0.trans e1).trans e2) (List.getElem_mem hn) H' (Ex.refl _) _ fun H3 e3 => ⟨sz_of (Nat.le_of_ble_eq_true rfl), fun c nc => ?_⟩
      have e4 : Ex H3 (upd H3 c (.tup [.int (f ps[n]).1, .int (f ps[n]).2])) := Ex.new nc
      have hb4 := e4 _ _ (e3 _ _ hb)
      have lb : bs.length ≤ 100000 := by rw [tb.1, List.length_take]; omega
      refine ⟨_, hb4, by rw [List.length_map, sizeLine_eq]; omega, Ex.mut ((e2.trans e3).trans e4) hD, bs ++ [c], ?_, ?_⟩
      · rw [upd_same, List.map_append]
        rfl
      · have z := (((tb.ex e3).ex e4).snoc (p := c) (q := f ps[n]) upd_same).upd (ys := bs.map V.ref ++ [.ref c]) hb4
        have et : (ps.map f).take (n + 1) = (ps.map f).take n ++ [f ps[n]] := by
          rw [List.take_add_one, List.getElem?_map, List.getElem?_eq_getElem hn]
          rfl
        rw [et]
        exact z
  · rintro H' ⟨e2, bs, hb, tb⟩
    refine k Dl H' bs (fresh_back e1 hD) (e1.trans e2) hb ?_
    rw [List.length_map, ta.1, List.take_of_length_le (by rw [List.length_map]; exact Nat.le_refl _)] at tb
    exact tb
end
end Hx
/-! ### lands tilted, stretched, turned -/
namespace Hx
theorem sightsOf_congr {l m : List Int} (hl : l.length = m.length) (h : ∀ a b, 0 ≤ a → a < b → b < (l.length : Int) → (seesP l a b ↔ seesP m a b)) : sightsOf l = sightsOf m := by
  have hb : ∀ a b, 0 ≤ a → a < b → b < (l.length : Int) → seesB l a b = seesB m a b := fun a b h0 h1 h2 => by
    cases e : seesB m a b with
    | true => exact seesB_iff.mpr ((h a b h0 h1 h2).mpr (seesB_iff.mp e))
    | false =>
      cases e2 : seesB l a b with
      | false => rfl
      | true =>
        have z := seesB_iff.mpr ((h a b h0 h1 h2).mp (seesB_iff.mp e2))
        rw [e] at z
        cases z
  unfold sightsOf flatP
  rw [← hl]
  have key : ∀ k ∈ List.range (((l.length : Nat) : Int)).toNat, aheadOf l (k : Int) = aheadOf m (k : Int) := by
    intro k hk
    have hk := List.mem_range.mp hk
    unfold aheadOf aheadN
    rw [← hl]
    refine List.filter_congr fun x hx => ?_
    obtain ⟨j, hj, rfl⟩ := List.mem_map.mp hx
    have hj := List.mem_range.mp hj
    exact hb _ _ (by omega) (by omega) (by omega)
  rw [List.flatMap_def, List.flatMap_def]
  congr 1
  exact List.map_congr_left fun k hk => by dsimp only; rw [key k hk]
theorem aheadOf_sorted (land : List Int) (a : Int) : (aheadOf land a).Pairwise (· < ·) := by
  unfold aheadOf aheadN
  refine List.Pairwise.filter _ ?_
  rw [List.pairwise_map]
  exact List.pairwise_lt_range.imp fun {x y} h => by omega
theorem sightsOf_sorted (land : List Int) : (sightsOf land).Pairwise ltq := by
  unfold sightsOf flatP
  rw [List.pairwise_flatMap]
  constructor
  · intro k _
    rw [List.pairwise_map]
    exact (aheadOf_sorted land k).imp fun {x y} h => .inr ⟨rfl, h⟩
  · refine List.pairwise_lt_range.imp fun {x y} h => ?_
    intro p hp q hq
    obtain ⟨b, _, rfl⟩ := List.mem_map.mp hp
    obtain ⟨c, _, rfl⟩ := List.mem_map.mp hq
    exact .inl (by show (x : Int) < (y : Int); omega)
theorem ltq_nodup {ps : List (Int × Int)} (h : ps.Pairwise ltq) : ps.Nodup := h.imp fun {x y} z e => by
  subst e
  unfold ltq at z
  omega
theorem cel_range {g : Nat → Int} {n : Nat} {i : Int} (h0 : 0 ≤ i) (h : i < (n : Int)) : cel ((List.range n).map g) i = g i.toNat := by
  unfold cel
  rw [List.getD_eq_getElem?_getD, List.getElem?_map, List.getElem?_range (by omega)]
  rfl
theorem cel_map {f : Int → Int} {l : List Int} {i : Int} (h0 : 0 ≤ i) (h : i < (l.length : Int)) : cel (l.map f) i = f (cel l i) := by
  unfold cel
  rw [List.getD_eq_getElem?_getD, List.getD_eq_getElem?_getD, List.getElem?_map, List.getElem?_eq_getElem (by omega)]
  rfl
def tiltedOf (land : List Int) (by_ more : Int) : List Int := (List.range land.length).map fun (k : Nat) => cel land (k : Int) + by_ * (k : Int) + more
def turnedOf (land : List Int) : List Int := (List.range land.length).map fun (k : Nat) => cel land ((land.length : Int) - 1 - (k : Int))
theorem sights_tilted (land : List Int) (b m : Int) : sightsOf (tiltedOf land b m) = sightsOf land := by
  have hl : (tiltedOf land b m).length = land.length := by unfold tiltedOf; rw [List.length_map, List.length_range]
  refine sightsOf_congr hl fun x y h0 h1 h2 => ?_
  rw [hl] at h2
  have hc : ∀ i, 0 ≤ i → i < (land.length : Int) → cel (tiltedOf land b m) i = cel land i + b * i + m := fun i h0 h => by
    unfold tiltedOf
    rw [cel_range h0 h]
    have e : ((i.toNat : Nat) : Int) = i := by omega
    rw [e]
  unfold seesP lowB
  constructor
  · intro h k k1 k2
    have z := h k k1 k2
    rw [hc k (by omega) (by omega), hc x (by omega) (by omega), hc y (by omega) (by omega)] at z
    grind
  · intro h k k1 k2
    have z := h k k1 k2
    rw [hc k (by omega) (by omega), hc x (by omega) (by omega), hc y (by omega) (by omega)]
    grind
theorem sights_stretched (land : List Int) (t : Int) (ht : 0 < t) : sightsOf (land.map (· * t)) = sightsOf land := by
  have hl : (land.map (· * t)).length = land.length := List.length_map ..
  refine sightsOf_congr hl fun x y h0 h1 h2 => ?_
  rw [hl] at h2
  unfold seesP lowB
  constructor
  · intro h k k1 k2
    have z := h k k1 k2
    rw [cel_map (by omega) (by omega), cel_map (by omega) (by omega), cel_map (by omega) (by omega)] at z
    have e1 : (cel land k * t - cel land x * t) * (y - x) = ((cel land k - cel land x) * (y - x)) * t := by grind
    have e2 : (cel land y * t - cel land x * t) * (k - x) = ((cel land y - cel land x) * (k - x)) * t := by grind
    rw [e1, e2] at z
    exact Int.lt_of_mul_lt_mul_right z (by omega)
  · intro h k k1 k2
    have z := h k k1 k2
    rw [cel_map (by omega) (by omega), cel_map (by omega) (by omega), cel_map (by omega) (by omega)]
    have e1 : (cel land k * t - cel land x * t) * (y - x) = ((cel land k - cel land x) * (y - x)) * t := by grind
    have e2 : (cel land y * t - cel land x * t) * (k - x) = ((cel land y - cel land x) * (k - x)) * t := by grind
    rw [e1, e2]
    exact Int.mul_lt_mul_of_pos_right z ht
theorem sees_turned (land : List Int) {a b : Int} (h0 : 0 ≤ a) (h1 : a < b) (h2 : b < (land.length : Int)) : seesP (turnedOf land) a b ↔ seesP land ((land.length : Int) - 1 - b) ((land.length : Int) - 1 - a) := by
  have hc : ∀ i, 0 ≤ i → i < (land.length : Int) → cel (turnedOf land) i = cel land ((land.length : Int) - 1 - i) := fun i h0 h => by
    unfold turnedOf
    rw [cel_range h0 h]
    have e : ((i.toNat : Nat) : Int) = i := by omega
    rw [e]
  unfold seesP lowB
  constructor
  · intro h k k1 k2
    have z := h ((land.length : Int) - 1 - k) (by omega) (by omega)
    rw [hc _ (by omega) (by omega), hc _ (by omega) (by omega), hc _ (by omega) (by omega)] at z
    have e : (land.length : Int) - 1 - ((land.length : Int) - 1 - k) = k := by omega
    rw [e] at z
    grind
  · intro h k k1 k2
    have z := h ((land.length : Int) - 1 - k) (by omega) (by omega)
    rw [hc _ (by omega) (by omega), hc _ (by omega) (by omega), hc _ (by omega) (by omega)]
    grind
theorem sights_turned (land : List Int) : (sightsOf (turnedOf land)).Perm ((sightsOf land).map fun q => ((land.length : Int) - 1 - q.2, (land.length : Int) - 1 - q.1)) := by
  have hl : (turnedOf land).length = land.length := by unfold turnedOf; rw [List.length_map, List.length_range]
  refine (List.perm_ext_iff_of_nodup (ltq_nodup (sightsOf_sorted _)) ?_).mpr fun q => ?_
  · refine List.pairwise_map.mpr ((ltq_nodup (sightsOf_sorted land)).imp fun {x y} h e => h ?_)
    have e1 := congrArg Prod.fst e
    have e2 := congrArg Prod.snd e
    simp only at e1 e2
    exact Prod.ext (by omega) (by omega)
  · obtain ⟨a, b⟩ := q
    rw [mem_sightsOf, hl, List.mem_map]
    constructor
    · rintro ⟨h0, h1, h2, h3⟩
      refine ⟨((land.length : Int) - 1 - b, (land.length : Int) - 1 - a), mem_sightsOf.mpr ⟨by omega, by omega, by omega, (sees_turned land h0 h1 h2).mp h3⟩, ?_⟩
      exact Prod.ext (by simp only; omega) (by simp only; omega)
    · rintro ⟨⟨c, d⟩, hm, e⟩
      obtain ⟨h0, h1, h2, h3⟩ := mem_sightsOf.mp hm
      have e1 : (land.length : Int) - 1 - d = a := congrArg Prod.fst e
      have e2 : (land.length : Int) - 1 - c = b := congrArg Prod.snd e
      have e3 : (land.length : Int) - 1 - b = c := by omega
      have e4 : (land.length : Int) - 1 - a = d := by omega
      refine ⟨by omega, by omega, by omega, (sees_turned land (by omega) (by omega) (by omega)).mpr ?_⟩
      rw [e3, e4]
      exact h3
end Hx
namespace Hx
open PySem PySem.Spec PyProof.Rows L2 Evl
theorem ep_sightsN {K : PySem.W.Frag} {σ : L2.St} {H : Hp} {tl : TE} {E : XK} {land : List Int} (h : EvL tl σ H (land.map V.int)) (h3 : land.length ≤ 1000) : EvP (tCall (spP (RSights K)) [] E (tCons tl tNil)) σ H (sightsOf land) :=
  fun H0 e0 Q q => h H0 e0 _ fun l H1 nl e1 h1 => ⟨sightsOf land, ⟨l, land, rfl, h3, sq_of h1, rfl⟩, fun p H2 as np e2 h2 t2 => q p H2 as (fresh_back e1 np) (e1.trans e2) h2 t2⟩
end Hx
namespace Hx
theorem flatP_len {row : Nat → List Int} {m : Nat} (h : ∀ k, (row k).length ≤ m) : ∀ n, (flatP row n).length ≤ n * m
  | 0 => Nat.zero_le _
  | n + 1 => by
    have z := flatP_len h n
    have y := h n
    rw [flatP_succ, List.length_append, List.length_map, Nat.succ_mul]
    omega
theorem aheadOf_len (land : List Int) (a : Nat) : (aheadOf land (a : Int)).length ≤ land.length := by
  have z := aheadN_len land (a : Int) ((land.length : Int) - ((a : Int) + 1)).toNat
  unfold aheadOf
  omega
theorem sightsOf_len (land : List Int) : (sightsOf land).length ≤ land.length * land.length := by
  have z := flatP_len (row := fun k => aheadOf land (k : Int)) (fun k => aheadOf_len land k) ((land.length : Nat) : Int).toNat
  have e : ((land.length : Nat) : Int).toNat = land.length := by omega
  unfold sightsOf
  rw [e] at z ⊢
  exact z
end Hx
/-! A list turned round; defs that refuse; the classes of refusals. -/
namespace Hx
open PySem PySem.Spec PyProof.Rows L2 Evl
theorem Vals.rev : ∀ {xs : List V} {us : List Value}, L2.Vals xs us → L2.Vals xs.reverse us.reverse
  | _, _, .nil => .nil
  | _, _, .cons r t => by
    rw [List.reverse_cons, List.reverse_cons]
    exact L2.Vals.append (Vals.rev t) (.cons r .nil)
section
variable {X : Cx}
/-- xs[::-1] -/
def tBack (K : PySem.W.Frag) (te : TE) : TE := fun σ H Q => te σ H fun x H1 => ∃ a xs, x = .ref a ∧ SqL K H1 a xs ∧ ∀ p, H1 p = none → Q (.ref p) (upd H1 p (.lst xs.reverse))
theorem pe_back {e : Expr} {te : TE} {p1 p2 p3 pos : Pos} {j : Nat} (he : PE X e te) : PE X (.Subscript e (.Slice none none (some (.UnaryOp .USub (.Constant (.int 1) j p1) p2)) p3) pos) (tBack X.K te) := by
  refine ⟨fun pins s σ H Q I h => ?_⟩
  refine Subscript_ (thn (he.run pins s σ H _ I h) fun v s1 ⟨x, H1, I1, r1, q1⟩ => ?_)
  obtain ⟨a, xs, rfl, hx, q⟩ := q1
  have hst : PO X (some (.UnaryOp .USub (.Constant (.int 1) j p1) p2)) (tPart (tUn (rU fun i => .int (-i)) (tC (.int 1)))) := po_some (pe_un un_neg pe_int)
  refine wpAny_Slice ?_
  rw [evalPart_none]
  refine wpAny_pure (wpAny_pure ?_)
  refine thn (hst.run pins s1 σ H1 (fun o H2 => o = some (-1) ∧ H2 = H1) I1 ⟨1, rfl, -1, rfl, rfl, rfl⟩) fun vk s2 ⟨o, H2, I2, pk, eo, eH⟩ => ?_
  subst eo eH
  have I4 : Inv X pins σ H2 { s2 with heap := s2.heap.push { cls := .type "slice", data := .fields #[.none, .none, vk] } } := I2.kept (t' := s2.toks) fun b ob q => Heap.get?_push_of_some _ q
  cases r1
  obtain ⟨its, r, ht, hz⟩ := I4.list hx
  have hlen := r.length
  show wpAny (model X.prog X.w) X.A (subscriptTail e (.Slice none none (some (.UnaryOp .USub (.Constant (.int 1) j p1) p2)) p3) (.ref a) (.ref s2.heap.objs.size)) (EP X pins σ Q) X.xe { s2 with heap := s2.heap.push { cls := .type "slice", data := .fields #[.none, .none, vk] } }
  refine tail_any (ops := [.ref a, .ref s2.heap.objs.size]) ht.isList.typeIs slot_list_getitem.lookup ?_ (by with_unfolding_all rfl)
  refine wpAny_getItem_list_slice ht.isList (Heap.IsSliceOf.new ..) .none .none pk (by decide) ?_ (by rw [List.size_toArray] <;> omega)
  rw [PySem.W.krv_pick]
  refine ⟨.ref _, _, I4.laid (t' := s2.toks) (o := .lst xs.reverse) (fun b ob q => Heap.get?_push_of_some _ q) (Nat.le_refl _) ?_, rfl, q _ (I4.hok.fresh (Nat.le_refl _))⟩
  exact ⟨by rw [List.length_reverse]; exact hz, _, 0, Vals.rev r, Heap.get?_push_size _ rfl⟩
end
end Hx
namespace Hx
open PySem PySem.Spec PyProof.Rows L2 Evl
/-- a class of refusals: one of the module's own over ValueError, without more -/
structure ExK (K : PySem.W.Frag) (mg : Str → Option Value) (x : Str) (C : Addr) : Prop where
  g : mg x = some (.ref C)
  x : PySem.W.excIn K C [.type "ValueError", .type "Exception", .type "BaseException", .type "object"] "ValueError.__new__" = true
  k : PySem.W.keepIn K (.ref C) = true
  b : PySem.W.subIn K (.ref C) (.type "BaseException") = some true
  t : PySem.W.typeIn K (.ref C) = some (.type "type")
  d : PySem.W.hasDictIn K C = true
  s : PySem.W.subIn K (.ref C) (.ref C) = some true
/-- a def of the module that keeps a promise, and may refuse -/
structure CalX (P : Program) (w : World) (K : PySem.W.Frag) (mg : Str → Option Value) (base : Heap) (x : Str) (k : Nat) (ps : List Str) (sp : Sp) : Prop where
  ex : ∃ f fd, FnOk P w K mg base (L2.CX P w) k f fd ps sp ∧ mg x = some (.ref f) ∧ PySem.W.keepIn K (.ref f) = true ∧ Binds K fd ps []
section
variable {X : Cx} {x : Str} {k j : Nat} {ps : List Str} {sp : Sp} {p pos : Pos} {e : Expr} {es : List Expr} {t : TA}
/-- called where a refusal is let through to W -/
theorem pe_calX {W : WX} (C : CalX X.prog X.w X.K X.mg X.base x k ps sp) (hr : Room j X.A) (tk : Takes X W) (ha : PA X (e :: es) t) (hk : k ≤ j := by decide) (hg : Gl X x := by rfl)
    (hdb : (x == ("__debug__" : Str)) = false := by decide) (he : starEach (e :: es) X.env = (false, eval e X.env) :: starEach es X.env := by rfl) (hpl : (backTo pos (starEach es X.env)).any (·.1) = false := by rfl) :
    PE X (.Call (.Name x p) (e :: es) [] pos) (tCallS sp (WE W) t) := by
  obtain ⟨f, fd, F, hm, kp, b⟩ := C.ex
  exact pe_callS F (hr.mono hk) hg hm kp b (fun σ => passAt tk σ) ha hdb he hpl
/-- called where it refuses nothing -/
theorem pe_cal0 (C : CalX X.prog X.w X.K X.mg X.base x k ps sp) (hr : Room j X.A) (ha : PA X (e :: es) t) (hk : k ≤ j := by decide) (hg : Gl X x := by rfl)
    (hdb : (x == ("__debug__" : Str)) = false := by decide) (he : starEach (e :: es) X.env = (false, eval e X.env) :: starEach es X.env := by rfl) (hpl : (backTo pos (starEach es X.env)).any (·.1) = false := by rfl) :
    PE X (.Call (.Name x p) (e :: es) [] pos) (tCall sp [] E0 t) := by
  obtain ⟨f, fd, F, hm, kp, b⟩ := C.ex
  exact pe_call F (hr.mono hk) hg hm kp b .nil passL ha hdb he hpl
end
/-- a value, or a refusal of the class at C -/
def spVX (RV : List V → Hp → V → Prop) (RE : List V → Hp → Addr → Prop) : Sp := fun vs H Q E => (∃ v, RV vs H v ∧ RetV v H Q) ∨ (∃ C, RE vs H C ∧ ∀ H', Ex H H' → E (.ref C) none H')
def spLX (RV : List V → Hp → List V → Prop) (RE : List V → Hp → Addr → Prop) : Sp := fun vs H Q E => (∃ v, RV vs H v ∧ RetL v H Q) ∨ (∃ C, RE vs H C ∧ ∀ H', Ex H H' → E (.ref C) none H')
section
variable {K : PySem.W.Frag} {σ : L2.St} {H : Hp} {ta : TA} {vs xs : List V} {z : V} {W : WX} {C : Addr} {Q : VK} {RE : List V → Hp → Addr → Prop} {RL : List V → Hp → List V → Prop} {RV : List V → Hp → V → Prop} {E : XK}
theorem ev_calX (h : EvA ta σ H vs) (hs : ∀ H1, Ex H H1 → RV vs H1 z) : Ev (tCallS (spVX RV RE) (WE W) ta) σ H z := fun H1 e Q q => h H1 e _ fun H2 e2 => .inl ⟨z, hs H2 (e.trans e2), fun H3 e3 => q H3 (e2.trans e3)⟩
theorem ev_cal0 (h : EvA ta σ H vs) (hs : ∀ H1, Ex H H1 → RV vs H1 z) : Ev (tCall (spVX RV RE) [] E ta) σ H z := fun H1 e Q q => h H1 e _ fun H2 e2 => .inl ⟨z, by rw [List.append_nil]; exact hs H2 (e.trans e2), fun H3 e3 => q H3 (e2.trans e3)⟩
theorem el_calX (h : EvA ta σ H vs) (hs : ∀ H1, Ex H H1 → RL vs H1 xs) : EvL (tCallS (spLX RL RE) (WE W) ta) σ H xs := fun H1 e Q q => h H1 e _ fun H2 e2 => .inl ⟨xs, hs H2 (e.trans e2), fun p H3 hp e3 h3 => q p H3 (fresh_back e2 hp) (e2.trans e3) h3⟩
theorem el_cal0 (h : EvA ta σ H vs) (hs : ∀ H1, Ex H H1 → RL vs H1 xs) : EvL (tCall (spLX RL RE) [] E ta) σ H xs := fun H1 e Q q => h H1 e _ fun H2 e2 => .inl ⟨xs, by rw [List.append_nil]; exact hs H2 (e.trans e2), fun p H3 hp e3 h3 => q p H3 (fresh_back e2 hp) (e2.trans e3) h3⟩
theorem rx_calV (h : EvA ta σ H vs) (hs : ∀ H1, Ex H H1 → RE vs H1 C) (k : ∀ H1, Ex H H1 → W (.ref C) none σ H1) : tCallS (spVX RV RE) (WE W) ta σ H Q := h H (Ex.refl H) _ fun H2 e2 => .inr ⟨C, hs H2 e2, fun H3 e3 => k H3 (e2.trans e3)⟩
theorem rx_calL (h : EvA ta σ H vs) (hs : ∀ H1, Ex H H1 → RE vs H1 C) (k : ∀ H1, Ex H H1 → W (.ref C) none σ H1) : tCallS (spLX RL RE) (WE W) ta σ H Q := h H (Ex.refl H) _ fun H2 e2 => .inr ⟨C, hs H2 e2, fun H3 e3 => k H3 (e2.trans e3)⟩
end
/-- no place of a land of n hills -/
inductive BadPl (H : Hp) (n : Nat) : V → Prop where
  | int (i : Int) (h : i < 0 ∨ (n : Int) ≤ i) : BadPl H n (.int i)
  | non : BadPl H n .non
  | bl (b : Bool) : BadPl H n (.bl b)
  | str (s : Str) : BadPl H n (.str s)
  | tup (a : Addr) (xs : List V) (h : H a = some (.tup xs)) : BadPl H n (.ref a)
  | lst (a : Addr) (xs : List V) (h : H a = some (.lst xs)) : BadPl H n (.ref a)
theorem BadPl.ex {H H' : Hp} {n : Nat} {v : V} (e : Ex H H') (h : BadPl H n v) : BadPl H' n v := by
  cases h with
  | int i h => exact .int i h
  | non => exact .non
  | bl b => exact .bl b
  | str s => exact .str s
  | tup a xs h => exact .tup a xs (e _ _ h)
  | lst a xs h => exact .lst a xs (e _ _ h)
def RPlace (K : PySem.W.Frag) (vs : List V) (H : Hp) (v : V) : Prop := ∃ (l : Addr) (land : List Int) (i : Int), vs = [.ref l, .int i] ∧ SqL K H l (land.map V.int) ∧ 0 ≤ i ∧ i < (land.length : Int) ∧ v = .non
def RNoPlace (K : PySem.W.Frag) (N : Addr) (vs : List V) (H : Hp) (C : Addr) : Prop := ∃ (l : Addr) (land : List Int) (x : V), vs = [.ref l, x] ∧ SqL K H l (land.map V.int) ∧ BadPl H land.length x ∧ C = N
end Hx

namespace Hx
open PySem PySem.Spec PyProof.Rows L2 Evl
/-- an except clause over that class meets its own refusals -/
theorem ExK.te {K : PySem.W.Frag} {mg : Str → Option Value} {x : Str} {C : Addr} (X : ExK K mg x C) : PySem.W.exmOne K (.ref C) (.ref C) = some true := PySem.W.exm_ref X.b X.d X.t X.s
section
variable {K : PySem.W.Frag} {σ : L2.St} {H : Hp} {te : TE} {tr ta : TA} {x : V} {xs : List V} {P : List V → Hp → Prop} {D : Ends} {tz : TS}
/-! ### arguments of which some are new tuples -/
def EvAX (ta : TA) (σ : L2.St) (H : Hp) (P : List V → Hp → Prop) : Prop := ∀ H1, Ex H H1 → ∀ Q : List V → Hp → Prop, (∀ vs H2, Ex H1 H2 → P vs H2 → Q vs H2) → ta σ H1 Q
theorem eax_cons (h : Ev te σ H x) (hr : EvAX tr σ H P) : EvAX (tCons te tr) σ H (fun vs H2 => ∃ r, vs = x :: r ∧ P r H2) := fun H1 e1 Q q =>
  h H1 e1 _ fun H2 e2 => hr H2 (e1.trans e2) _ fun r H3 e3 p => q (x :: r) H3 (e2.trans e3) ⟨r, rfl, p⟩
theorem eax_lastU (h : EvU te σ H xs) : EvAX (tCons te tNil) σ H (fun vs H2 => ∃ p, vs = [.ref p] ∧ H2 p = some (.tup xs)) := fun H1 e1 Q q =>
  h H1 e1 _ fun p H2 _ e2 hp => q [.ref p] H2 e2 ⟨p, rfl, hp⟩
theorem q_asgLX {i : Nat} (h : EvAX ta σ H P) (hl : ∀ vs H2, P vs H2 → vs.length ≤ 100000) (k : ∀ p vs H1 H2, P vs H1 → Ex H H2 → Ex H1 H2 → H2 p = some (.lst vs) → tz D (σ.set i (some (.ref p))) H2) : tSeq (tAsg (tLst ta) (gName i)) tz D σ H :=
  h H (Ex.refl H) _ fun vs H1 e1 p => ⟨sz_of (hl vs H1 p), fun l nl => k l vs H1 _ p (e1.trans (Ex.new nl)) (Ex.new nl) upd_same⟩
theorem atI_in {vs : List V} {i : Int} (h0 : 0 ≤ i) (h : i < (vs.length : Int)) : ∃ v, atI vs i = some v ∧ v ∈ vs := by
  have h1 : i.toNat < vs.length := by omega
  have e : i = ((i.toNat : Nat) : Int) := by omega
  refine ⟨vs[i.toNat], ?_, List.getElem_mem h1⟩
  have z := atI_nat (List.getElem?_eq_getElem h1)
  rw [← e] at z
  exact z
theorem ev_all {bs : List Bool} (h : EvL te σ H (bs.map V.bl)) : Ev (tCB (rAll K) (tCons te tNil)) σ H (.bl (bs.all id)) := fun H1 e1 Q q =>
  h H1 e1 _ fun p H2 _ e2 hp => ⟨p, bs, rfl, sq_of hp, q H2 e2⟩
end
end Hx
namespace Hx
open PySem PySem.Spec PyProof.Rows L2 Evl
theorem el_catV {σ : L2.St} {H : Hp} {ta tb : TE} {p : Addr} {xs ys zs : List V} (ha : Ev ta σ H (.ref p)) (hp : H p = some (.lst xs)) (hb : EvL tb σ H ys) (e : zs = xs ++ ys) (hz : xs.length + ys.length ≤ 100000) : EvL (tOp rCat ta tb) σ H zs := fun H1 e1 Q q =>
  ha H1 e1 _ fun H2 e2 => hb H2 (e1.trans e2) _ fun r H3 nr e3 hr => ⟨p, r, xs, ys, rfl, rfl, e3 _ _ (e2 _ _ (e1 _ _ hp)), hr, sz_of hz, fun l hl => e ▸ q l _ (fresh_back (e2.trans e3) hl) ((e2.trans e3).trans (Ex.new hl)) (e ▸ upd_same)⟩
end Hx

namespace Hx
open PySem PySem.Spec PyProof.Rows L2 Evl
/-- no whole number -/
inductive NoInt (H : Hp) : V → Prop where
  | non : NoInt H .non
  | bl (b : Bool) : NoInt H (.bl b)
  | str (s : Str) : NoInt H (.str s)
  | tup (a : Addr) (xs : List V) (h : H a = some (.tup xs)) : NoInt H (.ref a)
  | lst (a : Addr) (xs : List V) (h : H a = some (.lst xs)) : NoInt H (.ref a)
theorem NoInt.ex {H H' : Hp} {v : V} (e : Ex H H') (h : NoInt H v) : NoInt H' v := by
  cases h with
  | non => exact .non
  | bl b => exact .bl b
  | str s => exact .str s
  | tup a xs h => exact .tup a xs (e _ _ h)
  | lst a xs h => exact .lst a xs (e _ _ h)
theorem BadPl.int_or {H : Hp} {n : Nat} {v : V} (h : BadPl H n v) : (∃ i : Int, v = .int i ∧ (i < 0 ∨ (n : Int) ≤ i)) ∨ NoInt H v := by
  cases h with
  | int i h => exact .inl ⟨i, rfl, h⟩
  | non => exact .inr .non
  | bl b => exact .inr (.bl b)
  | str s => exact .inr (.str s)
  | tup a xs h => exact .inr (.tup a xs h)
  | lst a xs h => exact .inr (.lst a xs h)
def RWholeV (vs : List V) (H : Hp) (v : V) : Prop := ∃ x, vs = [x] ∧ ((∃ i, x = .int i ∧ v = .bl true) ∨ (NoInt H x ∧ v = .bl false))
section
variable {K : PySem.W.Frag} {σ : L2.St} {H : Hp} {ta : TA} {x : V} {E : XK}
theorem ev_isW {i : Int} (h : EvA ta σ H [.int i]) : Ev (tCall (spV RWholeV) [] E ta) σ H (.bl true) := ev_cal h fun _ _ => ⟨_, rfl, .inl ⟨i, rfl, rfl⟩⟩
theorem ev_isN (h : EvA ta σ H [x]) (hx : NoInt H x) : Ev (tCall (spV RWholeV) [] E ta) σ H (.bl false) := ev_cal h fun _ e => ⟨_, rfl, .inr ⟨hx.ex e, rfl⟩⟩
end
end Hx
/-! What is seen behind, and the view of a hill. -/
namespace Hx
/-- of the places a - i .. a - 1 the one from which the slope to a is least -/
def Flat (land : List Int) (a : Int) (i : Nat) (best : Int) : Prop := best < a ∧ a - i ≤ best ∧ ∀ k, k < a → a - i ≤ k → (cel land a - cel land best) * (a - k) ≤ (cel land a - cel land k) * (a - best)
theorem lt_of_flat {x y z n1 n2 n3 : Int} (h2 : 0 < n2) (h3 : 0 < n3) (h1 : 0 < n1) (a : y * n1 ≤ x * n2) (b : z * n2 < y * n3) : z * n1 < x * n3 := by
  have k1 : z * n2 * n1 < y * n3 * n1 := Int.mul_lt_mul_of_pos_right b h1
  have k2 : y * n1 * n3 ≤ x * n2 * n3 := Int.mul_le_mul_of_nonneg_right a (by omega)
  have k3 : (z * n1) * n2 < (x * n3) * n2 := by grind
  exact Int.lt_of_mul_lt_mul_right k3 (by omega)
theorem low_back {land : List Int} {p a k : Int} : lowB land p a k ↔ (cel land a - cel land p) * (a - k) < (cel land a - cel land k) * (a - p) := by
  unfold lowB
  constructor <;> intro h <;> grind
theorem flat_one (land : List Int) (a : Int) : Flat land a 1 (a - 1) := by
  refine ⟨by omega, by omega, fun k h1 h2 => ?_⟩
  have e : k = a - 1 := by omega
  rw [e]
  omega
theorem flat_yes {land : List Int} {a best p : Int} {i : Nat} (ep : p = a - 1 - i) (h : Flat land a i best) (hs : (cel land a - cel land p) * (a - best) < (cel land a - cel land best) * (a - p)) :
    Flat land a (i + 1) p ∧ seesB land p a = true := by
  obtain ⟨h1, h2, h3⟩ := h
  refine ⟨⟨by omega, by omega, fun k k1 k2 => ?_⟩, seesB_iff.mpr fun k k1 k2 => low_back.mpr ?_⟩
  · by_cases e : k = p
    · rw [e]
      omega
    · exact Int.le_of_lt (lt_of_flat (n2 := a - best) (by omega) (by omega) (by omega) (h3 k k1 (by omega)) hs)
  · exact lt_of_flat (n2 := a - best) (by omega) (by omega) (by omega) (h3 k k2 (by omega)) hs
theorem flat_no {land : List Int} {a best p : Int} {i : Nat} (ep : p = a - 1 - i) (h : Flat land a i best) (hs : ¬ (cel land a - cel land p) * (a - best) < (cel land a - cel land best) * (a - p)) :
    Flat land a (i + 1) best ∧ seesB land p a = false := by
  obtain ⟨h1, h2, h3⟩ := h
  refine ⟨⟨by omega, by omega, fun k k1 k2 => ?_⟩, seesB_false (k := best) (by omega) (by omega) fun z => hs (low_back.mp z)⟩
  by_cases e : k = p
  · rw [e]
    omega
  · exact h3 k k1 (by omega)
theorem sees_prev (land : List Int) (a : Int) : seesB land (a - 1) a = true := seesB_iff.mpr fun k h1 h2 => by omega
def behindN (land : List Int) (a : Int) (i : Nat) : List Int := ((List.range i).map fun (j : Nat) => a - 1 - (j : Int)).filter fun p => seesB land p a
theorem behindN_yes {land : List Int} {a : Int} {i : Nat} (h : seesB land (a - 1 - i) a = true) : behindN land a (i + 1) = behindN land a i ++ [a - 1 - (i : Int)] := by
  unfold behindN
  rw [List.range_succ, List.map_append, List.filter_append]
  simp [h]
theorem behindN_no {land : List Int} {a : Int} {i : Nat} (h : seesB land (a - 1 - i) a = false) : behindN land a (i + 1) = behindN land a i := by
  unfold behindN
  rw [List.range_succ, List.map_append, List.filter_append]
  simp [h]
theorem behindN_len (land : List Int) (a : Int) (i : Nat) : (behindN land a i).length ≤ i := by
  unfold behindN
  have h := List.length_filter_le (fun p => seesB land p a) ((List.range i).map fun (j : Nat) => a - 1 - (j : Int))
  rw [List.length_map, List.length_range] at h
  exact h
def behindOf (land : List Int) (a : Int) : List Int := ((List.range a.toNat).map fun (j : Nat) => (j : Int)).filter fun p => seesB land p a
theorem behind_rev (land : List Int) {a : Int} (h : 0 ≤ a) : (behindN land a a.toNat).reverse = behindOf land a := by
  unfold behindN behindOf
  rw [← List.filter_reverse]
  congr 1
  refine List.ext_getElem (by simp) fun i h1 h2 => ?_
  have hi : i < a.toNat := by simpa using h2
  rw [List.getElem_reverse, List.getElem_map, List.getElem_map, List.getElem_range, List.getElem_range]
  simp only [List.length_map, List.length_range]
  omega
def viewOf (land : List Int) (a : Int) : List Int := behindOf land a ++ aheadOf land a
/-- as a plain looking through tells -/
def dueN (land : List Int) (a : Int) (n : Nat) : List Int := ((List.range n).map fun (j : Nat) => (j : Int)).filter fun b => decide (b ≠ a) && seesB land (min a b) (max a b)
theorem dueN_yes {land : List Int} {a : Int} {i : Nat} (h : (decide ((i : Int) ≠ a) && seesB land (min a (i : Int)) (max a (i : Int))) = true) : dueN land a (i + 1) = dueN land a i ++ [(i : Int)] := by
  unfold dueN
  rw [List.range_succ, List.map_append, List.filter_append, List.map_singleton, List.filter_cons, if_pos h]
  rfl
theorem dueN_no {land : List Int} {a : Int} {i : Nat} (h : (decide ((i : Int) ≠ a) && seesB land (min a (i : Int)) (max a (i : Int))) = false) : dueN land a (i + 1) = dueN land a i := by
  unfold dueN
  rw [List.range_succ, List.map_append, List.filter_append, List.map_singleton, List.filter_cons, if_neg (by rw [h]; decide)]
  simp
theorem dueN_len (land : List Int) (a : Int) (i : Nat) : (dueN land a i).length ≤ i := by
  unfold dueN
  refine Nat.le_trans (List.length_filter_le _ _) ?_
  rw [List.length_map, List.length_range]
  exact Nat.le_refl _
theorem view_due (land : List Int) {a : Int} (h0 : 0 ≤ a) (h1 : a < (land.length : Int)) : viewOf land a = dueN land a land.length := by
  unfold viewOf dueN
  have hn : land.length = a.toNat + (1 + (land.length - a.toNat - 1)) := by omega
  rw [hn, List.range_add, List.map_append, List.filter_append]
  congr 1
  · unfold behindOf
    refine List.filter_congr fun x hx => ?_
    obtain ⟨j, hj, rfl⟩ := List.mem_map.mp hx
    have hj := List.mem_range.mp hj
    rw [decide_eq_true (show ((j : Int) ≠ a) by omega), Bool.true_and, Int.min_eq_right (by omega), Int.max_eq_left (by omega)]
  · rw [List.range_add, List.map_append, List.map_append, List.filter_append]
    have e0 : List.filter (fun b => decide (b ≠ a) && seesB land (min a b) (max a b)) (List.map (fun (j : Nat) => (j : Int)) (List.map (fun x => a.toNat + x) (List.range 1))) = [] := by
      refine List.filter_eq_nil_iff.mpr fun x hx => ?_
      have ex : x = a := by
        obtain ⟨j, hj, rfl⟩ := List.mem_map.mp hx
        obtain ⟨k, hk, rfl⟩ := List.mem_map.mp hj
        have hk := List.mem_range.mp hk
        omega
      rw [decide_eq_false (fun z => z ex), Bool.false_and]
      decide
    rw [e0, List.nil_append]
    unfold aheadOf aheadN
    have em : List.map (fun (j : Nat) => (j : Int)) (List.map (fun x => a.toNat + x) (List.map (fun x => 1 + x) (List.range (land.length - a.toNat - 1)))) = (List.range ((land.length : Int) - (a + 1)).toNat).map fun (j : Nat) => a + 1 + (j : Int) := by
      rw [List.map_map, List.map_map]
      have er : ((land.length : Int) - (a + 1)).toNat = land.length - a.toNat - 1 := by omega
      rw [er]
      refine List.map_congr_left fun j _ => ?_
      simp only [Function.comp]
      omega
    rw [em]
    refine List.filter_congr fun x hx => ?_
    obtain ⟨j, hj, rfl⟩ := List.mem_map.mp hx
    rw [decide_eq_true (show (a + 1 + (j : Int) ≠ a) by omega), Bool.true_and, Int.min_eq_left (by omega), Int.max_eq_right (by omega)]
end Hx

namespace Hx
open PySem PySem.Spec PyProof.Rows L2 Evl
def RBehind (K : PySem.W.Frag) (vs : List V) (H : Hp) (xs : List V) : Prop := ∃ (l : Addr) (land : List Int) (a : Int), vs = [.ref l, .int a] ∧ 0 ≤ a ∧ a < (land.length : Int) ∧ land.length ≤ 1000 ∧ SqL K H l (land.map V.int) ∧ xs = (behindOf land a).map V.int
section
variable {K : PySem.W.Frag} {σ : L2.St} {H : Hp} {ta : TA} {te : TE} {E : XK} {D : Ends} {tu tz : TS}
theorem el_behind {l : Addr} {land : List Int} {a : Int} (h : EvA ta σ H [.ref l, .int a]) (hs : SqL K H l (land.map V.int)) (h1 : 0 ≤ a) (h2 : a < (land.length : Int)) (h3 : land.length ≤ 1000) : EvL (tCall (spL (RBehind K)) [] E ta) σ H ((behindOf land a).map V.int) :=
  el_cal h fun _ e => ⟨l, land, a, rfl, h1, h2, h3, ex_l e hs, rfl⟩
theorem el_back {a : Addr} {xs : List V} (h : Ev te σ H (.ref a)) (hs : SqL K H a xs) : EvL (tBack K te) σ H xs.reverse := fun H1 e Q q => h H1 e _ fun H2 e2 => ⟨a, xs, rfl, ex_l (e.trans e2) hs, fun p hp => q p _ (fresh_back e2 hp) (e2.trans (Ex.new hp)) upd_same⟩
/-- for x in range(lo, -1, -1) -/
theorem q_forDown {j : Nat} {lo : Int} (h : EvA ta σ H [.int lo, .int (-1), .int (-1)]) (hn : -1 ≤ lo ∧ lo ≤ 100000) (Pv : Nat → L2.St → Hp → Prop) (h0 : ∀ H1, Ex H H1 → Pv 0 σ H1)
    (hs : ∀ (i : Nat) σ' H', (i : Int) ≤ lo → Pv i σ' H' → tu { D with nx := Pv (i + 1), ct := Pv (i + 1), bk := tz D } (σ'.set j (some (.int (lo - (i : Int))))) H') (hd : ∀ σ' H', Pv (lo + 1).toNat σ' H' → tz D σ' H') : tSeq (tFor (iRng3 ta) (gName j) tu) tz D σ H :=
  h H (Ex.refl H) _ fun H1 e => ⟨lo, -1, -1, (lo - -1).toNat, rfl, RgC.neg (by omega) (by omega) (by omega) (by omega), for_rangeC (lo := lo) (c := -1) (n := (lo - -1).toNat) Pv (h0 H1 e) (fun i σ' H' hi p => by
    have e0 : lo + (i : Int) * (-1) = lo - (i : Int) := by omega
    show tu { D with nx := Pv (i + 1), ct := Pv (i + 1), bk := tz D } (σ'.set j (some (.int (lo + (i : Int) * (-1))))) H'
    rw [e0]
    exact hs i σ' H' (by omega) p) (fun σ' H' p => hd σ' H' (by have z : (lo - -1).toNat = (lo + 1).toNat := by omega
                                                                rw [z] at p; exact p))⟩
end
end Hx
namespace Hx
open PySem PySem.Spec PyProof.Rows L2 Evl
def RView (K : PySem.W.Frag) (vs : List V) (H : Hp) (xs : List V) : Prop := ∃ (l : Addr) (land : List Int) (a : Int), vs = [.ref l, .int a] ∧ 0 ≤ a ∧ a < (land.length : Int) ∧ land.length ≤ 1000 ∧ SqL K H l (land.map V.int) ∧ xs = (viewOf land a).map V.int
theorem el_catN {σ : L2.St} {H : Hp} {ta tb : TE} {xs ys zs : List V} (ha : EvL ta σ H xs) (hb : EvL tb σ H ys) (e : zs = xs ++ ys) (hz : xs.length + ys.length ≤ 100000) : EvL (tOp rCat ta tb) σ H zs := fun H1 e1 Q q =>
  ha H1 e1 _ fun p H2 np e2 hp => hb H2 (e1.trans e2) _ fun r H3 nr e3 hr => ⟨p, r, xs, ys, rfl, rfl, e3 _ _ hp, hr, sz_of hz, fun l hl => e ▸ q l _ (fresh_back (e2.trans e3) hl) ((e2.trans e3).trans (Ex.new hl)) (e ▸ upd_same)⟩
end Hx
namespace Hx
open PySem PySem.Spec PyProof.Rows L2 Evl
def RSeenBy (K : PySem.W.Frag) (vs : List V) (H : Hp) (v : V) : Prop := ∃ (l : Addr) (land : List Int) (a b : Int), vs = [.ref l, .int a, .int b] ∧ 0 ≤ a ∧ a < b ∧ b < (land.length : Int) ∧ land.length ≤ 1000 ∧ SqL K H l (land.map V.int) ∧ v = .bl (seesB land a b)
section
variable {K : PySem.W.Frag} {σ : L2.St} {H : Hp} {ta : TA} {E : XK}
theorem ev_seen_by {l : Addr} {land : List Int} {a b : Int} (h : EvA ta σ H [.ref l, .int a, .int b]) (hs : SqL K H l (land.map V.int)) (h0 : 0 ≤ a) (h1 : a < b) (h2 : b < (land.length : Int)) (h3 : land.length ≤ 1000) : Ev (tCall (spV (RSeenBy K)) [] E ta) σ H (.bl (seesB land a b)) :=
  ev_cal h fun _ e => ⟨l, land, a, b, rfl, h0, h1, h2, h3, ex_l e hs, rfl⟩
theorem el_view {N l : Addr} {land : List Int} {a : Int} (h : EvA ta σ H [.ref l, .int a]) (hs : SqL K H l (land.map V.int)) (h1 : 0 ≤ a) (h2 : a < (land.length : Int)) (h3 : land.length ≤ 1000) : EvL (tCall (spLX (RView K) (RNoPlace K N)) [] E ta) σ H ((viewOf land a).map V.int) :=
  el_cal0 h fun _ e => ⟨l, land, a, rfl, h1, h2, h3, ex_l e hs, rfl⟩
end
end Hx
/-! Which hill hides two others. -/
namespace Hx
def stepB (land : List Int) (a best place : Int) : Int := if (cel land best - cel land a) * (place - a) < (cel land place - cel land a) * (best - a) then place else best
/-- the first of the steepest of the places a + 1 .. a + 1 + i -/
def steepN (land : List Int) (a : Int) : Nat → Int
  | 0 => a + 1
  | i + 1 => stepB land a (steepN land a i) (a + 2 + (i : Int))
def steepOf (land : List Int) (a b : Int) : Int := steepN land a (b - a - 1).toNat
theorem steepN_best (land : List Int) (a : Int) : ∀ i : Nat, Best land a (i + 1) (steepN land a i)
  | 0 => best_one land a
  | i + 1 => by
    have ih := steepN_best land a i
    have ep : a + 1 + ((i + 1 : Nat) : Int) = a + 2 + (i : Int) := by omega
    show Best land a (i + 1 + 1) (stepB land a (steepN land a i) (a + 2 + (i : Int)))
    unfold stepB
    by_cases h : (cel land (steepN land a i) - cel land a) * (a + 2 + (i : Int) - a) < (cel land (a + 2 + (i : Int)) - cel land a) * (steepN land a i - a)
    · rw [if_pos h]
      have z := best_yes ih (by rw [ep]; exact h)
      rw [ep] at z
      exact z.1
    · rw [if_neg h]
      exact (best_no ih (by rw [ep]; exact h)).1
theorem steepOf_best (land : List Int) {a b : Int} (h : a < b) : Best land a (b - a).toNat (steepOf land a b) := by
  have z := steepN_best land a (b - a - 1).toNat
  have e : (b - a - 1).toNat + 1 = (b - a).toNat := by omega
  rw [e] at z
  exact z
theorem steep_at (land : List Int) {a b : Int} (h : a < b) : a < steepOf land a b ∧ steepOf land a b ≤ b := by
  obtain ⟨h1, h2, _⟩ := steepOf_best land h
  exact ⟨h1, by omega⟩
/-- another than the later one is the steepest: it lies between, and not below the line -/
theorem steep_hides (land : List Int) {a b : Int} (h : a < b) (hn : steepOf land a b ≠ b) : a < steepOf land a b ∧ steepOf land a b < b ∧ ¬ lowB land a b (steepOf land a b) := by
  obtain ⟨h1, h2, h3⟩ := steepOf_best land h
  refine ⟨h1, by omega, fun z => ?_⟩
  have y := h3 b h (by omega)
  unfold lowB at z
  omega
theorem steep_sees (land : List Int) {a b : Int} (h : a < b) : steepOf land a b = b ↔ seesP land a b := by
  constructor
  · intro e
    by_cases h1 : b = a + 1
    · subst h1
      exact fun k k1 k2 => by omega
    · have hn : (b - a - 1).toNat = (b - a - 2).toNat + 1 := by omega
      have ep : a + 2 + (((b - a - 2).toNat : Nat) : Int) = b := by omega
      unfold steepOf at e
      rw [hn] at e
      have e : stepB land a (steepN land a (b - a - 2).toNat) (a + 2 + (((b - a - 2).toNat : Nat) : Int)) = b := e
      rw [ep] at e
      have ih := steepN_best land a (b - a - 2).toNat
      have ep2 : a + 1 + (((b - a - 2).toNat + 1 : Nat) : Int) = b := by omega
      unfold stepB at e
      by_cases hc : (cel land (steepN land a (b - a - 2).toNat) - cel land a) * (b - a) < (cel land b - cel land a) * (steepN land a (b - a - 2).toNat - a)
      · have z := best_yes ih (by rw [ep2]; exact hc)
        rw [ep2] at z
        exact seesB_iff.mp z.2
      · rw [if_neg hc] at e
        obtain ⟨_, k2, _⟩ := ih
        omega
  · intro hs
    by_cases e : steepOf land a b = b
    · exact e
    · obtain ⟨h1, h2, h3⟩ := steep_hides land h e
      exact absurd (hs _ h1 h2) h3
theorem steep_near (land : List Int) (a : Int) : steepOf land a (a + 1) = a + 1 := by
  unfold steepOf
  have e : (a + 1 - a - 1).toNat = 0 := by omega
  rw [e]
  rfl
end Hx
namespace Hx
open PySem PySem.Spec PyProof.Rows L2 Evl
def hidV (land : List Int) (a b : Int) : V := if steepOf land (min a b) (max a b) = max a b then .non else .int (steepOf land (min a b) (max a b))
def RSteepest (K : PySem.W.Frag) (vs : List V) (H : Hp) (v : V) : Prop := ∃ (l : Addr) (land : List Int) (a b : Int), vs = [.ref l, .int a, .int b] ∧ 0 ≤ a ∧ a < b ∧ b < (land.length : Int) ∧ land.length ≤ 1000 ∧ SqL K H l (land.map V.int) ∧ v = .int (steepOf land a b)
def RTwo (K : PySem.W.Frag) (vs : List V) (H : Hp) (v : V) : Prop := ∃ (l : Addr) (land : List Int) (a b : Int), vs = [.ref l, .int a, .int b] ∧ SqL K H l (land.map V.int) ∧ 0 ≤ a ∧ a < (land.length : Int) ∧ 0 ≤ b ∧ b < (land.length : Int) ∧ a ≠ b ∧ v = .non
/-- why two places are refused: the first, the second is none, both are one -/
inductive NoTwo (H : Hp) (n : Nat) (N S : Addr) : V → V → Addr → Prop where
  | first (x y : V) (h : BadPl H n x) : NoTwo H n N S x y N
  | second (i : Int) (y : V) (h0 : 0 ≤ i) (h1 : i < (n : Int)) (h : BadPl H n y) : NoTwo H n N S (.int i) y N
  | same (i : Int) (h0 : 0 ≤ i) (h1 : i < (n : Int)) : NoTwo H n N S (.int i) (.int i) S
theorem NoTwo.ex {H H' : Hp} {n : Nat} {N S : Addr} {x y : V} {C : Addr} (e : Ex H H') (h : NoTwo H n N S x y C) : NoTwo H' n N S x y C := by
  cases h with
  | first x y h => exact .first x y (h.ex e)
  | second i y h0 h1 h => exact .second i y h0 h1 (h.ex e)
  | same i h0 h1 => exact .same i h0 h1
def RNoTwo (K : PySem.W.Frag) (N S : Addr) (vs : List V) (H : Hp) (C : Addr) : Prop := ∃ (l : Addr) (land : List Int) (x y : V), vs = [.ref l, x, y] ∧ SqL K H l (land.map V.int) ∧ land.length ≤ 1000 ∧ NoTwo H land.length N S x y C
def RHider (K : PySem.W.Frag) (vs : List V) (H : Hp) (v : V) : Prop := ∃ (l : Addr) (land : List Int) (a b : Int), vs = [.ref l, .int a, .int b] ∧ SqL K H l (land.map V.int) ∧ land.length ≤ 1000 ∧ 0 ≤ a ∧ a < (land.length : Int) ∧ 0 ≤ b ∧ b < (land.length : Int) ∧ a ≠ b ∧ v = hidV land a b
def RSees (K : PySem.W.Frag) (vs : List V) (H : Hp) (v : V) : Prop := ∃ (l : Addr) (land : List Int) (a b : Int), vs = [.ref l, .int a, .int b] ∧ SqL K H l (land.map V.int) ∧ land.length ≤ 1000 ∧ 0 ≤ a ∧ a < (land.length : Int) ∧ 0 ≤ b ∧ b < (land.length : Int) ∧ a ≠ b ∧ v = .bl (decide (hidV land a b = .non))
section
variable {K : PySem.W.Frag} {σ : L2.St} {H : Hp} {ta : TA} {t1 t2 : TE} {E : XK}
theorem ev_steeperU {r1 n1 r2 n2 : Int} (h1 : EvU t1 σ H [.int r1, .int n1]) (h2 : EvU t2 σ H [.int r2, .int n2]) (b1 : -(2 ^ 64) < n1) (b2 : n1 < 2 ^ 64) (b3 : -(2 ^ 64) < n2) (b4 : n2 < 2 ^ 64) :
    Ev (tCall (spV (RSteeper K)) [] E (tCons t1 (tCons t2 tNil))) σ H (.bl (decide (r2 * n1 < r1 * n2))) := fun H1 e1 Q q =>
  h1 H1 e1 _ fun p1 H2 _ e2 hp1 => h2 H2 (e1.trans e2) _ fun p2 H3 _ e3 hp2 => ⟨_, ⟨p1, p2, r1, n1, r2, n2, rfl, st_of (e3 _ _ hp1), st_of hp2, b1, b2, b3, b4, rfl⟩, fun H4 e4 => q H4 ((e2.trans e3).trans e4)⟩
theorem ev_steepest {l : Addr} {land : List Int} {a b : Int} (h : EvA ta σ H [.ref l, .int a, .int b]) (hs : SqL K H l (land.map V.int)) (h0 : 0 ≤ a) (h1 : a < b) (h2 : b < (land.length : Int)) (h3 : land.length ≤ 1000) : Ev (tCall (spV (RSteepest K)) [] E ta) σ H (.int (steepOf land a b)) :=
  ev_cal h fun _ e => ⟨l, land, a, b, rfl, h0, h1, h2, h3, ex_l e hs, rfl⟩
theorem ev_hider {N S l : Addr} {land : List Int} {a b : Int} (h : EvA ta σ H [.ref l, .int a, .int b]) (hs : SqL K H l (land.map V.int)) (h3 : land.length ≤ 1000) (a0 : 0 ≤ a) (a1 : a < (land.length : Int)) (b0 : 0 ≤ b) (b1 : b < (land.length : Int)) (hn : a ≠ b) :
    Ev (tCall (spVX (RHider K) (RNoTwo K N S)) [] E ta) σ H (hidV land a b) := ev_cal0 h fun _ e => ⟨l, land, a, b, rfl, ex_l e hs, h3, a0, a1, b0, b1, hn, rfl⟩
theorem ev_sees {N S l : Addr} {land : List Int} {a b : Int} (h : EvA ta σ H [.ref l, .int a, .int b]) (hs : SqL K H l (land.map V.int)) (h3 : land.length ≤ 1000) (a0 : 0 ≤ a) (a1 : a < (land.length : Int)) (b0 : 0 ≤ b) (b1 : b < (land.length : Int)) (hn : a ≠ b) :
    Ev (tCall (spVX (RSees K) (RNoTwo K N S)) [] E ta) σ H (.bl (decide (hidV land a b = .non))) := ev_cal0 h fun _ e => ⟨l, land, a, b, rfl, ex_l e hs, h3, a0, a1, b0, b1, hn, rfl⟩
end
end Hx
/-! For the law over whole sights: a chain of three comparisons, a dict of pairs, lands on a line and on a curve. -/
namespace Hx
open PySem PySem.Spec PyProof.Rows L2 Evl
section
variable {X : Cx} {a b c d : Expr} {ta tb tc td : TE} {pos : Pos}
def tChain3 (r1 r2 r3 : R2) (ta tb tc td : TE) : TT := fun σ H Q => ta σ H fun x H1 => tb σ H1 fun y H2 => r1 x y H2 fun z H3 => ∃ k, z = .bl k ∧ (if k = true then tc σ H3 fun w H4 => r2 y w H4 fun z2 H5 => ∃ k2, z2 = .bl k2 ∧
  (if k2 = true then td σ H5 fun u H6 => r3 w u H6 fun z3 H7 => ∃ k3, z3 = .bl k3 ∧ Q k3 H7 else Q false H5) else Q false H3)
theorem pt_chain3 {o1 o2 o3 : CmpOp} {r1 r2 r3 : R2} (h1 : OpR X (compareOp o1) r1) (h2 : OpR X (compareOp o2) r2) (h3 : OpR X (compareOp o3) r3) (ha : PE X a ta) (hb : PE X b tb) (hc : PE X c tc) (hd : PE X d td)
    (hm : lastMarks [o1, o2, o3] [b, c, d] = false := by with_unfolding_all rfl) : PT X (.Compare a [o1, o2, o3] [b, c, d] pos) (tChain3 r1 r2 r3 ta tb tc td) := by
  refine ⟨fun pins s σ H Q I q0 => ?_⟩
  refine isTrue_chain (thn (ha.run pins s σ H _ I q0) fun va sa ⟨xa, Ha, Ia, ra, qa⟩ => test_link (thn (hb.run pins sa σ Ha _ Ia qa) fun vb sb ⟨xb, Hb, Ib, rb, qb⟩ => thn (h1 pins sb σ Hb xa xb va vb _ Ib ra rb qb) fun v1 s1 ⟨z1, H1, I1, e1, k1, ek1, q1⟩ => ?_)) hm
  subst ek1
  cases e1
  refine wpAny_truthy_bool ?_
  cases k1 with
  | false => exact ⟨H1, I1, q1⟩
  | true =>
    refine test_link (thn (hc.run pins s1 σ H1 _ I1 q1) fun vc sc ⟨xc, Hc, Ic, rc, qc⟩ => thn (h2 pins sc σ Hc xb xc vb vc _ Ic rb rc qc) fun v2 s2 ⟨z2, H2, I2, e2, k2, ek2, q2⟩ => ?_)
    subst ek2
    cases e2
    refine wpAny_truthy_bool ?_
    cases k2 with
    | false => exact ⟨H2, I2, q2⟩
    | true =>
      refine test_last (thn (hd.run pins s2 σ H2 _ I2 q2) fun vd sd ⟨xd, Hd, Id, rd, qd⟩ => thn (h3 pins sd σ Hd xc xd vc vd _ Id rc rd qd) fun v3 s3 ⟨z3, H3, I3, e3, k3, ek3, q3⟩ => ?_)
      subst ek3
      cases e3
      exact wpAny_truthy_bool ⟨H3, I3, q3⟩
end
section
variable {K : PySem.W.Frag} {σ : L2.St} {H : Hp} {ta tb tc td te tl : TE} {D : Ends} {tz : TS} {ps : List (Int × Int)}
theorem et_chain3 {r1 r2 r3 : R2} {x y w u : V} {k1 k2 k3 : Bool} (ha : Ev ta σ H x) (hb : Ev tb σ H y) (hc : Ev tc σ H w) (hd : Ev td σ H u) (h1 : RV r1 x y H (.bl k1)) (h2 : RV r2 y w H (.bl k2)) (h3 : RV r3 w u H (.bl k3)) : EvT (tChain3 r1 r2 r3 ta tb tc td) σ H (k1 && (k2 && k3)) := fun H1 e1 Q q =>
  ha H1 e1 _ fun H2 e2 => hb H2 (e1.trans e2) _ fun H3 e3 => h1 H3 ((e1.trans e2).trans e3) _ fun H4 e4 => ⟨k1, rfl, by
    have f4 := ((e1.trans e2).trans e3).trans e4
    have g4 := (e2.trans e3).trans e4
    cases k1 with
    | false => exact q H4 g4
    | true => exact hc H4 f4 _ fun H5 e5 => h2 H5 (f4.trans e5) _ fun H6 e6 => ⟨k2, rfl, by
        have f6 := (f4.trans e5).trans e6
        have g6 := (g4.trans e5).trans e6
        cases k2 with
        | false => exact q H6 g6
        | true => exact hd H6 f6 _ fun H7 e7 => h3 H7 (f6.trans e7) _ fun H8 e8 => ⟨k3, rfl, q H8 ((g6.trans e7).trans e8)⟩⟩⟩
theorem rv_ltP {p q : Addr} {a b : Int × Int} (h1 : SqT K H p [.int a.1, .int a.2]) (h2 : SqT K H q [.int b.1, .int b.2]) (h : ltq a b) : RV (rLtT K) (.ref p) (.ref q) H (.bl true) := fun H1 e Q k => by
  refine ⟨p, q, [a.1, a.2], [b.1, b.2], rfl, rfl, ex_t e h1, ex_t e h2, ?_⟩
  have z : HT.lexLt [a.1, a.2] [b.1, b.2] = true := by
    unfold ltq at h
    simp only [HT.lexLt]
    rcases h with h | ⟨h, h'⟩
    · simp [h]
      omega
    · simp [h, h']
      omega
  rw [z]
  exact k H1 (Ex.refl H1)
/-! ### a dict of pairs -/
def kk (q : Int × Int) : List Key := [.inl q.1, .inl q.2]
theorem kk_inj {p q : Int × Int} (h : kk p = kk q) : p = q := by
  have h1 := List.cons.inj h
  have h2 := List.cons.inj h1.2
  exact Prod.ext (Sum.inl.inj h1.1) (Sum.inl.inj h2.1)
def dicF (d : List (List Key × V)) (ps : List (Int × Int)) : List (List Key × V) := ps.foldl (fun d q => putK d (kk q) (.bl true)) d
theorem dicF_has (q : Int × Int) : ∀ (ps : List (Int × Int)) (d : List (List Key × V)), (valV (dicF d ps) (kk q)).isSome = (decide (q ∈ ps) || (valV d (kk q)).isSome)
  | [], d => by simp [dicF]
  | p :: r, d => by
    have ih := dicF_has q r (putK d (kk p) (.bl true))
    show (valV (dicF (putK d (kk p) (.bl true)) r) (kk q)).isSome = _
    rw [ih, valV_put]
    by_cases e : q = p
    · subst e
      simp
    · rw [if_neg (fun z => e (kk_inj z))]
      simp [e]
theorem dicF_len : ∀ (ps : List (Int × Int)) (d : List (List Key × V)), (dicF d ps).length ≤ d.length + ps.length
  | [], d => Nat.le_refl _
  | p :: r, d => by
    have ih := dicF_len r (putK d (kk p) (.bl true))
    have z := length_putK d (kk p) (.bl true)
    show (dicF (putK d (kk p) (.bl true)) r).length ≤ d.length + (r.length + 1)
    omega
theorem dicF_snoc (d : List (List Key × V)) (ps : List (Int × Int)) (q : Int × Int) : dicF d (ps ++ [q]) = putK (dicF d ps) (kk q) (.bl true) := by
  unfold dicF
  rw [List.foldl_append]
  rfl
theorem s_dput {td ty tv : TE} {a t : Addr} {kvs : List (List Key × V)} {q : Int × Int} {v : V} (hv : Ev tv σ H v) (hd : Ev td σ H (.ref a)) (hy : Ev ty σ H (.ref t)) (h : H a = some (.dT kvs)) (ht : H t = some (.tup [.int q.1, .int q.2])) (hz : kvs.length < 100000)
    (k : ∀ H1, Ex H H1 → D.nx σ (upd H1 a (.dT (putK kvs (kk q) v)))) : sDPut td ty tv D σ H := hv H (Ex.refl H) _ fun H1 e1 => hd H1 e1 _ fun H2 e2 => hy H2 (e1.trans e2) _ fun H3 e3 =>
  ⟨a, _, rfl, .t (k := kk q) (((e1.trans e2).trans e3) _ _ h) (((e1.trans e2).trans e3) _ _ ht) (sz_lt hz), k H3 ((e1.trans e2).trans e3)⟩
theorem et_din {ty td : TE} {a : Addr} {kvs : List (List Key × V)} {q : Int × Int} (hy : EvU ty σ H [.int q.1, .int q.2]) (hd : Ev td σ H (.ref a)) (h : H a = some (.dT kvs)) : EvT (tB (tDIn ty td)) σ H (valV kvs (kk q)).isSome := fun H1 e1 Q k =>
  hy H1 e1 _ fun t H2 _ e2 ht => hd H2 (e1.trans e2) _ fun H3 e3 => ⟨a, _, rfl, .t (k := kk q) (((e1.trans e2).trans e3) _ _ h) (e3 _ _ ht), _, rfl, k H3 (e2.trans e3)⟩
/-! ### pairs out of a range; a list of pairs and one more -/
theorem ep_lcR {ta ta2 : TA} {j : Nat} {vs : List Nat} {n : Int} (f : Nat → Int × Int) (h : EvA ta σ H [.int n]) (hn : 0 ≤ n ∧ n ≤ 40000) (hw : ∀ x, wipe ((wipe σ vs).set j (some x)) vs = wipe σ vs)
    (he : ∀ (k : Nat) H1, Ex H H1 → (k : Int) < n → EvA ta2 ((wipe σ vs).set j (some (.int (k : Int)))) H1 [.int (f k).1, .int (f k).2]) : EvP (tLc (iRng1 ta) (gName j) tYes (tTup ta2) vs) σ H ((List.range n.toNat).map f) := fun H0 e0 Q k => h H0 e0 _ fun H1 e1 => ⟨n, rfl, by omega, by omega, fun Dl hD => by
  refine lc_range (lo := 0) (n := n.toNat) (fun m H' => Ex H1 H' ∧ ∃ bs, H' Dl = some (.lst (bs.map V.ref)) ∧ Tups H' bs ((List.range m).map f)) ⟨Ex.new hD, [], upd_same, Tups.nil _⟩ ?_ ?_
  · rintro m H' hm ⟨e2, bs, hb, tb⟩
    have ez : (0 : Int) + (m : Int) = (m : Int) := Int.zero_add _
    show wipe ((wipe σ vs).set j (some (.int ((0 : Int) + (m : Int))))) vs = wipe σ vs ∧ _
    rw [ez]
    refine ⟨hw _, t_yes ?_⟩
    refine he m H' ((e0.trans e1).trans e2) (by omega) H' (Ex.refl _) _ fun H3 e3 => ⟨sz_of (Nat.le_of_ble_eq_true rfl), fun c nc => ?_⟩
    have e4 : Ex H3 (upd H3 c (.tup [.int (f m).1, .int (f m).2])) := Ex.new nc
    have hb4 := e4 _ _ (e3 _ _ hb)
    have lb : bs.length ≤ 40000 := by rw [tb.1, List.length_map, List.length_range]; omega
    refine ⟨_, hb4, by rw [List.length_map, sizeLine_eq]; omega, Ex.mut ((e2.trans e3).trans e4) hD, bs ++ [c], ?_, ?_⟩
    · rw [upd_same, List.map_append]
      rfl
    · have z := (((tb.ex e3).ex e4).snoc (p := c) (q := f m) upd_same).upd (ys := bs.map V.ref ++ [.ref c]) hb4
      rw [List.range_succ, List.map_append]
      exact z
  · rintro H' ⟨e2, bs, hb, tb⟩
    exact k Dl H' bs (fresh_back e1 hD) (e1.trans e2) hb tb⟩
theorem ep_catS {p : Addr} {te2 : TE} {a b : Int} (ha : Ev ta σ H (.ref p)) (hp : PrL H p ps) (hb : EvU te2 σ H [.int a, .int b]) (hz : ps.length ≤ 90000) : EvP (tOp rCat ta (tLst (tCons te2 tNil))) σ H (ps ++ [(a, b)]) := fun H1 e1 Q q =>
  ha H1 e1 _ fun H2 e2 => hb H2 (e1.trans e2) _ fun t H3 nt e3 ht => ⟨sz_of (Nat.le_of_ble_eq_true rfl), fun r nr => by
    obtain ⟨as, h1, h2⟩ := hp
    have f3 := (e1.trans e2).trans e3
    have e4 : Ex H3 (upd H3 r (.lst [.ref t])) := Ex.new nr
    refine ⟨p, r, as.map V.ref, [.ref t], rfl, rfl, e4 _ _ (f3 _ _ h1), upd_same, sz_of (by rw [List.length_map, h2.1, List.length_cons, List.length_nil]; omega), fun l nl => ?_⟩
    have e5 : Ex (upd H3 r (.lst [.ref t])) (upd (upd H3 r (.lst [.ref t])) l (.lst (as.map V.ref ++ [.ref t]))) := Ex.new nl
    refine q l _ (as ++ [t]) (fresh_back ((e2.trans e3).trans e4) nl) (((e2.trans e3).trans e4).trans e5) (by rw [upd_same, List.map_append]; rfl) ?_
    exact (((h2.ex f3).ex e4).ex e5).snoc (e5 _ _ (e4 _ _ ht))⟩
theorem el_copyP {p : Addr} {as : List Addr} (h : Ev te σ H (.ref p)) (hp : H p = some (.lst (as.map V.ref))) : EvL (tCB (fun xs H Q => ∃ p ys, xs = [V.ref p] ∧ (SqL K H p ys ∨ SqT K H p ys) ∧ ∀ l, H l = none → Q (.ref l) (upd H l (.lst ys))) (tCons te tNil)) σ H (as.map V.ref) :=
  el_cb (ea_cons h ea_nil) (rcl_list (sq_of hp))
end
/-! ### lands on a line and on a curve -/
def lineOf (t : Int) (n : Nat) : List Int := (List.range n).map fun (k : Nat) => t * (k : Int) + 7
def curveOf (t : Int) (n : Nat) : List Int := (List.range n).map fun (k : Nat) => (k : Int) * (k : Int) + t * (k : Int)
theorem cel_line {t : Int} {n : Nat} {i : Int} (h0 : 0 ≤ i) (h : i < (n : Int)) : cel (lineOf t n) i = t * i + 7 := by
  unfold lineOf
  rw [cel_range h0 h]
  have e : ((i.toNat : Nat) : Int) = i := by omega
  rw [e]
theorem cel_curve {t : Int} {n : Nat} {i : Int} (h0 : 0 ≤ i) (h : i < (n : Int)) : cel (curveOf t n) i = i * i + t * i := by
  unfold curveOf
  rw [cel_range h0 h]
  have e : ((i.toNat : Nat) : Int) = i := by omega
  rw [e]
theorem line_ahead (t : Int) (n : Nat) {a : Int} (h0 : 0 ≤ a) : ∀ m : Nat, a + 1 + (m : Int) ≤ (n : Int) → aheadN (lineOf t n) a m = if m = 0 then [] else [a + 1]
  | 0, _ => rfl
  | 1, _ => by
    have z := aheadN_yes (i := 0) (land := lineOf t n) (a := a) (by have := sees_next (lineOf t n) a; simpa using this)
    rw [z]
    simp [aheadN]
  | m + 2, h => by
    have ih := line_ahead t n h0 (m + 1) (by omega)
    have hl : ((lineOf t n).length : Int) = (n : Int) := by unfold lineOf; rw [List.length_map, List.length_range]
    have z : seesB (lineOf t n) a (a + 1 + ((m + 1 : Nat) : Int)) = false := by
      refine seesB_false (k := a + 1) (by omega) (by omega) ?_
      unfold lowB
      rw [cel_line (by omega) (by omega), cel_line (by omega) (by omega), cel_line (by omega) (by omega)]
      intro y
      grind
    rw [aheadN_no z, ih]
    simp
theorem curve_ahead (t : Int) (n : Nat) {a : Int} (h0 : 0 ≤ a) : ∀ m : Nat, a + 1 + (m : Int) ≤ (n : Int) → aheadN (curveOf t n) a m = (List.range m).map fun (j : Nat) => a + 1 + (j : Int)
  | 0, _ => rfl
  | m + 1, h => by
    have ih := curve_ahead t n h0 m (by omega)
    have z : seesB (curveOf t n) a (a + 1 + (m : Int)) = true := seesB_iff.mpr fun k k1 k2 => by
      unfold lowB
      rw [cel_curve (by omega) (by omega), cel_curve (by omega) (by omega), cel_curve (by omega) (by omega)]
      generalize hb : a + 1 + (m : Int) = b at k2
      have p1 : 0 < (k - a) * (b - a) := Int.mul_pos (by omega) (by omega)
      have p2 : 0 < (k - a) * (b - a) * (b - k) := Int.mul_pos p1 (by omega)
      grind
    rw [aheadN_yes z, ih, List.range_succ, List.map_append]
    rfl
theorem flatP_congr {r1 r2 : Nat → List Int} {n : Nat} (h : ∀ k, k < n → r1 k = r2 k) : flatP r1 n = flatP r2 n := by
  unfold flatP
  rw [List.flatMap_def, List.flatMap_def]
  congr 1
  exact List.map_congr_left fun k hk => by rw [h k (List.mem_range.mp hk)]
theorem sights_line (t : Int) (n : Nat) (hn : 1 ≤ n) : sightsOf (lineOf t n) = (List.range (n - 1)).map fun (k : Nat) => ((k : Int), (k : Int) + 1) := by
  have hl : (lineOf t n).length = n := by unfold lineOf; rw [List.length_map, List.length_range]
  have row : ∀ k, k < n → aheadOf (lineOf t n) (k : Int) = if k + 1 < n then [(k : Int) + 1] else [] := fun k hk => by
    unfold aheadOf
    rw [hl, line_ahead t n (by omega) _ (by omega)]
    by_cases e : k + 1 < n
    · rw [if_neg (by omega), if_pos e]
    · rw [if_pos (by omega), if_neg e]
  unfold sightsOf
  have en : (((lineOf t n).length : Nat) : Int).toNat = n := by rw [hl]; omega
  rw [en, flatP_congr row]
  have part : ∀ i, i ≤ n - 1 → flatP (fun k => if k + 1 < n then [(k : Int) + 1] else []) i = (List.range i).map fun (k : Nat) => ((k : Int), (k : Int) + 1) := by
    intro i
    induction i with
    | zero => intro _; rfl
    | succ i ih =>
      intro hi
      rw [flatP_succ, ih (by omega), if_pos (by omega), List.range_succ, List.map_append]
      rfl
  obtain ⟨m, rfl⟩ : ∃ m, n = m + 1 := ⟨n - 1, by omega⟩
  rw [flatP_succ, part m (by omega), if_neg (by omega)]
  simp
theorem sights_curve (t : Int) (n : Nat) : sightsOf (curveOf t n) = flatP (fun k => (List.range (n - k - 1)).map fun (j : Nat) => (k : Int) + 1 + (j : Int)) n := by
  have hl : (curveOf t n).length = n := by unfold curveOf; rw [List.length_map, List.length_range]
  unfold sightsOf
  have en : (((curveOf t n).length : Nat) : Int).toNat = n := by rw [hl]; omega
  rw [en]
  refine flatP_congr fun k hk => ?_
  unfold aheadOf
  rw [hl, curve_ahead t n (by omega) _ (by omega)]
  have e : ((n : Int) - ((k : Int) + 1)).toNat = n - k - 1 := by omega
  rw [e]
end Hx
namespace Hx
open PySem PySem.Spec PyProof.Rows L2 Evl
def RBelow (K : PySem.W.Frag) (vs : List V) (H : Hp) (v : V) : Prop := ∃ (l : Addr) (land : List Int) (a b k : Int), vs = [.ref l, .int a, .int b, .int k] ∧ 0 ≤ a ∧ a < (land.length : Int) ∧ 0 ≤ b ∧ b < (land.length : Int) ∧ 0 ≤ k ∧ k < (land.length : Int) ∧ land.length ≤ 1000 ∧ SqL K H l (land.map V.int) ∧ v = .bl (decide (lowB land a b k))
def RPairs (vs : List V) (H : Hp) (v : V) : Prop := ∃ (p : Addr) (n : Int) (ps : List (Int × Int)), vs = [.ref p, .int n] ∧ PrL H p ps ∧ ps.Pairwise ltq ∧ (∀ q ∈ ps, 0 ≤ q.1 ∧ q.1 < q.2 ∧ q.2 < n) ∧ v = .bl true
def RKnown (K : PySem.W.Frag) (vs : List V) (H : Hp) (v : V) : Prop := ∃ (l : Addr) (ns : List Int), vs = [.ref l] ∧ SqL K H l (ns.map V.int) ∧ v = .bl true
section
variable {K : PySem.W.Frag} {σ : L2.St} {H : Hp} {ta : TA} {E : XK}
theorem ev_below {l : Addr} {land : List Int} {a b k : Int} (h : EvA ta σ H [.ref l, .int a, .int b, .int k]) (hs : SqL K H l (land.map V.int)) (a0 : 0 ≤ a) (a1 : a < (land.length : Int)) (b0 : 0 ≤ b) (b1 : b < (land.length : Int)) (k0 : 0 ≤ k) (k1 : k < (land.length : Int)) (h3 : land.length ≤ 1000) :
    Ev (tCall (spV (RBelow K)) [] E ta) σ H (.bl (decide (lowB land a b k))) := ev_cal h fun _ e => ⟨l, land, a, b, k, rfl, a0, a1, b0, b1, k0, k1, h3, ex_l e hs, rfl⟩
theorem ev_pairs {p : Addr} {n : Int} {ps : List (Int × Int)} (h : EvA ta σ H [.ref p, .int n]) (hp : PrL H p ps) (h1 : ps.Pairwise ltq) (h2 : ∀ q ∈ ps, 0 ≤ q.1 ∧ q.1 < q.2 ∧ q.2 < n) : Ev (tCall (spV RPairs) [] E ta) σ H (.bl true) :=
  ev_cal h fun _ e => ⟨p, n, ps, rfl, hp.ex e, h1, h2, rfl⟩
end
end Hx
namespace Hx
open PySem PySem.Spec PyProof.Rows L2 Evl
section
variable {K : PySem.W.Frag} {σ : L2.St} {H : Hp} {te : TE} {ta : TA} {D : Ends} {tz : TS}
theorem q_asgD {i : Nat} (k : ∀ p H1, H p = none → Ex H H1 → H1 p = some (.dT []) → tz D (σ.set i (some (.ref p))) H1) : tSeq (tAsg tDNewT (gName i)) tz D σ H := fun p hp => k p _ hp (Ex.new hp) upd_same
/-- [True for k in range(lo, n)] -/
theorem el_lcT {lo n : Int} {j : Nat} {vs : List Nat} (h : EvA ta σ H [.int lo, .int n]) (hn : 0 ≤ lo ∧ lo ≤ 40000 ∧ -40000 ≤ n ∧ n ≤ 40000) (hw : ∀ x, wipe ((wipe σ vs).set j (some x)) vs = wipe σ vs)
    (he : ∀ (k : Nat) H1, Ex H H1 → lo + (k : Int) < n → Ev te ((wipe σ vs).set j (some (.int (lo + (k : Int))))) H1 (.bl true)) : EvL (tLc (iRng2 ta) (gName j) tYes te vs) σ H ((List.replicate (n - lo).toNat true).map V.bl) := fun H0 e0 Q q => h H0 e0 _ fun H1 e1 =>
  ⟨lo, n, rfl, ⟨by omega, by omega, by omega, by omega⟩, fun Dl hD => by
  refine lc_range (lo := lo) (n := (n - lo).toNat) (fun m H' => Ex H1 H' ∧ H' Dl = some (.lst ((List.replicate m true).map V.bl))) ⟨Ex.new hD, upd_same⟩ ?_ ?_
  · rintro m H' hm ⟨e2, hb⟩
    refine ⟨hw _, t_yes ?_⟩
    refine he m H' ((e0.trans e1).trans e2) (by omega) H' (Ex.refl _) _ fun H3 e3 => ?_
    refine ⟨_, e3 _ _ hb, by rw [List.length_map, List.length_replicate, sizeLine_eq]; omega, Ex.mut (e2.trans e3) hD, ?_⟩
    rw [upd_same, List.replicate_succ', List.map_append]
    rfl
  · rintro H' ⟨e2, hb⟩
    exact q Dl H' (fresh_back e1 hD) (e1.trans e2) hb⟩
end
end Hx
/-! A try with several clauses that bear names; a def that looks at a caught error. -/
namespace Hx
open PySem PySem.Spec PyProof.Rows L2 Evl
/-- one clause: the class, the slot of its name, what its suite does -/
structure Cl where
  c : Value
  i : Nat
  ts : Addr → Value → Option Addr → TS
/-- the ends of a suite behind which the name is gone -/
def goneE (i : Nat) (D : Ends) : Ends where
  nx := fun τ G => D.nx (τ.set i none) G
  rt := D.rt
  bk := fun τ G => D.bk (τ.set i none) G
  ct := fun τ G => D.ct (τ.set i none) G
/-- what the clauses want, in their order; none may be left -/
def wCls (K : PySem.W.Frag) (D : Ends) : List Cl → WX
  | [] => fun _ _ _ _ => False
  | q :: r => fun cls d τ G => ∃ b, PySem.W.exmOne K cls q.c = some b ∧
      (b = true → ∀ x, G x = none → q.ts x cls d (goneE q.i D) (τ.set q.i (some (.ref x))) G) ∧ (b = false → wCls K D r cls d τ G)
inductive ClsOk (X : Cx) : List ExceptHandler → List Cl → Prop
  | nil : ClsOk X [] []
  | cons {y n : Str} {c : Value} {i : Nat} {ts : Addr → Value → Option Addr → TS} {b1 : Stmt} {bs : List Stmt} {p1 p2 : Pos} {hs : List ExceptHandler} {l : List Cl}
      (slot : X.N[i]? = some n) (loc : X.env.kindOf n = some .local) (nm : Names X y c)
      (suite : ∀ (x : Addr) (o : Obj) (cls : Value) (d : Option Addr) (pn : List (Addr × Obj)), Zc cls d o → (∃ fs, o.data = .fields fs) → PSs (X.suite x ((x, o) :: pn)) (b1 :: bs) (ts x cls d))
      (rest : ClsOk X hs l) : ClsOk X (.ExceptHandler (some (.Name y p1)) (some n) (b1 :: bs) p2 :: hs) (⟨c, i, ts⟩ :: l)
  /-- one without a name that is never met -/
  | bare {y : Str} {c : Value} {b1 : Stmt} {bs : List Stmt} {p1 p2 : Pos} {hs : List ExceptHandler} {l : List Cl} (nm : Names X y c) (rest : ClsOk X hs l) :
      ClsOk X (.ExceptHandler (some (.Name y p1)) none (b1 :: bs) p2 :: hs) (⟨c, 0, fun _ _ _ _ _ _ => False⟩ :: l)
section
variable {X : Cx} {pins : List (Addr × Obj)} {D : Ends} {B : Heap} {x : Addr} {s1 : Shared} {sI : Shared} {τ : L2.St} {G : Hp} {cls : Value} {d : Option Addr} {h3 : Heap}
/-- an error that has landed, looked at by the clauses -/
theorem clauses (ok : X.Ok) (nd : X.N.Nodup) (J : Inv X pins τ G sI) (nb : ∀ b o, sI.heap.get? b = some o → b ∉ frs X.stack → B.get? b = some o) (up : sI.heap.UpToSlots h3) (free : G x = none)
    (eo : s1.os = sI.os) (bare : AllBare s1.gens) (stk : X.stack = X.env :: X.outer) (fr : X.env.frame = some X.env.locals) (fl : HandSPX.FlyingZ B (X.env :: X.outer) x (Zc cls d) h3) :
    ∀ {hs : List ExceptHandler} {l : List Cl}, ClsOk X hs l → wCls X.K D l cls d τ G → wpAny (model X.prog X.w) X.A (handleBy (.ref x) X.env hs) (SP X pins D) X.xe { s1 with heap := h3 } := by
  have awayAt : ∀ {h : Heap} {o : Obj} {fs : Array Value}, h.FunFrames B (X.env :: X.outer) → h.get? x = some o → o.data = .fields fs → x ∉ frs (X.env :: X.outer) := by
    intro h o fs ff e dd hm
    obtain ⟨_, o2, e2, no⟩ := ff.mem hm
    rw [e2] at e
    cases e
    exact no _ dd
  obtain ⟨o3, f3, g3, z3, d3⟩ := fl.there
  have away := awayAt fl.2.2.1 g3 d3
  have aL : x ≠ X.env.locals := by
    intro z
    refine away (List.mem_filterMap.mpr ⟨X.env, List.mem_cons_self, ?_⟩)
    rw [fr, z]
  have aF : x ∉ X.fs := by
    intro hm
    obtain ⟨e, he, q⟩ := List.mem_filterMap.mp hm
    exact away (List.mem_filterMap.mpr ⟨e, List.mem_cons_of_mem _ he, q⟩)
  have back : ∀ {h : Heap}, sI.heap.UpToSlots h → HandSPX.FlyingZ B (X.env :: X.outer) x (Zc cls d) h → Inv X pins τ G { s1 with heap := h } := fun {h} u f => J.landed nb f.1 u eo bare
  have S3 := (back up fl).suite g3 d3 free aL aF
  have asks : PySem.W.Looks (model X.prog X.w) h3 (typeOf (.ref x)) cls := fun A Q E s k q => wpAny_typeOf_ref (k _ _ g3) (by rw [z3.1]; exact q)
  intro hs l ok2
  induction ok2 with
  | nil => exact fun w => w.elim
  | @bare y c b1 bs p1 p2 hs2 l2 nm rest ih =>
    rintro ⟨b, hb, yes, no⟩
    have M := PySem.W.exm_one (M := model X.prog X.w) (back up fl).kIn asks hb
    have named : ∀ {Q E : Value → Shared → Prop}, Q c { s1 with heap := h3 } → wpAny (model X.prog X.w) (X.A.mark (some (.ref x))) (eval (.Name y p1) X.env) Q E { s1 with heap := h3 } := by
      intro Q E q
      obtain ⟨g, db, m | ⟨m, v, nn⟩⟩ := nm
      · exact ld_glob (X := X.suite x ((x, o3) :: (X.pn ++ pins))) S3 g m q db
      · exact ld_blt (X := X.suite x ((x, o3) :: (X.pn ++ pins))) S3 g m v q nn db
    refine wpAny_handleBy_cons (codeAny_handlers_test (named (M.here ?_))) (fun q => nomatch q)
    cases b with
    | false => exact ih (no rfl)
    | true => exact (yes rfl x free).elim
  | @cons y n c i ts b1 bs p1 p2 hs2 l2 slot loc nm suite rest ih =>
    rintro ⟨b, hb, yes, no⟩
    have M := PySem.W.exm_one (M := model X.prog X.w) (back up fl).kIn asks hb
    have named : ∀ {Q E : Value → Shared → Prop}, Q c { s1 with heap := h3 } → wpAny (model X.prog X.w) (X.A.mark (some (.ref x))) (eval (.Name y p1) X.env) Q E { s1 with heap := h3 } := by
      intro Q E q
      obtain ⟨g, db, m | ⟨m, v, nn⟩⟩ := nm
      · exact ld_glob (X := X.suite x ((x, o3) :: (X.pn ++ pins))) S3 g m q db
      · exact ld_blt (X := X.suite x ((x, o3) :: (X.pn ++ pins))) S3 g m v q nn db
    refine wpAny_handleBy_cons (codeAny_handlers_test (named (M.here ?_))) (fun q => nomatch q)
    cases b with
    | false => exact ih (no rfl)
    | true =>
      refine codeAny_handlers_suite_as (HandSPX.lands_againZ fl fun h4 fl4 up4 => ?_)
      obtain ⟨o4, f4, g4, z4, d4⟩ := fl4.there
      have S4 := (back (up.trans up4) fl4).suite g4 d4 free aL aF
      refine store_ok (X := X.suite x ((x, o4) :: (X.pn ++ pins))) (v := .ref x) S4 nd slot (.inl loc) rfl (fun s5 S5 => ?_) (.inr loc)
      refine wpAny_mono ((suite x o4 cls d (X.pn ++ pins) z4 ⟨_, d4⟩).run [] s5 _ G _ S5 (yes rfl x free)) (fun f s6 e6 => ?_) (fun _ _ z => z.elim)
      have gone : ∀ {τ6 : L2.St} {G6 : Hp} {Q : Shared → Prop}, Inv (X.suite x ((x, o4) :: (X.pn ++ pins))) [] τ6 G6 s6 → (∀ s7, Inv X pins (τ6.set i none) G6 s7 → Q s7) →
          wpAny (model X.prog X.w) X.A (do bindName X.env n .none; unbindBehindTheSuite X.env n p2) (fun _ s7 => Q s7) X.xe s6 := by
        intro τ6 G6 Q S6 k
        exact gone_ok (S6.unsuite ok) nd slot loc k
      cases f with
      | ret u =>
        obtain ⟨v6, τ6, G6, S6, r6, q6⟩ := e6
        exact gone S6 fun _ J7 => ⟨v6, _, G6, J7, r6, q6⟩
      | next =>
        obtain ⟨τ6, G6, S6, q6⟩ := e6
        exact gone S6 fun _ J7 => ⟨_, G6, J7, q6⟩
      | cont =>
        obtain ⟨τ6, G6, S6, q6⟩ := e6
        exact gone S6 fun _ J7 => ⟨_, G6, J7, q6⟩
      | brk =>
        obtain ⟨τ6, G6, S6, q6⟩ := e6
        exact gone S6 fun _ J7 => ⟨_, G6, J7, q6⟩
end
section
variable {X : Cx} {body : List Stmt} {h1 : ExceptHandler} {hs : List ExceptHandler} {l : List Cl} {p0 : Pos} {tb : WX → TS}
/-- try: body / except C1 as n: .. / except C2 as m: .. -/
theorem ps_catch (stk : X.stack = X.env :: X.outer) (fr : X.env.frame = some X.env.locals) (nd : X.N.Nodup)
    (hb : ∀ (W : WX) (pn : List (Addr × Obj)) (xe : Value → Shared → Prop), Takes (X.tr pn xe) W → PSs (X.tr pn xe) body (tb W)) (hc : ClsOk X (h1 :: hs) l) :
    PS X (.Try body (h1 :: hs) [] [] p0) (fun D τ G => tb (wCls X.K D l) D τ G) := by
  refine ⟨fun pins s τ G D I w => wpAny_Try_except ?_⟩
  have ok := I.ok
  have frA : X.A.frames = some (X.env :: X.outer) := by
    rw [ok.frames, stk]
  refine wpAny_mono ((hb (wCls X.K D l) (X.pn ++ pins) _ ?caught).run [] s τ G D (I.toTry _) w) (fun f s2 e2 => ?_) (fun _ _ z => z)
  case caught =>
    rintro u s2 ⟨x, B, sI, pins2, τ2, G2, cls, d, rfl, J2, nb, up, sky, free, eo, bare, w2⟩
    have J : Inv X pins τ2 G2 sI := J2.ofTry ok
    have air : Sky B (X.env :: X.outer) x (Zc cls d) X.env.locals s2.heap := by
      rw [← stk]
      exact sky
    exact Sky.land Zc.steady frA fr air fun h3 fl3 up3 => clauses ok nd J nb (up.trans up3) free eo bare stk fr fl3 hc w2
  cases f with
  | ret u =>
    obtain ⟨v, τ2, G2, J2, r, q⟩ := e2
    exact ⟨v, τ2, G2, J2.ofTry ok, r, q⟩
  | next =>
    obtain ⟨τ2, G2, J2, q⟩ := e2
    exact wpAny_execs_nil ⟨τ2, G2, J2.ofTry ok, q⟩
  | cont =>
    obtain ⟨τ2, G2, J2, q⟩ := e2
    exact ⟨τ2, G2, J2.ofTry ok, q⟩
  | brk =>
    obtain ⟨τ2, G2, J2, q⟩ := e2
    exact ⟨τ2, G2, J2.ofTry ok, q⟩
end
/-- xs.append(e), the fragment told ahead (within a try, where the reading may not name the body's own context) -/
theorem pe_appK {X : Cx} {K : PySem.W.Frag} {o e : Expr} {ap cp : Pos} {to : TE} {t : TA} (ho : PE X o to) (ha : PA X [e] t) (hK : X.K = K := by rfl) (hbase : attributeBase o "append" X.env (eval o X.env) = eval o X.env := by rfl)
    (hfew : ((backTo cp (starEach [e] X.env)).all (fun x => !x.1) && (backToKw cp (keywordEach [] X.env)).all (fun x => x.1.isSome) && decide ([e].length + ([] : List Keyword).length + (if ([] : List Keyword).isEmpty then 0 else 1) < 30)) = true := by rfl)
    (hline : (ap.endLine == cp.line) = true := by rfl) (hs : starEach [e] X.env = (false, eval e X.env) :: starEach [] X.env := by rfl) (hplain : (backTo cp (starEach [] X.env)).any (·.1) = false := by rfl) :
    PE X (.Call (.Attribute o "append" ap) [e] [] cp) (tBM K "list" rAppend to t) := by
  subst hK
  exact pe_bm PySem.F.plainAttrs_list PySem.F.slot_list_append PySem.F.type_list_append mt_append ho ha hbase hfew hline hs hplain
end Hx
namespace Hx
open PySem PySem.Spec PyProof.Rows L2 Evl
/-- a def of one parameter, asked for a caught error of the class at C: it tells v, and no more than new things come -/
structure FnZ (P : Program) (w : World) (K : PySem.W.Frag) (mg : Str → Option Value) (base : Heap) (k : Nat) (f : Addr) (fd : FuncData) (y : Str) (C : Addr) (v : V) : Prop where
  run : ∀ (A : Around) (out : List Env) (s : Shared) (G : Hp) (as : Args) (q : Addr × Obj), L2H.RoomH k A → Zc (.ref C) none q.2 → (∃ fs, q.2.data = .fields fs) → L2H.PinOk out G s q →
    Env0 P w K mg base A out s G → BindsTo s fd as [(y, .ref q.1)] → codeAny (model P w) A (.call (.ref f) as) (CR CX0 out P w G s (fun u G' => u = v ∧ Ex G G') E0) s
/-- by its body -/
theorem Fun.okZ {P : Program} {w : World} {K : PySem.W.Frag} {mg : Str → Option Value} {base : Heap} {x qual y : Str} {st : Stmt} {f : Addr} {fd : FuncData} {N : List Str} {k : Nat} {C : Addr} {v : V} (F : Fun K x qual st f fd) (S : FnScope N [y] (defScope st))
    (h : ∀ (cdv : Value) (A : Around) (out : List Env) (s : Shared) (G : Hp) (q : Addr × Obj), L2H.RoomH k (A.deeper (envOfC qual (defScope st) s.heap.objs.size f cdv)) → Zc (.ref C) none q.2 → (∃ fs, q.2.data = .fields fs) →
      ∃ t, PSs (L2H.cxH CX0 P w K mg base N qual (defScope st) f cdv A out s G E0 q) (defBody st) t ∧ t { nx := fun _ _ => False, rt := fun u G' => u = v ∧ Ex G G' } (L2.start N [.ref q.1]) G) : FnZ P w K mg base (k + 1) f fd y C v := by
  obtain ⟨oc, od, kV, doc, pm, an, cdv, ct, osl, rfl, lk, code⟩ := F.ex
  refine ⟨fun A out s G as q room z hf pin e0 hb => ?_⟩
  have grow : ∀ b o, base.get? b = some o → s.heap.get? b = some o := fun b o e => (e0.bs b o e).1
  have there : K.In s.heap := e0.mod.kin.keeps grow
  have kinds : ∀ z ∈ [(y, Value.ref q.1)], (defScope st).names.lookup z.1 = some .local ∨ ((defScope st).names.lookup z.1 = some .cell ∧ ((cellsFrom (s.heap.objs.size + 1) (defScope st).names []).lookup z.1).isSome = true) := by
    intro z hz
    cases List.mem_singleton.mp hz
    rcases S.par y List.mem_cons_self with k | k
    · exact .inl k
    · exact .inr ⟨k, PySem.W.cellsFrom_some _ _ _ (.inl k)⟩
  refine codeAny_call_function room.depth (there _ _ lk) rfl S.co S.gen rfl (PySem.W.codeRec_of there code) (hb _ _ _ _ (wpAny_newFunctionEnv_cells S.kind kinds fun env he s1 x1 => ?_))
  subst he
  refine ⟨(e0.mod.nolimit.keeps grow).keeps x1.toInCall.keep, codeAny_func ?_⟩
  obtain ⟨t, ht, hq⟩ := h cdv A out s G q (room.deeper _) z hf
  have I := L2H.inv_startH (CX := CX0) (E := E0) (cd := cdv) (us := [.ref q.1]) (vs := [.ref q.1]) S pin e0 rfl (.cons rfl .nil) x1
  refine wpAny_mono (ht.run [] s1 _ G _ I hq) (fun fl s2 e2 => ?_) fun _ _ e => e
  cases fl with
  | ret u =>
    obtain ⟨v2, _, G2, J, r, e⟩ := e2
    exact ⟨v2, G2, J.os, J.bare, J.base, J.hok, r, e⟩
  | next =>
    obtain ⟨_, _, _, z⟩ := e2
    exact z.elim
  | cont =>
    obtain ⟨_, _, _, z⟩ := e2
    exact False.elim z
  | brk =>
    obtain ⟨_, _, _, z⟩ := e2
    exact False.elim z
/-- such a def under its name -/
structure CalZ (P : Program) (w : World) (K : PySem.W.Frag) (mg : Str → Option Value) (base : Heap) (x : Str) (k : Nat) (y : Str) (R : Addr → V → Prop) : Prop where
  ex : ∃ f fd, (∀ C v, R C v → FnZ P w K mg base k f fd y C v) ∧ mg x = some (.ref f) ∧ PySem.W.keepIn K (.ref f) = true ∧ Binds K fd [y] []
/-- the call, within the suite -/
def tZ (R : Addr → V → Prop) (cls : Value) (d : Option Addr) (a : Addr) (t : TA) : TE := fun σ H Q => t σ H fun vs H1 => vs = [.ref a] ∧ ∃ C v, cls = .ref C ∧ d = none ∧ R C v ∧ ∀ H2, Ex H1 H2 → Q v H2
section
variable {X : Cx} {x y : Str} {k j : Nat} {R : Addr → V → Prop} {p pos : Pos} {e : Expr} {t : TA} {a C : Addr} {o : Obj} {v : V}
theorem pe_calZ {cls : Value} {d : Option Addr} (c : CalZ X.prog X.w X.K X.mg X.base x k y R) (hr : L2H.RoomH j X.A) (hz : Zc cls d o) (hf : ∃ fs, o.data = .fields fs) (hm : (a, o) ∈ X.pn) (ha : PA X [e] t) (hk : k ≤ j := by decide) (hg : Gl X x := by rfl)
    (hdb : (x == ("__debug__" : Str)) = false := by decide) (he : starEach [e] X.env = (false, eval e X.env) :: starEach [] X.env := by rfl) (hpl : (backTo pos (starEach [] X.env)).any (·.1) = false := by rfl) :
    PE X (.Call (.Name x p) [e] [] pos) (tZ R cls d a t) := by
  obtain ⟨f, fd, F, m, keep, b⟩ := c.ex
  refine ⟨fun pins s σ H Q I h => wpAny_Call_Name_kw (ld_glob I hg m ?_ hdb)⟩
  refine PySem.W.callWith_K (h₀ := X.base) I.ok.mod.kin keep (thn (ha.run pos pins s σ H _ I h) fun us s1 ⟨vs, H1, I1, r, ev, C, v, ec, ed, hv, q⟩ => ⟨I1.kIn, ?_⟩) he hpl
  subst ev ec ed
  obtain ⟨g, free, nL, nF, nc⟩ := I1.pin (a, o) (List.mem_append_left _ hm)
  have pin : L2H.PinOk X.stack H1 s1 (a, o) := by
    refine ⟨g, free, fun z => ?_, nc⟩
    rcases List.mem_cons.mp (I1.stkSub a z) with z | z
    · exact nL z
    · exact nF z
  cases r with
  | cons ru rn =>
    cases rn
    cases ru
    refine wpAny_call (codeAny_mono ((F C v hv).run X.A X.stack s1 H1 ⟨[.ref a], []⟩ (a, o) ⟨Nat.lt_of_le_of_lt (by omega) hr.dp, Nat.lt_of_le_of_lt (by omega) hr.un⟩ hz hf pin I1.env0 (b s1 [.ref a] I1.kIn rfl)) fun res s2 e2 => ?_)
    match res, e2 with
    | .ok (.ret u), e2 =>
      refine I1.after ?_
      obtain ⟨u2, G, e3, e4, e5, e6, e7, rfl, e8⟩ := e2
      exact ⟨u2, G, e3, e4, e5, e6, e7, q G e8⟩
/-- isinstance of that error, wherever it is pinned -/
theorem call_isZ (c : ExcC X.K C) (hz : Zc (.ref C) none o) (hf : ∃ fs, o.data = .fields fs) (hm : (a, o) ∈ X.pn) : CallR X (.builtin "isinstance") (rIsE X.K C a) := by
  rintro pins s σ H xs us Q I r ⟨u, w, b, rfl, hu, hb, q⟩
  cases r with
  | cons r1 r2 =>
    cases r1
    cases r2 with
    | cons r3 r4 =>
      cases r4
      cases hu _ r3
      obtain ⟨c1, d1, dt, sl⟩ := o
      obtain ⟨fs, rfl⟩ : ∃ fs, dt = .fields fs := hf
      obtain ⟨rfl, rfl⟩ : c1 = .ref C ∧ d1 = none := hz
      have at1 : PySem.W.InstAt s.heap a _ C none := ⟨(I.pin _ (List.mem_append_left _ hm)).1, rfl, rfl, trivial⟩
      have kit := PySem.W.handS_kitx_exc (x := a) (ox := ⟨.ref C, none, .fields fs, sl⟩) c.hg c.hk c.hs c.hd c.ha c.hn c.ht c.hm
      exact PySem.W.kia_one kit I.kIn at1 hb (fun z => nomatch z) fun tk => ⟨.bl b, H, I.kept (t' := tk) (fun _ _ z => z), rfl, q⟩
end
theorem rc_isZ {K : PySem.W.Frag} {H : Hp} {D a c : Addr} {b : Bool} (h : PySem.W.kitOne K (.ref D) (.ref c) = some b) : RC (rIsE K D a) [.ref a, .ref c] H (.bl b) := fun H1 _ Q q =>
  ⟨.ref c, .ref c, b, rfl, fun _ r => r, h, q H1 (Ex.refl H1)⟩
theorem rc_isZt {K : PySem.W.Frag} {H : Hp} {D a : Addr} {T : String} {b : Bool} (h : PySem.W.kitOne K (.ref D) (.type T) = some b) : RC (rIsE K D a) [.ref a, .ty T] H (.bl b) := fun H1 _ Q q =>
  ⟨.ty T, .type T, b, rfl, fun _ r => r, h, q H1 (Ex.refl H1)⟩
theorem ev_calZ {σ : L2.St} {H : Hp} {a C : Addr} {v : V} {t : TA} {R : Addr → V → Prop} (h : EvA t σ H [.ref a]) (hR : R C v) : Ev (tZ R (.ref C) none a t) σ H v := fun H1 e Q q => h H1 e _ fun H2 e2 => ⟨rfl, C, v, rfl, rfl, hR, fun H3 e3 => q H3 (e2.trans e3)⟩
/-- which of the module's own errors one of the class D is -/
structure SoleK (K : PySem.W.Frag) (L N S T U HE D : Addr) : Prop where
  e : ExcC K D
  one : ∃ b1 b2 b3 b4 b5 : Bool, PySem.W.kitOne K (.ref D) (.ref L) = some b1 ∧ PySem.W.kitOne K (.ref D) (.ref N) = some b2 ∧ PySem.W.kitOne K (.ref D) (.ref S) = some b3 ∧ PySem.W.kitOne K (.ref D) (.ref T) = some b4 ∧
    PySem.W.kitOne K (.ref D) (.ref U) = some b5 ∧ (b1.toInt + b2.toInt + b3.toInt + b4.toInt + b5.toInt = 1)
  h : PySem.W.kitOne K (.ref D) (.ref HE) = some true
  v : PySem.W.kitOne K (.ref D) (.type "ValueError") = some true
theorem ExK.kit {K : PySem.W.Frag} {mg : Str → Option Value} {x : Str} {C D : Addr} {b : Bool} (X : ExK K mg x C) (h : PySem.W.subIn K (.ref D) (.ref C) = some b) : PySem.W.kitOne K (.ref D) (.ref C) = some b := by
  unfold PySem.W.kitOne
  by_cases e : D = C
  · subst e
    rw [if_pos (by simp)]
    exact X.s.symm.trans h
  · rw [if_neg (fun z => e (Value.ref.inj (beq_iff_eq.mp z)))]
    obtain ⟨cd, hc, _⟩ := PySem.W.any_some X.d
    show (if _ = true then _ else _) = _
    rw [if_pos (by rw [hc, X.t]; rfl)]
    exact h
theorem kit_top {K : PySem.W.Frag} {D : Addr} {T : String} {b : Bool} (m : PySem.W.kitMeta T = true) (h : PySem.W.subIn K (.ref D) (.type T) = some b) : PySem.W.kitOne K (.ref D) (.type T) = some b := by
  unfold PySem.W.kitOne
  rw [if_neg (fun z => by cases beq_iff_eq.mp z)]
  show (if PySem.W.kitMeta T = true then _ else _) = _
  rw [if_pos m]
  exact h
section
variable {σ : L2.St} {H : Hp} {te : TE} {tr : TA} {xs : List V} {P : List V → Hp → Prop}
theorem eax_consU (h : EvU te σ H xs) (hr : EvAX tr σ H P) : EvAX (tCons te tr) σ H (fun vs H2 => ∃ p r H1, vs = .ref p :: r ∧ H1 p = some (.tup xs) ∧ Ex H1 H2 ∧ P r H2) := fun H1 e1 Q q =>
  h H1 e1 _ fun p H2 _ e2 hp => hr H2 (e1.trans e2) _ fun r H3 e3 y => q (.ref p :: r) H3 (e2.trans e3) ⟨p, r, H2, rfl, hp, e3, y⟩
theorem eax_lastL (h : EvL te σ H xs) : EvAX (tCons te tNil) σ H (fun vs H2 => ∃ p, vs = [.ref p] ∧ H2 p = some (.lst xs)) := fun H1 e1 Q q =>
  h H1 e1 _ fun p H2 _ e2 hp => q [.ref p] H2 e2 ⟨p, rfl, hp⟩
end
/-- the law's own look for the hider: what is found behind i places -/
def fndV (land : List Int) (a : Int) : Nat → V
  | 0 => .non
  | i + 1 => .int (steepN land a i)
def hidOf (land : List Int) (a b : Int) : V := if steepOf land a b = b then .non else .int (steepOf land a b)
theorem hidV_eq (land : List Int) (a b : Int) : hidV land a b = hidOf land (min a b) (max a b) := rfl
def RAbove (K : PySem.W.Frag) (vs : List V) (H : Hp) (v : V) : Prop := ∃ (l : Addr) (land : List Int) (a j k : Int), vs = [.ref l, .int a, .int j, .int k] ∧ 0 ≤ a ∧ a < (land.length : Int) ∧ 0 ≤ j ∧ j < (land.length : Int) ∧ 0 ≤ k ∧ k < (land.length : Int) ∧ land.length ≤ 1000 ∧ SqL K H l (land.map V.int) ∧
  v = .bl (decide ((cel land k - cel land a) * (j - a) < (cel land j - cel land a) * (k - a)))
def RHiderBy (K : PySem.W.Frag) (vs : List V) (H : Hp) (v : V) : Prop := ∃ (l : Addr) (land : List Int) (a b : Int), vs = [.ref l, .int a, .int b] ∧ 0 ≤ a ∧ a < b ∧ b < (land.length : Int) ∧ land.length ≤ 1000 ∧ SqL K H l (land.map V.int) ∧ v = hidOf land a b
/-- the word for a refusal -/
def RWord (K : PySem.W.Frag) (N S : Addr) (vs : List V) (H : Hp) (v : V) : Prop := ∃ (l : Addr) (land : List Int) (x y : V) (C : Addr), vs = [.ref l, x, y] ∧ SqL K H l (land.map V.int) ∧ land.length ≤ 1000 ∧ NoTwo H land.length N S x y C ∧
  ((C = N ∧ v = .str "no hill") ∨ (C = S ∧ v = .str "same hill"))
end Hx
/-! Own readings for the second stage: negative places, pops, zip, slices, is True, all whole. -/
namespace Hx
open PySem PySem.Spec PyProof.Rows L2 Evl
theorem getD_neg {ns : List Int} {j : Int} (h0 : j < 0) (h : -(ns.length : Int) ≤ j) : atI (ns.map V.int) j = some (V.int (cel ns ((ns.length : Int) + j))) := by
  have hl : (ns.map V.int).length = ns.length := List.length_map ..
  have e := getD_ix (ns := ns) (j := (ns.length : Int) + j) (by omega) (by omega)
  unfold atI ixN at e ⊢
  rw [hl] at e ⊢
  rw [if_pos (by omega), if_pos (by omega)] at e
  rw [if_neg (by omega), if_pos h]
  have ez : (j + (ns.length : Int)).toNat = ((ns.length : Int) + j).toNat := by omega
  rw [ez]
  exact e
theorem get_cel {ns : List Int} {j : Int} (h0 : 0 ≤ j) (h : j < (ns.length : Int)) : ns[j.toNat]? = some (cel ns j) := by
  unfold cel
  rw [List.getD_eq_getElem?_getD, List.getElem?_eq_getElem (by omega)]
  rfl
theorem cutV_from (xs : List V) (k : Nat) : cutV xs (some (k : Int)) none = xs.drop k := by
  unfold cutV
  rw [HT.sIx_nat, HT.sIx_none]
  by_cases h : k ≤ xs.length
  · rw [Nat.min_eq_left h, List.take_of_length_le (by rw [List.length_drop]; omega)]
  · rw [Nat.min_eq_right (by omega), List.drop_of_length_le (Nat.le_refl _), List.drop_of_length_le (by omega), List.take_nil]
theorem cutV_init (xs : List V) (x : V) : cutV (xs ++ [x]) none (some (-1)) = xs := by
  unfold cutV
  have e : HT.sIx (xs ++ [x]).length (xs ++ [x]).length (some (-1)) = xs.length := by
    show (if (-1 : Int) < 0 then (-1 + ((xs ++ [x]).length : Int)).toNat else min (-1 : Int).toNat (xs ++ [x]).length) = _
    rw [if_pos (by decide), List.length_append, List.length_singleton]
    omega
  rw [e, HT.sIx_none, List.drop_zero, Nat.sub_zero, List.take_left]
theorem cutV_to (xs : List V) (k : Nat) : cutV xs none (some (k : Int)) = xs.take k := by
  unfold cutV
  rw [HT.sIx_nat, HT.sIx_none, List.drop_zero, Nat.sub_zero]
  by_cases h : k ≤ xs.length
  · rw [Nat.min_eq_left h]
  · rw [Nat.min_eq_right (by omega), List.take_of_length_le (Nat.le_refl _), List.take_of_length_le (by omega)]
theorem cutV_mid (xs : List V) (j k : Nat) : cutV xs (some (j : Int)) (some (k : Int)) = (xs.drop j).take (k - j) := by
  unfold cutV
  rw [HT.sIx_nat, HT.sIx_nat]
  by_cases h : j ≤ xs.length
  · rw [Nat.min_eq_left h]
    by_cases h2 : k ≤ xs.length
    · rw [Nat.min_eq_left h2]
    · rw [Nat.min_eq_right (by omega), List.take_of_length_le (by rw [List.length_drop]; omega), List.take_of_length_le (by rw [List.length_drop]; omega)]
  · rw [Nat.min_eq_right (show xs.length ≤ j by omega), List.drop_of_length_le (Nat.le_refl _), List.drop_of_length_le (show xs.length ≤ j by omega), List.take_nil, List.take_nil]
section
variable {K : PySem.W.Frag} {σ : L2.St} {H H' : Hp} {ta tb te tx : TE} {t u : TT} {x y z v : V} {D : Ends} {tu tw tz : TS} {g : TG}
theorem s_pop {l : Addr} {xs : List V} {x : V} (hl : H l = some (.lst (xs ++ [x]))) (ha : Ev ta σ H (.ref l)) (k : ∀ H1, Ex H H1 → D.nx σ (upd H1 l (.lst xs))) : tDrop (tBM0 K "list" rPop ta) D σ H := ha H (Ex.refl H) _ fun H1 e1 =>
  ⟨Or.inl ⟨rfl, _, sq_of (e1 l _ hl)⟩, l, xs ++ [x], x, rfl, rfl, e1 l _ hl, by rw [List.length_append, List.length_singleton, Nat.add_sub_cancel]; exact List.getElem?_concat_length, by rw [List.dropLast_concat]; exact k H1 e1⟩
theorem q_pop {l : Addr} {xs : List V} {x : V} (hl : H l = some (.lst (xs ++ [x]))) (ha : Ev ta σ H (.ref l)) (k : ∀ H1, Ex H H1 → tz D σ (upd H1 l (.lst xs))) : tSeq (tDrop (tBM0 K "list" rPop ta)) tz D σ H := s_pop (D := { D with nx := tz D }) hl ha k
theorem el_from {a : Addr} {xs : List V} (k : Nat) (h : Ev te σ H (.ref a)) (hs : SqL K H a xs) : EvL (tSl (rSlL K) te (tPart (tC (.int (k : Int)))) tNoPart) σ H (xs.drop k) := by
  rw [← cutV_from xs k]
  exact el_sl h (eo_some ev_c) eo_none hs
theorem rv_isB {a b : Bool} : RV rIsB (.bl a) (.bl b) H (.bl (decide (a = b))) := fun H1 _ _ q => ⟨a, b, rfl, rfl, q H1 (Ex.refl H1)⟩
theorem rv_notB {a b : Bool} : RV rNotB (.bl a) (.bl b) H (.bl (!decide (a = b))) := fun H1 _ _ q => ⟨a, b, rfl, rfl, q H1 (Ex.refl H1)⟩
theorem rc_abs {i : Int} : RC (fun xs H Q => ∃ i, xs = [V.int i] ∧ Q (.int (if i < 0 then -i else i)) H) [.int i] H (.int (i.natAbs : Int)) := fun H1 _ Q q => ⟨i, rfl, by
  have e : (if i < 0 then -i else i) = (i.natAbs : Int) := by split <;> omega
  rw [e]
  exact q H1 (Ex.refl H1)⟩
theorem for_zipM {a b : Addr} {xs ys : List V} (Pv : Nat → L2.St → Hp → Prop) (h0 : Pv 0 σ H) (hq : ∀ i σ H, Pv i σ H → SqL K H a xs ∧ SqL K H b ys)
    (hs : ∀ (i : Nat) (x y : V) (T : Addr) (σ : L2.St) (H : Hp), xs[i]? = some x → ys[i]? = some y → Pv i σ H → H T = none → g (.ref T) σ (upd H T (.tup [x, y])) fun σ2 H2 => tu { D with nx := Pv (i + 1), ct := Pv (i + 1), bk := D.nx } σ2 H2) (hd : ∀ σ H, Pv (min xs.length ys.length) σ H → D.nx σ H) :
    ∃ W : Nat → Nat → L2.St → Hp → Prop, (∃ m, W 0 m σ H) ∧ ∀ i m σ H, W i m σ H →
      ((Itz K a b).stop i H ∧ D.nx σ H) ∨ ((Itz K a b).go i H ∧ ∃ N : L2.St → Hp → Prop, (∀ σ' H', N σ' H' → ∃ m', m' < m ∧ W (i + 1) m' σ' H') ∧ ∀ v H', (Itz K a b).yld i H v H' → g v σ H' fun σ2 H2 => tu { D with nx := N, ct := N, bk := D.nx } σ2 H2) := by
  refine ⟨fun i m σ H => m = min xs.length ys.length - i ∧ i ≤ min xs.length ys.length ∧ Pv i σ H, ⟨min xs.length ys.length, rfl, Nat.zero_le _, h0⟩, ?_⟩
  rintro i m σ H ⟨rfl, hi, p⟩
  obtain ⟨qx, qy⟩ := hq i σ H p
  by_cases hlt : i < min xs.length ys.length
  · have hx : xs[i]? = some xs[i] := List.getElem?_eq_getElem (by omega)
    have hy : ys[i]? = some ys[i] := List.getElem?_eq_getElem (by omega)
    refine .inr ⟨⟨xs, ys, _, _, qx, qy, hx, hy⟩, Pv (i + 1), fun σ' H' p' => ⟨min xs.length ys.length - (i + 1), by omega, rfl, hlt, p'⟩, fun v H' y => ?_⟩
    obtain ⟨T, x', y', rfl, hT, rfl, f1, f2⟩ := y
    exact hs i x' y' T σ H (f1 xs qx) (f2 ys qy) p hT
  · have e : i = min xs.length ys.length := by omega
    refine .inl ⟨⟨xs, ys, qx, qy, by omega⟩, hd σ H (e ▸ p)⟩
theorem el_eq {xs ys : List V} (h : EvL te σ H xs) (e : xs = ys) : EvL te σ H ys := e ▸ h
theorem el_lcR2 {ta : TA} {j : Nat} {vs : List Nat} {lo n : Int} (f : Nat → Bool) (v : Nat → V) (h : EvA ta σ H [.int lo, .int n]) (hn : 0 ≤ lo ∧ lo ≤ 40000 ∧ -40000 ≤ n ∧ n ≤ 40000) (hw : ∀ x, wipe ((wipe σ vs).set j (some x)) vs = wipe σ vs)
    (ht : ∀ (i : Nat) H1, Ex H H1 → lo + (i : Int) < n → EvT t ((wipe σ vs).set j (some (.int (lo + (i : Int))))) H1 (f i)) (he : ∀ (i : Nat) H1, Ex H H1 → lo + (i : Int) < n → f i = true → Ev te ((wipe σ vs).set j (some (.int (lo + (i : Int))))) H1 (v i)) :
    EvL (tLc (iRng2 ta) (gName j) t te vs) σ H (given (n - lo).toNat f v) := fun H0 e Q q => h H0 e _ fun H1 e1 => ⟨lo, n, rfl, ⟨by omega, by omega, by omega, by omega⟩, fun Dl hD =>
  lc_range (lo := lo) (n := (n - lo).toNat) (Cw H1 f v Dl) ⟨hD, Ex.new hD, upd_same⟩ (fun i H' hi p => ⟨hw _, cw_turn p (by omega) (ht i H1 (e.trans e1) (by omega)) (fun hf => he i H1 (e.trans e1) (by omega) hf)⟩) (fun H' p => q Dl H' (fresh_back e1 p.1) (e1.trans p.2.1) p.2.2)⟩
theorem ea_star {p : Addr} {xs vs : List V} {tr : TA} (h : Ev te σ H (.ref p)) (hp : SqL K H p xs) (hr : EvA tr σ H vs) : EvA (StX.tStar K te tr) σ H (xs ++ vs) := fun H1 e1 Q q =>
  h H1 e1 _ fun H2 e2 => ⟨p, xs, rfl, .inr (ex_l (e1.trans e2) hp), hr H2 (e1.trans e2) _ fun H3 e3 => q H3 (e2.trans e3)⟩
theorem foldr_max_ge : ∀ {ms : List Int} {y : Int}, y ∈ (0 :: ms) → y ≤ ms.foldr max 0
  | [], y, h => by
    rw [List.mem_singleton.mp h]
    exact Int.le_refl _
  | m :: r, y, h => by
    rw [List.foldr_cons]
    have z0 := foldr_max_ge (ms := r) (y := 0) (List.mem_cons_self ..)
    rcases List.mem_cons.mp h with rfl | h
    · omega
    · rcases List.mem_cons.mp h with rfl | h
      · omega
      · have z := foldr_max_ge (ms := r) (y := y) (List.mem_cons_of_mem _ h)
        omega
theorem foldr_max_mem : ∀ ms : List Int, ms.foldr max 0 ∈ (0 :: ms)
  | [] => List.mem_singleton.mpr rfl
  | m :: r => by
    rw [List.foldr_cons]
    have z := foldr_max_mem r
    by_cases h : m ≤ r.foldr max 0
    · rw [Int.max_eq_right h]
      rcases List.mem_cons.mp z with e | e
      · rw [e]
        exact List.mem_cons_self ..
      · exact List.mem_cons_of_mem _ (List.mem_cons_of_mem _ e)
    · rw [Int.max_eq_left (by omega)]
      exact List.mem_cons_of_mem _ (List.mem_cons_self ..)
theorem ev_maxL {ms : List Int} {m : Int} (h : EvL te σ H (ms.map V.int)) (hm : m ∈ ms) (hge : ∀ y ∈ ms, y ≤ m) : Ev (tCB (rMax K) (tCons te tNil)) σ H (.int m) := fun H1 e1 Q q =>
  h H1 e1 _ fun p2 H2 _ e2 h2 => ⟨p2, ms, rfl, sq_of h2, List.length_pos_of_mem hm, fun m2 hm2 hge2 => by
    have e : m2 = m := Int.le_antisymm (hge m2 hm2) (hge2 m hm)
    rw [e]
    exact q H2 e2⟩
theorem ev_minL {ms : List Int} {m : Int} (h : EvL te σ H (ms.map V.int)) (hm : m ∈ ms) (hge : ∀ y ∈ ms, m ≤ y) : Ev (tCB (rMin K) (tCons te tNil)) σ H (.int m) := fun H1 e1 Q q =>
  h H1 e1 _ fun p2 H2 _ e2 h2 => ⟨p2, ms, rfl, sq_of h2, List.length_pos_of_mem hm, fun m2 hm2 hge2 => by
    have e : m2 = m := Int.le_antisymm (hge2 m hm) (hge m2 hm2)
    rw [e]
    exact q H2 e2⟩
/-- max([0, *xs]) -/
theorem ev_max0 {p : Addr} {ms : List Int} (h : Ev te σ H (.ref p)) (hp : SqL K H p (ms.map V.int)) (hz : ms.length ≤ 50000) : Ev (tCB (rMax K) (tCons (tLst (tCons (tC (.int 0)) (StX.tStar K te tNil))) tNil)) σ H (.int (ms.foldr max 0)) :=
  ev_maxL (ms := 0 :: ms) (el_eq (el_lst (ea_cons ev_c (ea_star h hp ea_nil)) (by rw [List.length_cons, List.append_nil, List.length_map]; omega)) (by rw [List.append_nil]; rfl)) (foldr_max_mem ms) fun y hy => foldr_max_ge hy
/-- the first argument of a call is a new list -/
theorem ev_cal0L {t1 : TE} {tr : TA} {xs vs : List V} {E : XK} {RE : List V → Hp → Addr → Prop} {RV : List V → Hp → V → Prop} (h1 : EvL t1 σ H xs) (hr : EvA tr σ H vs) (hs : ∀ p H1, Ex H H1 → H1 p = some (.lst xs) → RV (.ref p :: vs) H1 z) : Ev (tCall (spVX RV RE) [] E (tCons t1 tr)) σ H z := fun H1 e1 Q q =>
  h1 H1 e1 _ fun p H2 _ e2 hp => hr H2 (e1.trans e2) _ fun H3 e3 => .inl ⟨z, by rw [List.append_nil]; exact hs p H3 ((e1.trans e2).trans e3) (e3 _ _ hp), fun H4 e4 => q H4 ((e2.trans e3).trans e4)⟩
/-- for x, y in zip(a, a new list) -/
theorem q_forZipN {a : Addr} {xs ys : List V} {i j : Nat} (ha : Ev ta σ H (.ref a)) (hx : SqL K H a xs) (hb : EvL tb σ H ys) (Pv : Addr → Nat → L2.St → Hp → Prop) (h0 : ∀ b H1, H b = none → Ex H H1 → H1 b = some (.lst ys) → Pv b 0 σ H1)
    (hl : ∀ b k σ' H', Pv b k σ' H' → SqL K H' a xs ∧ SqL K H' b ys)
    (hs : ∀ b k x y T σ' H', xs[k]? = some x → ys[k]? = some y → Pv b k σ' H' → H' T = none → tu { D with nx := Pv b (k + 1), ct := Pv b (k + 1), bk := tz D } ((σ'.set i (some x)).set j (some y)) (upd H' T (.tup [x, y]))) (hd : ∀ b σ' H', Pv b (min xs.length ys.length) σ' H' → tz D σ' H') :
    tSeq (tFor (iZip K (tCons ta (tCons tb tNil))) (gTup K 2 (gCons (gName i) (gCons (gName j) gNil))) tu) tz D σ H :=
  ha H (Ex.refl H) _ fun H1 e1 => hb H1 e1 _ fun b H2 nb e2 h2 => ⟨a, b, xs, ys, rfl, ex_l (e1.trans e2) hx, sq_of h2,
    for_zipM (D := { D with nx := tz D }) (Pv b) (h0 b H2 (fresh_back e1 nb) (e1.trans e2) h2) (fun k σ' H' p => hl b k σ' H' p) (fun k x y T σ' H' hx hy p hT => g_tup2 (st_of upd_same) (hs b k x y T σ' H' hx hy p hT)) (fun σ' H' p => hd b σ' H' p)⟩
theorem map_at {ns : List Int} {k : Nat} {x : V} (h : (ns.map V.int)[k]? = some x) : k < ns.length ∧ x = .int (cel ns (k : Int)) := by
  rw [List.getElem?_map] at h
  cases hq : ns[k]? with
  | none => rw [hq] at h; cases h
  | some y =>
    rw [hq] at h
    refine ⟨(List.getElem?_eq_some_iff.mp hq).1, ?_⟩
    unfold cel
    rw [List.getD_eq_getElem?_getD, Int.toNat_natCast, hq]
    exact (Option.some.inj h).symm
/-- all([whole(x) for x in xs]) of whole numbers -/
theorem ev_allWhole {l : Addr} {ns : List Int} {tl : TE} {E : XK} {j : Nat} {vs : List Nat} (h : Ev tl σ H (.ref l)) (hs : SqL K H l (ns.map V.int)) (hz : ns.length ≤ 40000) (hw : ∀ x, wipe ((wipe σ vs).set j (some x)) vs = wipe σ vs) (hj : ∀ x, ((wipe σ vs).set j (some x))[j]? = some (some x)) :
    Ev (tCB (rAll K) (tCons (tLc (iList K tl) (gName j) tYes (tCall (spV RWhole) [] E (tCons (tVar j) tNil)) vs) tNil)) σ H (.bl true) := by
  have hl : (ns.map V.int).length = ns.length := List.length_map ..
  have z : (List.replicate ns.length true).all id = true := List.all_eq_true.mpr fun b hb => (List.eq_of_mem_replicate hb)
  rw [← z]
  refine ev_all ?_
  have er : (List.replicate ns.length true).map V.bl = given (ns.map V.int).length (fun _ => true) (fun _ => .bl true) := by
    unfold given
    rw [hl, List.filter_eq_self.mpr (fun _ _ => rfl), List.map_replicate]
    exact (List.eq_replicate_iff.mpr ⟨by rw [List.length_map, List.length_range], fun b hb => by obtain ⟨_, _, e⟩ := List.mem_map.mp hb; exact e.symm⟩).symm
  rw [er]
  refine el_lcL (fun _ => true) (fun _ => .bl true) h hs (by omega) hw (fun _ _ _ _ _ => et_yes) fun i x H8 e8 hx _ => ?_
  rw [List.getElem?_map] at hx
  cases hq : ns[i]? with
  | none => rw [hq] at hx; cases hx
  | some y =>
    rw [hq] at hx
    have ex : V.int y = x := Option.some.inj hx
    subst ex
    exact ev_whole (ea_cons (ev_var (hj _)) ea_nil)
end
end Hx
/-! Objects: a class whose instances keep two lists; made and asked where a refusal may come. -/
namespace Hx
open PySem PySem.Spec PyProof.Rows L2 Evl
/-- a method that keeps a promise -/
structure CalM (P : Program) (w : World) (K : PySem.W.Frag) (mg : Str → Option Value) (base : Heap) (CX : CXT) (C : Addr) (m : Str) (k : Nat) (ps : List Str) (sp : Sp) : Prop where
  c : Cls K C
  ex : ∃ f fd, FnOk P w K mg base CX k f fd ps sp ∧ Meth K C m f ∧ Binds K fd ps []
/-- a class that is made by its __init__ -/
structure CalN (P : Program) (w : World) (K : PySem.W.Frag) (mg : Str → Option Value) (base : Heap) (CX : CXT) (x : Str) (C : Addr) (k : Nat) (ps : List Str) (sp : Sp) : Prop where
  ex : ∃ f fd, FnOk P w K mg base CX k f fd ps sp ∧ Mk K C f ∧ mg x = some (.ref C) ∧ Binds K fd ps []
def tNewS (C : Addr) (sp : Sp) (E : L2.St → XK) (ta : TA) : TE := fun τ G Q => ta τ G fun vs G1 => ∀ x dx, G1 x = none → G1 dx = none → dx ≠ x →
  sp (.ref x :: vs) (upd (upd G1 dx (.own x)) x (.ins C dx [])) (fun u G2 => u = .non ∧ Q (.ref x) G2) (E τ)
def tMethS (C : Addr) (m : Str) (sp : Sp) (E : L2.St → XK) (to : TE) (ta : TA) : TE := fun τ G Q => to τ G fun o G1 => ∃ p dx fs, o = .ref p ∧ G1 p = some (.ins C dx fs) ∧ fs.lookup m = none ∧ ta τ G1 fun vs G2 => sp (o :: vs) G2 Q (E τ)
section
variable {X : Cx} {CX : CXT} {k j : Nat} {f C : Addr} {fd : FuncData} {ps : List Str} {sp : Sp} {E : L2.St → XK} {x m : Str} {p1 p2 p3 : Pos} {e o : Expr} {es : List Expr} {to : TE} {ta : TA} {W : WX}
/-- a new instance, what __init__ raises wished for at the caller's slots -/
theorem run_newS {pins : List (Addr × Obj)} {τ : L2.St} {G : Hp} {s : Shared} {Q : VK} {us : List Value} {vs : List V} (M : Mk X.K C f) (F : FnOk X.prog X.w X.K X.mg X.base CX k f fd ps sp) (room : Room (k + 1) X.A) (hb : Binds X.K fd ps []) (out : PassesAt CX X τ (E τ))
    (I : Inv X pins τ G s) (r : Vals vs us)
    (h : ∀ x dx, G x = none → G dx = none → dx ≠ x → sp (.ref x :: vs) (upd (upd G dx (.own x)) x (.ins C dx [])) (fun u G2 => u = .non ∧ Q (.ref x) G2) (E τ)) :
    wpAny (model X.prog X.w) X.A (call (.ref C) us) (EP X pins τ Q) X.xe s := by
  have sp1 := h (s.heap.objs.size + 1) s.heap.objs.size (I.hok.fresh (Nat.le_succ _)) (I.hok.fresh (Nat.le_refl _)) (Nat.ne_of_lt (Nat.lt_succ_self _))
  have J := Inv.made (C := C) I
  have rr : Vals (V.ref (s.heap.objs.size + 1) :: vs) (Value.ref (s.heap.objs.size + 1) :: us) := .cons rfl r
  have len : (Value.ref (s.heap.objs.size + 1) :: us).length = ps.length := by
    have z := rr.length
    rw [F.len _ _ _ _ sp1] at z
    exact z.symm
  have bind := hb _ (Value.ref (s.heap.objs.size + 1) :: us) J.kIn (by rw [List.append_nil]; exact len)
  rw [List.append_nil] at bind
  refine wpAny_call (make_map (f := f) I.kIn M.makes M.init (beq_iff_eq.mp M.fn) (codeAny_mono
    (F.run _ X.stack _ _ ⟨Value.ref (s.heap.objs.size + 1) :: us, []⟩ (Value.ref (s.heap.objs.size + 1) :: us) _ _ (E τ) (room.make C us []) (J.env0.make C us []) bind rr sp1)
    fun r s2 done => ?_))
  cases r with
  | error err => exact out pins _ _ err s2 J done
  | ok fl =>
    cases fl with
    | ret u =>
      obtain ⟨v, G2, J2, rv, ev, q3⟩ := J.after done
      subst ev
      exact ⟨rv, V.ref (s.heap.objs.size + 1), G2, J2, rfl, q3⟩
    | next => exact done.elim
    | brk => exact done.elim
    | cont => exact done.elim
/-- C(e, ..), a refusal let through to W -/
theorem pe_newX (N : CalN X.prog X.w X.K X.mg X.base (L2.CX X.prog X.w) x C k ps sp) (room : Room j X.A) (tk : Takes X W) (ha : PA X (e :: es) ta) (hk : k + 1 ≤ j := by decide) (hg : Gl X x := by rfl)
    (hdb : (x == ("__debug__" : Str)) = false := by decide) (he : starEach (e :: es) X.env = (false, eval e X.env) :: starEach es X.env := by rfl) (hpl : (backTo p2 (starEach es X.env)).any (·.1) = false := by rfl) :
    PE X (.Call (.Name x p1) (e :: es) [] p2) (tNewS C sp (WE W) ta) := by
  obtain ⟨f, fd, F, M, hm, b⟩ := N.ex
  refine ⟨fun pins s τ G Q I h => wpAny_Call_Name_kw (ld_glob I hg hm ?_ hdb)⟩
  exact PySem.W.callWith_K (h₀ := X.base) I.ok.mod.kin M.kp (thn (ha.run p2 pins s τ G _ I h) fun us s1 ⟨vs, G1, J, r, q⟩ => ⟨J.kIn, run_newS M F (room.mono hk) b (passAt tk τ) J r q⟩) he hpl
/-- .. where it refuses nothing -/
theorem pe_newL (N : CalN X.prog X.w X.K X.mg X.base (L2.CX X.prog X.w) x C k ps sp) (room : Room j X.A) (ha : PA X (e :: es) ta) (hk : k + 1 ≤ j := by decide) (hg : Gl X x := by rfl)
    (hdb : (x == ("__debug__" : Str)) = false := by decide) (he : starEach (e :: es) X.env = (false, eval e X.env) :: starEach es X.env := by rfl) (hpl : (backTo p2 (starEach es X.env)).any (·.1) = false := by rfl) :
    PE X (.Call (.Name x p1) (e :: es) [] p2) (tMake C sp [] E0 ta) := by
  obtain ⟨f, fd, F, M, hm, b⟩ := N.ex
  exact pe_make M F (room.mono hk) hg hm b .nil passL ha hdb he hpl
/-- o.m(e, ..), a refusal let through to W -/
theorem pe_methX {pl : Sem Bool} (he : PE X o to) (N : CalM X.prog X.w X.K X.mg X.base (L2.CX X.prog X.w) C m k ps sp) (room : Room j X.A) (tk : Takes X W) (ha : PA X (e :: es) ta) (hk : k ≤ j := by decide)
    (hst : starEach (e :: es) X.env = (false, eval e X.env) :: starEach es X.env := by rfl) (hpl : (backTo p2 (starEach es X.env)).any (·.1) = false := by rfl)
    (ht : eval (.Call (.Attribute o m p1) (e :: es) [] p2) X.env = (do
      let ov ← eval o X.env; standAt p1.atName
      let (f, first) ← holding [ov] (getMethod ov m pl); callWith p2 f first (backTo p2 (starEach (e :: es) X.env)) (backToKw p2 (keywordEach [] X.env))) := by rfl) :
    PE X (.Call (.Attribute o m p1) (e :: es) [] p2) (tMethS C m sp (WE W) to ta) := by
  obtain ⟨f, fd, F, M, b⟩ := N.ex
  refine ⟨fun pins s τ G Q I h => PySem.W.methodCall_KW (pl := pl) (thn (he.run pins s τ G _ I h) fun u s1 ⟨y, G1, J, ry, a, dx, fs, ey, ea, nl, q⟩ => ?_) ht⟩
  subst ey
  obtain rfl : u = Value.ref a := ry
  refine getmeth_ok J ea N.c M nl ?_
  exact PySem.W.callWith_K (first := [.ref a]) (h₀ := X.base) I.ok.mod.kin M.kp (thn (ha.run p2 pins s1 τ G1 _ J q) fun us s2 ⟨vs, G2, J2, r, q2⟩ =>
    ⟨J2.kIn, run_fnS (us := .ref a :: us) (vs := .ref a :: vs) F (room.mono hk) b (passAt tk τ) J2 (.cons rfl r) q2⟩) hst hpl
/-- o.m(), a refusal let through to W -/
theorem pe_methX0 {pl : Sem Bool} (he : PE X o to) (N : CalM X.prog X.w X.K X.mg X.base (L2.CX X.prog X.w) C m k ps sp) (room : Room j X.A) (tk : Takes X W) (hk : k ≤ j := by decide)
    (ht : eval (.Call (.Attribute o m p1) [] [] p2) X.env = (do
      let ov ← eval o X.env; standAt p1.atName
      let (f, first) ← holding [ov] (getMethod ov m pl); callWith p2 f first (backTo p2 (starEach [] X.env)) (backToKw p2 (keywordEach [] X.env))) := by rfl) :
    PE X (.Call (.Attribute o m p1) [] [] p2) (tMethS C m sp (WE W) to tNil) := by
  obtain ⟨f, fd, F, M, b⟩ := N.ex
  refine ⟨fun pins s τ G Q I h => PySem.W.methodCall_KW (pl := pl) (thn (he.run pins s τ G _ I h) fun u s1 ⟨y, G1, J, ry, a, dx, fs, ey, ea, nl, q⟩ => ?_) ht⟩
  subst ey
  obtain rfl : u = Value.ref a := ry
  refine getmeth_ok J ea N.c M nl ?_
  exact PySem.W.callWith_K0 (first := [.ref a]) J.kIn M.kp (run_fnS (us := [.ref a]) (vs := [.ref a]) F (room.mono hk) b (passAt tk τ) J (.cons rfl .nil) q)
/-- o.m(e, ..), o.m() of a method that never refuses -/
theorem pe_methC {pl : Sem Bool} (he : PE X o to) (N : CalM X.prog X.w X.K X.mg X.base CX0 C m k ps sp) (room : Room j X.A) (ha : PA X (e :: es) ta) (hk : k ≤ j := by decide)
    (hst : starEach (e :: es) X.env = (false, eval e X.env) :: starEach es X.env := by rfl) (hpl : (backTo p2 (starEach es X.env)).any (·.1) = false := by rfl)
    (ht : eval (.Call (.Attribute o m p1) (e :: es) [] p2) X.env = (do
      let ov ← eval o X.env; standAt p1.atName
      let (f, first) ← holding [ov] (getMethod ov m pl); callWith p2 f first (backTo p2 (starEach (e :: es) X.env)) (backToKw p2 (keywordEach [] X.env))) := by rfl) :
    PE X (.Call (.Attribute o m p1) (e :: es) [] p2) (tMeth C m sp [] E0 to ta) := by
  obtain ⟨f, fd, F, M, b⟩ := N.ex
  exact pe_meth he N.c M F (room.mono hk) b .nil pass0 ha hst hpl ht
theorem pe_methC0 {pl : Sem Bool} (he : PE X o to) (N : CalM X.prog X.w X.K X.mg X.base CX0 C m k ps sp) (room : Room j X.A) (hk : k ≤ j := by decide)
    (ht : eval (.Call (.Attribute o m p1) [] [] p2) X.env = (do
      let ov ← eval o X.env; standAt p1.atName
      let (f, first) ← holding [ov] (getMethod ov m pl); callWith p2 f first (backTo p2 (starEach [] X.env)) (backToKw p2 (keywordEach [] X.env))) := by rfl) :
    PE X (.Call (.Attribute o m p1) [] [] p2) (tMeth C m sp [] E0 to tNil) := by
  obtain ⟨f, fd, F, M, b⟩ := N.ex
  exact pe_meth0 he N.c M F (room.mono hk) b .nil pass0 ht
/-- .. of one that refuses nothing here -/
theorem pe_methL {pl : Sem Bool} (he : PE X o to) (N : CalM X.prog X.w X.K X.mg X.base (L2.CX X.prog X.w) C m k ps sp) (room : Room j X.A) (ha : PA X (e :: es) ta) (hk : k ≤ j := by decide)
    (hst : starEach (e :: es) X.env = (false, eval e X.env) :: starEach es X.env := by rfl) (hpl : (backTo p2 (starEach es X.env)).any (·.1) = false := by rfl)
    (ht : eval (.Call (.Attribute o m p1) (e :: es) [] p2) X.env = (do
      let ov ← eval o X.env; standAt p1.atName
      let (f, first) ← holding [ov] (getMethod ov m pl); callWith p2 f first (backTo p2 (starEach (e :: es) X.env)) (backToKw p2 (keywordEach [] X.env))) := by rfl) :
    PE X (.Call (.Attribute o m p1) (e :: es) [] p2) (tMeth C m sp [] E0 to ta) := by
  obtain ⟨f, fd, F, M, b⟩ := N.ex
  exact pe_meth he N.c M F (room.mono hk) b .nil passL ha hst hpl ht
end
/-- the module's constants -/
structure Csts (mg : Str → Option Value) : Prop where
  bound : ∃ t, mg "BOUND" = some (.int 1000000000000000000 t)
  most : ∃ t, mg "MOST_HILLS" = some (.int 200 t)
/-- the class Land -/
structure LandK (K : PySem.W.Frag) (C : Addr) : Prop where
  cl : Cls K C
  nh : NoAttr K C "_heights"
  nl : NoAttr K C "_lifts"
theorem ne_hl : ¬ (("_heights" : Str) = "_lifts") := by decide +kernel
def fldsL (hp lp : Addr) : List (Str × V) := putF "_lifts" (.ref lp) (putF "_heights" (.ref hp) [])
theorem fldsL_h (hp lp : Addr) : (fldsL hp lp).lookup ("_heights" : Str) = some (.ref hp) := by
  unfold fldsL
  rw [lookup_putF, if_neg ne_hl, lookup_putF, if_pos rfl]
theorem fldsL_l (hp lp : Addr) : (fldsL hp lp).lookup ("_lifts" : Str) = some (.ref lp) := by
  unfold fldsL
  rw [lookup_putF, if_pos rfl]
theorem fldsL_no (hp lp : Addr) {m : Str} (h1 : ¬ m = "_heights") (h2 : ¬ m = "_lifts") : (fldsL hp lp).lookup m = none := by
  unfold fldsL
  rw [lookup_putF, if_neg h2, lookup_putF, if_neg h1]
  all_goals rfl
def inB (i : Int) : Bool := decide (-1000000000000000000 ≤ i) && decide (i ≤ 1000000000000000000)
def RInB (vs : List V) (_ : Hp) (v : V) : Prop := ∃ i : Int, vs = [.int i] ∧ v = .bl (inB i)
/-- a height, and what is none -/
inductive BadH (H : Hp) : V → Prop where
  | int (i : Int) (h : inB i = false) : BadH H (.int i)
  | no (x : V) (h : NoInt H x) : BadH H x
theorem BadH.ex {H H' : Hp} {v : V} (e : Ex H H') (h : BadH H v) : BadH H' v := by
  cases h with
  | int i h => exact .int i h
  | no _ h => exact .no _ (h.ex e)
/-- what is no land -/
inductive BadLand (H : Hp) : V → Prop where
  | non : BadLand H .non
  | int (i : Int) : BadLand H (.int i)
  | str (s : Str) : BadLand H (.str s)
  | tup (a : Addr) (xs : List V) (h : H a = some (.tup xs)) : BadLand H (.ref a)
  | dic (a : Addr) (kvs : List (Key × V)) (h : H a = some (.dK kvs)) : BadLand H (.ref a)
  | none (a : Addr) (h : H a = some (.lst [])) : BadLand H (.ref a)
  | many (a : Addr) (xs : List V) (h : H a = some (.lst xs)) (hl : 200 < xs.length) (hm : xs.length ≤ 100000) : BadLand H (.ref a)
  | lst (a : Addr) (xs : List V) (h : H a = some (.lst xs)) (h1 : 1 ≤ xs.length) (h2 : xs.length ≤ 200) (ok : ∀ x ∈ xs, (∃ i : Int, x = .int i ∧ inB i = true) ∨ BadH H x) (b : V) (hb : b ∈ xs) (hbb : BadH H b) : BadLand H (.ref a)
theorem BadLand.ex {H H' : Hp} {v : V} (e : Ex H H') (h : BadLand H v) : BadLand H' v := by
  cases h with
  | non => exact .non
  | int i => exact .int i
  | str s => exact .str s
  | tup a xs h => exact .tup a xs (e _ _ h)
  | dic a kvs h => exact .dic a kvs (e _ _ h)
  | none a h => exact .none a (e _ _ h)
  | many a xs h hl hm => exact .many a xs (e _ _ h) hl hm
  | lst a xs h h1 h2 ok b hb hbb => exact .lst a xs (e _ _ h) h1 h2 (fun x hx => (ok x hx).imp id (·.ex e)) b hb (hbb.ex e)
def RChecked (K : PySem.W.Frag) (vs : List V) (H : Hp) (xs : List V) : Prop := ∃ (l : Addr) (ns : List Int), vs = [.ref l] ∧ H l = some (.lst (ns.map V.int)) ∧ 1 ≤ ns.length ∧ ns.length ≤ 200 ∧ (∀ i ∈ ns, inB i = true) ∧ xs = ns.map V.int
def RNoLand (N : Addr) (vs : List V) (H : Hp) (C : Addr) : Prop := ∃ x, vs = [x] ∧ BadLand H x ∧ C = N
/-- a Land at p: its heights' list at hp, its lifts' at lp -/
def spInit (C N : Addr) : Sp := fun vs H Q E => (∃ (p dx l : Addr) (ns : List Int), vs = [.ref p, .ref l] ∧ H p = some (.ins C dx []) ∧ H l = some (.lst (ns.map V.int)) ∧ l ≠ p ∧ 1 ≤ ns.length ∧ ns.length ≤ 200 ∧ (∀ i ∈ ns, inB i = true) ∧
    ∀ hp lp H', H hp = none → H lp = none → hp ≠ lp → (∀ b o, b ≠ p → H b = some o → H' b = some o) → H' p = some (.ins C dx (fldsL hp lp)) → H' hp = some (.lst (ns.map V.int)) → H' lp = some (.lst []) → Q .non H') ∨
  (∃ (p : Addr) (x : V), vs = [.ref p, x] ∧ BadLand H x ∧ ∀ H', Ex H H' → E (.ref N) none H')
def RTold (C : Addr) (vs : List V) (H : Hp) (xs : List V) : Prop := ∃ (p dx hp lp : Addr) (ns : List Int), vs = [.ref p] ∧ H p = some (.ins C dx (fldsL hp lp)) ∧ H hp = some (.lst (ns.map V.int)) ∧ xs = ns.map V.int
section
variable {K : PySem.W.Frag} {σ : L2.St} {H : Hp} {ta : TA} {te to : TE} {E : XK} {D : Ends} {tu tz : TS} {x v : V} {W : WX} {C N : Addr} {Q : VK}
theorem ev_inB {i : Int} (h : EvA ta σ H [.int i]) : Ev (tCall (spV RInB) [] E ta) σ H (.bl (inB i)) := ev_cal h fun _ _ => ⟨i, rfl, rfl⟩
theorem ev_fld {p dx : Addr} {fs : List (Str × V)} {f : Str} (h : Ev to σ H (.ref p)) (hp : H p = some (.ins C dx fs)) (c : Cls K C) (n : NoAttr K C f) (l : fs.lookup f = some v) : Ev (tFld K to f) σ H v := fun H1 e1 Q q =>
  h H1 e1 _ fun H2 e2 => ⟨p, C, dx, fs, v, rfl, e2 _ _ (e1 _ _ hp), c, n, l, q H2 e2⟩
theorem s_fldL {p dx : Addr} {fs : List (Str × V)} {f : Str} {ys : List V} (hv : EvL te σ H ys) (ho : Ev to σ H (.ref p)) (hp : H p = some (.ins C dx fs)) (c : Cls K C) (n : NoAttr K C f) (hz : fs.length < 1000)
    (k : ∀ r H1, H r = none → Ex H H1 → H1 r = some (.lst ys) → D.nx σ (upd H1 p (.ins C dx (putF f (.ref r) fs)))) : sFld K to te f D σ H :=
  hv H (Ex.refl H) _ fun r H1 nr e1 hr => ho H1 e1 _ fun H2 e2 => ⟨p, C, dx, fs, rfl, e2 _ _ (e1 _ _ hp), c, n, hz, k r H2 nr (e1.trans e2) (e2 _ _ hr)⟩
theorem q_fldL {p dx : Addr} {fs : List (Str × V)} {f : Str} {ys : List V} (hv : EvL te σ H ys) (ho : Ev to σ H (.ref p)) (hp : H p = some (.ins C dx fs)) (c : Cls K C) (n : NoAttr K C f) (hz : fs.length < 1000)
    (k : ∀ r H1, H r = none → Ex H H1 → H1 r = some (.lst ys) → tz D σ (upd H1 p (.ins C dx (putF f (.ref r) fs)))) : tSeq (sFld K to te f) tz D σ H := s_fldL (D := { D with nx := tz D }) hv ho hp c n hz k
/-- xs = C(l): the new Land's three things -/
theorem q_asgNew {i : Nat} {l : Addr} {ns : List Int} (h : EvA ta σ H [.ref l]) (hl : H l = some (.lst (ns.map V.int))) (h1 : 1 ≤ ns.length) (h2 : ns.length ≤ 200) (h3 : ∀ i ∈ ns, inB i = true)
    (k : ∀ p dx hp lp H1, H p = none → H dx = none → H hp = none → H lp = none → p ≠ hp → p ≠ lp → hp ≠ lp → Ex H H1 → H1 p = some (.ins C dx (fldsL hp lp)) → H1 hp = some (.lst (ns.map V.int)) → H1 lp = some (.lst []) → tz D (σ.set i (some (.ref p))) H1) :
    tSeq (tAsg (tMake C (spInit C N) [] E ta) (gName i)) tz D σ H := h H (Ex.refl H) _ fun H1 e1 x dx nx ndx nex => by
  have ex : Ex H1 (upd (upd H1 dx (.own x)) x (.ins C dx [])) := fun b o hb => by
    rw [upd_ne (ne_of_none hb nx), upd_ne (ne_of_none hb ndx)]
    exact hb
  refine .inl ⟨x, dx, l, ns, rfl, upd_same, ex _ _ (e1 _ _ hl), ne_of_none (e1 _ _ hl) nx, h1, h2, h3, fun hp lp H' nh nl hne st hx hh hll => ⟨rfl, ?_⟩⟩
  have hxh : x ≠ hp := fun z => by rw [← z, upd_same] at nh; cases nh
  have hxl : x ≠ lp := fun z => by rw [← z, upd_same] at nl; cases nl
  refine k x dx hp lp H' (fresh_back e1 nx) (fresh_back e1 ndx) (fresh_back (e1.trans ex) nh) (fresh_back (e1.trans ex) nl) hxh hxl hne (fun b o hb => ?_) hx hh hll
  exact st b o (ne_of_none (e1 _ _ hb) nx) (ex _ _ (e1 _ _ hb))
/-- C(x), refused -/
theorem rx_new (h : EvA ta σ H [x]) (hb : BadLand H x) (k : ∀ H1, Ex H H1 → W (.ref N) none σ H1) : tNewS C (spInit C N) (WE W) ta σ H Q := h H (Ex.refl H) _ fun H1 e1 y dx ny ndy nex => by
  have ex : Ex H1 (upd (upd H1 dx (.own y)) y (.ins C dx [])) := fun b o hb => by
    rw [upd_ne (ne_of_none hb ny), upd_ne (ne_of_none hb ndy)]
    exact hb
  exact .inr ⟨y, x, rfl, (hb.ex e1).ex ex, fun H' e' => k H' ((e1.trans ex).trans e')⟩
/-- p.told() -/
theorem el_told {m : Str} {p dx hp lp : Addr} {ns : List Int} (h : Ev to σ H (.ref p)) (hx : H p = some (.ins C dx (fldsL hp lp))) (hh : H hp = some (.lst (ns.map V.int))) (hm : (fldsL hp lp).lookup m = none) : EvL (tMeth C m (spL (RTold C)) [] E to tNil) σ H (ns.map V.int) := fun H1 e1 Q q =>
  h H1 e1 _ fun H2 e2 => ⟨p, dx, fldsL hp lp, rfl, e2 _ _ (e1 _ _ hx), hm, ns.map V.int, ⟨p, dx, hp, lp, ns, rfl, e2 _ _ (e1 _ _ hx), e2 _ _ (e1 _ _ hh), rfl⟩, fun r H3 nr e3 hr => q r H3 (fresh_back e2 nr) (e2.trans e3) hr⟩
theorem el_checked {l : Addr} {ns : List Int} {N : Addr} (h : EvA ta σ H [.ref l]) (hl : H l = some (.lst (ns.map V.int))) (h1 : 1 ≤ ns.length) (h2 : ns.length ≤ 200) (h3 : ∀ i ∈ ns, inB i = true) : EvL (tCall (spLX (RChecked K) (RNoLand N)) [] E ta) σ H (ns.map V.int) :=
  el_cal0 h fun _ e => ⟨l, ns, rfl, e _ _ hl, h1, h2, h3, rfl⟩
theorem el_to {p : Addr} {xs : List V} {tk : TE} (k : Nat) (h : Ev te σ H (.ref p)) (hk : Ev tk σ H (.int (k : Int))) (hs : SqL K H p xs) : EvL (tSl (rSlL K) te tNoPart (tPart tk)) σ H (xs.take k) := by
  rw [← cutV_to xs k]
  exact el_sl h eo_none (eo_some hk) hs
theorem el_fromV {p : Addr} {xs : List V} {tk : TE} (k : Nat) (h : Ev te σ H (.ref p)) (hk : Ev tk σ H (.int (k : Int))) (hs : SqL K H p xs) : EvL (tSl (rSlL K) te (tPart tk) tNoPart) σ H (xs.drop k) := by
  rw [← cutV_from xs k]
  exact el_sl h (eo_some hk) eo_none hs
theorem eu_tuple {p : Addr} {xs : List V} (h : EvA ta σ H [.ref p]) (hs : SqL K H p xs) : EvU (tCB (fun xs H Q => ∃ p ys, xs = [.ref p] ∧ ((SqL K H p ys ∧ ∀ l, H l = none → Q (.ref l) (upd H l (.tup ys))) ∨ (SqT K H p ys ∧ Q (.ref p) H))) ta) σ H xs := fun H1 e1 Q q =>
  h H1 e1 _ fun H2 e2 => ⟨p, xs, rfl, .inl ⟨ex_l (e1.trans e2) hs, fun l nl => q l _ (fresh_back e2 nl) (e2.trans (Ex.new nl)) upd_same⟩⟩
/-- arguments of which some are new lists, tuples, dicts -/
theorem eax_nil : EvAX tNil σ H (fun vs _ => vs = []) := fun H1 _ Q q => q [] H1 (Ex.refl H1) rfl
theorem eax_consL {tr : TA} {xs : List V} {P : List V → Hp → Prop} (h : EvL te σ H xs) (hr : EvAX tr σ H P) : EvAX (tCons te tr) σ H (fun vs H2 => ∃ p r H1, vs = .ref p :: r ∧ H1 p = some (.lst xs) ∧ Ex H1 H2 ∧ P r H2) := fun H1 e1 Q q =>
  h H1 e1 _ fun p H2 _ e2 hp => hr H2 (e1.trans e2) _ fun r H3 e3 y => q (.ref p :: r) H3 (e2.trans e3) ⟨p, r, H2, rfl, hp, e3, y⟩
theorem eax_consD {tr : TA} {P : List V → Hp → Prop} (hr : EvAX tr σ H P) : EvAX (tCons (tDisp [(tC (.int 0), tC (.int 1))]) tr) σ H (fun vs H2 => ∃ p r H1 kvs, vs = .ref p :: r ∧ H1 p = some (.dK kvs) ∧ Ex H1 H2 ∧ P r H2) := fun H1 e1 Q q p np =>
  ⟨upd_same, [(.inl 0, .int 1)], rfl, by decide, hr _ (e1.trans ((Ex.new np).mut np)) _ fun r H3 e3 y => q (.ref p :: r) H3 (((Ex.new np).mut np).trans e3) ⟨p, r, _, _, rfl, upd_same, e3, y⟩⟩
/-- x = [..][i] -/
theorem q_asgIxX {i : Int} {j : Nat} {ti : TE} {P : List V → Hp → Prop} (h : EvAX ta σ H P) (hl : ∀ vs H2, P vs H2 → vs.length ≤ 100000) (hi : Ev ti σ H (.int i)) (hv : ∀ vs H2, P vs H2 → ∃ v, atI vs i = some v)
    (k : ∀ vs H1 H2 v, P vs H1 → Ex H1 H2 → Ex H H2 → atI vs i = some v → tz D (σ.set j (some v)) H2) : tSeq (tAsg (tOp (rIxL K) (tLst ta) ti) (gName j)) tz D σ H :=
  h H (Ex.refl H) _ fun vs H1 e1 p => ⟨sz_of (hl vs H1 p), fun r nr => hi (upd H1 r (.lst vs)) (e1.trans (Ex.new nr)) _ fun H2 e2 => by
    obtain ⟨v, hv⟩ := hv vs H1 p
    exact ⟨r, vs, i, v, rfl, rfl, sq_of (e2 _ _ upd_same), hv, k vs H1 H2 v p ((Ex.new nr).trans e2) (e1.trans ((Ex.new nr).trans e2)) hv⟩⟩
theorem kb_NoneType_list : kitB "NoneType" "list" = some false := by decide +kernel
theorem kb_str_list : kitB "str" "list" = some false := by decide +kernel
theorem kb_dict_list : kitB "dict" "list" = some false := by decide +kernel
theorem rc_isi_dic {a : Addr} {kvs : List (Key × V)} {T : String} {b : Bool} (h : H a = some (.dK kvs)) (e : kitB "dict" T = some b) : RC (rIsi K) [.ref a, .ty T] H (.bl b) := rc_isi (fun _ e1 => .base (.dK (e1 _ _ h))) (kit_ty e)
def RRef12 (vs : List V) (H : Hp) (v : V) : Prop := ∃ (x : V) (b : Bool), vs = [x, .bl b] ∧ BadLand H x ∧ v = .bl true
end
end Hx
/-! A list comprehension whose element may refuse: what a call within it lets out goes on to the def around. -/
namespace Hx
open PySem PySem.Spec PyProof.Rows L2 Evl
/-- behind a comprehension's block -/
def postX (M : Model) (A : Around) (E : Value → Shared → Prop) (Q : Value → Shared → Prop) (acc : Value) (fr : Option Addr) (C : Addr) (r : Result) (t : Shared) : Prop :=
  match r with
  | .ok _ => ∃ m, t.heap.Ns C m ∧ ∀ g, Heap.SameBut C t.heap g → Q acc { t with heap := g }
  | .error x => ∃ m, t.heap.Ns C m ∧ ∀ g, Heap.SameBut C t.heap g → ∀ ce : Env, ce.frame = fr → wpAny M A (passOn "comprehension.variables-let-go" x ce : Sem Value) (fun _ _ => False) E { t with heap := g }
section
variable {M : Model} {A : Around} {E : Value → Shared → Prop} {s : Shared} {env : Env}
theorem compX_free {e : Expr} {scope : Scope} {p0 : Pos} {mk first : Sem Value} {g : Comprehension} {gs : List Comprehension} {cl : List (Str × Addr)} {Q : Value → Shared → Prop}
    (c1 : clausesOf e = g :: gs) (c2 : ∀ x, foldedSetIterable g.iter env x = pure x) (c3 : closureFor scope env = pure cl) (c4 : scope.kind = .function) (c5 : ∀ y ∈ scope.names, y.2 = .local → scope.names.lookup y.1 = some .local)
    (h : wpAny M A first (fun x t1 => wpAny M A (pyIter x) (fun it t2 => wpAny M A mk (fun acc t3 => wpAny M A (newFunctionEnv scope env.globals cl [] env.qual none .none (some env)) (fun ce t4 =>
      codeAny M A (.compStart e 0 it acc { ce with scope := relabel scope env }) (postX M A E Q acc ce.frame ce.locals) t4) E t3) E t2) E t1) E s) :
    wpAny M A (comprehension e scope env p0 mk false first none) Q E s := by
  unfold comprehension
  rw [c3, c1]
  refine wpAny_bind (wpAny_mono h (fun x t1 g1 => wpAny_bind (wpAny_standAt (wpAny_bind (wpAny_of_eq (c2 x) (wpAny_bind (wpAny_holding (wpAny_mono g1 (fun it t2 g2 =>
    wpAny_standIf (wpAny_bind (wpAny_mono g2 (fun acc t3 g3 => wpAny_bind (wpAny_pure (wpAny_bind (wpAny_mono g3 (fun ce t4 g4 => ?_) fun _ _ z => z)))) fun _ _ z => z))) fun _ _ z => z))))))) fun _ _ z => z)
  dsimp only
  have own : ∀ y ∈ (scope.names.filter fun y => (y.2 == .local || y.2 == .cell) && y.1 != (".0" : Str)).reverse, y.2 = .local → Env.kindOf { ce with scope := relabel scope env } y.1 = some .local := fun y hy hk =>
    lookup_relabel_local (c5 y (List.mem_filter.mp (List.mem_reverse.mp hy)).1 hk)
  refine wpAny_holding (wpAny_bind (wpAny_attempt (wpAny_holding (wpAny_run (codeAny_mono g4 fun r t5 done => ?_)))))
  cases r with
  | ok fl =>
    obtain ⟨m, n, k⟩ := done
    exact wpAny_bind (wpAny_holding (wpAny_comp_letGo (cenv := { ce with scope := relabel scope env }) c4 _ t5 m own n fun g5 _ _ sb => wpAny_pure (k g5 sb)))
  | error x =>
    obtain ⟨m, n, k⟩ := done
    exact wpAny_bind (wpAny_holding (wpAny_comp_letGo (cenv := { ce with scope := relabel scope env }) c4 _ t5 m own n fun g5 _ _ sb => wpAny_mono (k g5 sb _ rfl) (fun _ _ z => z.elim) fun _ _ z => z))
theorem note_frame {x : Value} {ce : Env} (h : ce.frame = env.frame) : noteFrame x ce = noteFrame x env := by
  unfold PySem.noteFrame PySem.frameOf
  rw [h]
end
section
variable {X : Cx} {pins : List (Addr × Obj)} {σ τ : L2.St} {W : WX} {Eb : XK}
/-- the block, whose calls may let out what Eb wishes -/
abbrev blkX (X : Cx) (s : Shared) (H : Hp) (scope : Scope) (ce : Env) (fp : List Addr) (Eb : XK) : Cx :=
  (X.blk s H scope ce fp).wish fun u t => ∃ pins τ G s1, Inv (X.blk s H scope ce fp) pins τ G s1 ∧ L2.CX X.prog X.w X.stack G s1 Eb u t
theorem passB {s : Shared} {H : Hp} {scope : Scope} {ce : Env} {fp : List Addr} : Passes (L2.CX X.prog X.w) (blkX X s H scope ce fp Eb) Eb := fun pins τ G s1 _ _ I c => ⟨pins, τ, G, s1, I.unwish, c⟩
/-- an exception of a call in the block, its variables let go, is in our air -/
theorem air_out {H3 G G2 : Hp} {s3 s1 t : Shared} {B B2 hF : Heap} {a C : Addr} {fp : List Addr} {cls : Value} {d : Option Addr} (I3 : Inv X pins σ H3 s3) (eC : C = s3.heap.objs.size) (f3 : ∀ b ∈ fp, FpOk X pins H3 b)
    (un : Un (frs X.stack) fp H3 G s3.heap s1.heap) (o1 : s1.os = s3.os) (gC : G C = none) (oC : ∃ o, s1.heap.get? C = some o) (okB : HOk X.prog X.w G2 B) (ub : UB (frs X.stack) G G2 s1.heap B t.heap) (na : G2 a = none)
    (o2 : t.os = s1.os) (ag : AllBare t.gens) (b1 : ∀ b, b ≠ C → B2.get? b = B.get? b) (b2 : B2.get? C = none) (sl : ∀ b o, b ∈ frs X.stack → t.heap.get? b = some o → ∃ sl, hF.get? b = some { o with slots := sl })
    (held : HandSPX.HeldZ B2 X.stack a (Zc cls d) X.env.locals hF) (w : W cls d σ G2) : XE X W (.ref a) { t with heap := hF } := by
  obtain ⟨oc, hoc⟩ := oC
  have cG2 : G2 C = none := ub.free C oc hoc gC
  have st : ∀ b o, B2.get? b = some o → hF.get? b = some o := held.1
  have low : ∀ b o, s3.heap.get? b = some o → b ≠ C := fun b o e z => by
    have q := Heap.lt_size e
    rw [z, eC] at q
    exact absurd q (Nat.lt_irrefl _)
  obtain ⟨F, g1, g2⟩ := restrict hF fun b => (B2.get? b).isSome || decide (b ∈ frs X.stack)
  have fB : ∀ b o, B2.get? b = some o → F.get? b = some o := fun b o e => by
    rw [g1 b (by simp [e])]
    exact st b o e
  have fF : ∀ b, b ∈ frs X.stack → F.get? b = hF.get? b := fun b hb => g1 b (by simp [hb])
  have back : ∀ b o, F.get? b = some o → hF.get? b = some o ∧ ((B2.get? b).isSome = true ∨ b ∈ frs X.stack) := fun b o e => by
    cases q : ((B2.get? b).isSome || decide (b ∈ frs X.stack)) with
    | false => rw [g2 b q] at e; cases e
    | true =>
      rw [g1 b q] at e
      exact ⟨e, by simpa [Bool.or_eq_true] using q⟩
  have okB2 : HOk X.prog X.w G2 B2 := fun b o q => (okB b o q).stay (fun c u hc r => by
    rw [b1 c (fun z => by
      rw [z] at hc
      rcases hc with hc | hc
      · rw [← hc, cG2] at q; cases q
      · rw [cG2] at hc; cases hc)]
    exact r) (fun _ r => r) fun _ _ r => r
  have J : Inv X pins σ G2 { s3 with heap := F, gens := t.gens, drawn := t.drawn, toks := t.toks } := by
    refine I3.call (ch := fp) ⟨fun b o e n nf nx => ?_, fun b o e n hf nx => ?_, fun b o e n nx => ?_, fun b o e nx => ?_, fun b xs e => ub.tups b xs (un.tups b xs e), fun b o u e => ub.frzs b o u (un.frzs b o u e), fun b ps e => ?_⟩ (okB2.kept fB) ag
      fun b hb => ⟨(f3 b hb).2.2.2.1, (f3 b hb).2.1, (f3 b hb).2.2.2.2.1, (f3 b hb).2.2.2.2.2⟩
    · have z := ub.keep b o (un.keep b o e n nf nx) (un.free b o e n nx) nf
      exact fB b o ((b1 b (low b o e)).trans z)
    · obtain ⟨l1, e1⟩ := un.slot b o e n hf nx
      obtain ⟨l2, e2⟩ := ub.slot b _ e1 hf
      obtain ⟨l3, e3⟩ := sl b _ hf e2
      exact ⟨l3, (fF b hf).trans e3⟩
    · obtain ⟨u, e1⟩ := un.there b o e nx
      exact ub.free b u e1 (un.free b o e n nx)
    · obtain ⟨u, e1⟩ := un.there b o e nx
      by_cases hf : b ∈ frs X.stack
      · obtain ⟨l2, e2⟩ := ub.slot b u e1 hf
        obtain ⟨l3, e3⟩ := sl b _ hf e2
        exact ⟨_, (fF b hf).trans e3⟩
      · obtain ⟨v, e2⟩ := ub.there b u e1 hf
        exact ⟨v, fB b v ((b1 b (low b o e)).trans e2)⟩
    · obtain ⟨m1, e1⟩ := un.tbls b ps e
      obtain ⟨m2, e2⟩ := ub.tbls b _ e1
      exact ⟨m1 ++ m2, by rw [e2, Array.append_assoc]⟩
  refine ⟨a, B2, _, pins, σ, G2, cls, d, rfl, J, fun b o e hb => ?_, Heap.UpToSlots.of_keeps fun b o e => (back b o e).1, .inr (.inr held), na, o2.trans o1, ag, w⟩
  obtain ⟨e1, q⟩ := back b o e
  rcases q with q | q
  · obtain ⟨u, e2⟩ := Option.isSome_iff_exists.mp q
    rw [st b u e2] at e1
    cases e1
    exact e2
  · exact absurd q hb
theorem frames_but {B B2 h h' : Heap} (k : ∀ L, B.get? L = none → B2.get? L = none ∧ h'.get? L = h.get? L) : ∀ {l : List Env}, h.FunFrames B l → h'.FunFrames B2 l
  | [], _ => trivial
  | _ :: _, ⟨q, ⟨L, o, hf, hn, ho, hd⟩, rest⟩ => ⟨q, ⟨L, o, hf, (k L hn).1, ((k L hn).2).trans ho, hd⟩, frames_but k rest⟩
def tLcX (W : WX) (wi : TI) (g : TG) (te : XK → TE) (vs : List Nat) : TE := fun σ H Q => wi σ H fun J H1 => ∀ D, H1 D = none → ∃ Wn : Nat → Nat → Hp → Prop, (∃ m, Wn 0 m (upd H1 D (.lst []))) ∧ ∀ i m H2, Wn i m H2 →
  (J.stop i H2 ∧ Q (.ref D) H2) ∨ (J.go i H2 ∧ ∃ Nx : Hp → Prop, (∀ H3, Nx H3 → ∃ m2, m2 < m ∧ Wn (i + 1) m2 H3) ∧ ∀ x H3, J.yld i H2 x H3 → g x (wipe σ vs) H3 fun τ H4 => wipe τ vs = wipe σ vs ∧
    te (fun cls d G => W cls d σ G) τ H4 fun y H5 => ∃ acc, H5 D = some (.lst acc) ∧ acc.length < sizeLine ∧ Nx (upd H5 D (.lst (acc ++ [y]))))
theorem pe_lcX {elt tg iter : Expr} {scope : Scope} {own : List (Str × Nat)} {p0 : Pos} {wi : TI} {g : TG} {te : XK → TE} (tk : Takes X W) (stk : X.stack = X.env :: X.outer) (fr : X.env.frame = some X.env.locals) (hc : X.calm = true) (nd : X.N.Nodup) (hi : PI X tg iter wi) (ok : BlkOk X.N X.env.scope scope own)
    (hg : ∀ (s : Shared) (H : Hp) (C : Addr) (cl : List (Str × Addr)) (fp : List Addr), PG (X.blk s H scope (compEnvC scope cl C X.env) fp) tg g)
    (he : ∀ (s : Shared) (H : Hp) (C : Addr) (cl : List (Str × Addr)) (fp : List Addr) (Eb : XK), PE (blkX X s H scope (compEnvC scope cl C X.env) fp Eb) elt (te Eb)) (fs : ∀ x, foldedSetIterable iter X.env x = pure x := by intro _; rfl) :
    PE X (.ListComp elt [⟨tg, iter, [], 0⟩] scope p0) (tLcX W wi g te (own.map (·.2))) := by
  refine ⟨fun pins s σ H Q I h => ?_⟩
  rw [eval_ListComp]
  have cells : ∀ y ∈ scope.names, y.2 = .free → ∃ c, X.env.cells.lookup y.1 = some c := fun y hy e => (ok.free y hy e).elim (fun k => I.ok.has _ (.inl k)) fun k => I.ok.has _ (.inr k)
  refine compX_free rfl fs (closure_ok cells) ok.kind (fun y hy e => (ok.uniq y hy).trans (congrArg some e)) (thn (hi.run pins s σ H _ I h) fun _ s1 k1 => thn k1 fun _ s2 k2 => ?_)
  obtain ⟨it, fp, tn, J, H2, rfl, I2, T, t2, f2, q⟩ := k2
  refine wpAny_newObj_type (newEnv_comp ?_) (by show 0 ≤ sizeLine; decide)
  generalize eD : s2.heap.objs.size = D
  have nD : H2 D = none := I2.hok.fresh (Nat.le_of_eq eD)
  obtain ⟨Wn, ⟨m0, w0⟩, turn⟩ := q D nD
  generalize e3 : ({ s2 with heap := s2.heap.push { cls := .type "list", data := .seq ([] : List Value).toArray } } : Shared) = s3
  have hp3 : s3.heap = s2.heap.push { cls := .type "list", data := .seq ([] : List Value).toArray } := by rw [← e3]
  have I3 : Inv X pins σ (upd H2 D (.lst [])) s3 := by
    subst e3
    refine I2.laid (t' := s2.toks) (fun b o e => Heap.get?_push_of_some _ e) (Nat.le_of_eq eD) ⟨Nat.zero_le _, [], 0, .nil, ?_⟩
    subst eD
    exact Heap.get?_push_size _ rfl
  have small : ∀ b ∈ fp, b < s2.heap.objs.size := fun b hb => (T.obj _ _ t2 b hb).elim fun o e => Heap.lt_size e.1
  have f3 : ∀ b ∈ fp, FpOk X pins (upd H2 D (.lst [])) b ∧ b < s3.heap.objs.size := fun b hb => by
    have lt := small b hb
    have ne : b ≠ D := fun z => by rw [z, ← eD] at lt; exact absurd lt (Nat.lt_irrefl _)
    refine ⟨⟨(upd_ne ne).trans (f2 b hb).1, (f2 b hb).2⟩, ?_⟩
    rw [hp3, Heap.size_push]
    exact Nat.lt_succ_of_lt lt
  have t3 : tn 0 s3.heap := T.keep _ _ _ t2 fun b _ o e => by
    rw [hp3]
    exact Heap.get?_push_of_some _ e
  have I4 := block_start I3 ok nd f3
  have pg := hg s3 (upd H2 D (.lst [])) s3.heap.objs.size (cellsFrom (s3.heap.objs.size + 1) scope.names (cloFrom X.env.cells scope.names [])) fp
  have pe := he s3 (upd H2 D (.lst [])) s3.heap.objs.size (cellsFrom (s3.heap.objs.size + 1) scope.names (cloFrom X.env.cells scope.names [])) fp (fun cls d G => W cls d σ G)
  show codeAny _ _ (.compStart (.ListComp elt [⟨tg, iter, [], 0⟩] scope p0) 0 (.ref it) (.ref D) (compEnvC scope (cellsFrom (s3.heap.objs.size + 1) scope.names (cloFrom X.env.cells scope.names [])) s3.heap.objs.size X.env))
    (postX (model X.prog X.w) X.A X.xe (EP X pins σ Q) (.ref D) X.env.frame s3.heap.objs.size) { s3 with heap := pushCells (s3.heap.push { cls := .type "dict", data := .dict #[] }) scope.names }
  have none3 : ∀ b ∈ fp, (upd H2 D (.lst [])) b = none := fun b hb => (f3 b hb).1.1
  generalize ece : compEnvC scope (cellsFrom (s3.heap.objs.size + 1) scope.names (cloFrom X.env.cells scope.names [])) s3.heap.objs.size X.env = ce at I4 pg pe ⊢
  have ceL : ce.locals = s3.heap.objs.size := by subst ece; rfl
  have ceF : ce.frame = X.env.frame := by subst ece; rfl
  generalize eH : upd H2 D (.lst []) = H3 at I3 I4 pg pe w0 none3 f3
  generalize e4 : ({ s3 with heap := pushCells (s3.heap.push { cls := .type "dict", data := .dict #[] }) scope.names } : Shared) = s4 at I4 ⊢
  have t4 : tn 0 s4.heap := T.keep _ _ _ t3 fun b _ o e => by
    subst e4
    exact pushCells_keeps _ _ _ _ (Heap.get?_push_of_some _ e)
  have still : ∀ {τ : L2.St} {G : Hp} {t : Shared}, Inv (X.blk s3 H3 scope ce fp) [] τ G t → (∀ b ∈ fp, G b = none) → ∀ b ∈ fp, FpOk (X.blk s3 H3 scope ce fp) [] G b := fun {τ G t} J n b hb =>
    ⟨n b hb, (J.ok.exf b hb).1, J.ok.exfs b hb, .inl hb, fun x c e => (J.ok.exf b hb).2 x c e, fun p hp => absurd (show p ∈ ([] : List (Addr × Obj)) ++ [] from hp) (by simp)⟩
  have noC : ∀ {pins' : List (Addr × Obj)} {τ : L2.St} {G : Hp} {t : Shared}, Inv (X.blk s3 H3 scope ce fp) pins' τ G t → G s3.heap.objs.size = none := fun {pins' τ G t} J => by
    have z : G ce.locals = none := J.free
    rw [ceL] at z
    exact z
  have loop : codeAny (model X.prog X.w) X.A (.compLoop (.ListComp elt [⟨tg, iter, [], 0⟩] scope p0) 0 (.ref it) (.ref D) ce) (postX (model X.prog X.w) X.A X.xe (EP X pins σ Q) (.ref D) X.env.frame s3.heap.objs.size) s4 := by
    refine compLoop_any (fun n t => ∃ i G, Inv (X.blk s3 H3 scope ce fp) [] (wipe σ (own.map (·.2))) G t ∧ tn i t.heap ∧ (∀ b ∈ fp, G b = none) ∧ Wn i n G) ?_ m0 ⟨0, H3, I4, t4, none3, w0⟩
    rintro n s5 ⟨i, G5, I5, t5, n5, w5⟩
    rcases turn i n G5 w5 with ⟨stop, qq⟩ | ⟨go, Nx, next, step⟩
    · refine thnF (T.done (X.blk s3 H3 scope ce fp) rfl rfl rfl hc i [] s5 _ G5 (fun _ _ => False) I5 (still I5 n5) t5 stop) fun r s6 ⟨er, I6⟩ => ?_
      subst er
      have I7 : Inv X pins σ G5 s6 := I3.call' (ch := fp) I6.os I6.base I6.hok I6.bare fun b hb => ⟨(f3 b hb).1.2.2.2.1, (f3 b hb).1.2.1, (f3 b hb).1.2.2.2.2.1, (f3 b hb).1.2.2.2.2.2⟩
      obtain ⟨m, hm, _⟩ := I6.loc
      have hm : s6.heap.Ns ce.locals m := hm
      rw [ceL] at hm
      obtain ⟨z0, z1, z2, z3, z4, z5⟩ := I3.fpOk (Nat.le_refl _) (noC I6)
      exact ⟨m, hm, fun g sb => ⟨.ref D, G5, I7.turned (t' := s6.toks) (fun b o hb e => (sb.2 b hb).trans e) (noC I6) z1 z3 z4 z5, rfl, qq⟩⟩
    · refine thnF (T.item (X.blk s3 H3 scope ce fp) rfl rfl rfl hc i [] s5 _ G5 (fun _ _ => False) I5 (still I5 n5) t5 go) fun r s6 ⟨u, er, k6⟩ => ?_
      subst er
      refine thnF k6 fun _ s7 ⟨x, G7, I7, r7, y7, t7, n7⟩ => ?_
      have P7 := I7.pinned (still I7 n7) (T.obj _ _ t7)
      refine thnF (pg.run _ s7 _ G7 x u _ P7 r7 (step x G7 y7)) fun _ s8 ⟨τ8, G8, I8, hw8, q8⟩ => ?_
      refine wpAny_tests_nil ?_
      rw [if_pos rfl]
      have fin : ∀ {t : Shared} {G : Hp}, Inv (X.blk s3 H3 scope ce fp) ([] ++ pinsAt fp s7.heap) τ8 G t → Nx G → ∃ m, m < n ∧ ∃ i G, Inv (X.blk s3 H3 scope ce fp) [] (wipe σ (own.map (·.2))) G t ∧ tn i t.heap ∧ (∀ b ∈ fp, G b = none) ∧ Wn i m G := fun {t G} J nx => by
        obtain ⟨m2, lt, w2⟩ := next G nx
        have stays : ∀ b ∈ fp, ∀ o, s7.heap.get? b = some o → t.heap.get? b = some o ∧ G b = none := fun b hb o e =>
          have z := J.pin (b, o) (List.mem_append_right _ (List.mem_append_right _ (mem_pinsAt hb e)))
          ⟨z.1, z.2.1⟩
        refine ⟨m2, lt, i + 1, G, (J.unpinned (pins := [])).weak (by rw [← hw8, wipe_length]) (fun j v e => (wipe_some (hw8 ▸ e)).1), T.keep _ _ _ t7 fun b hb o e => (stays b hb o e).1, fun b hb => ?_, w2⟩
        obtain ⟨o, e, _⟩ := T.obj _ _ t7 b hb
        exact (stays b hb o e).2
      refine wpAny_mono (pe.run _ s8 τ8 G8 _ (I8.wish _) q8) (fun z s9 ⟨yv, G9, I9, r9, acc, hD9, hz9, nx⟩ => app_ok (X := X.blk s3 H3 scope ce fp) I9.unwish hD9 hz9 r9 fun s10 I10 => fin I10 nx) fun u t bad => ?_
      -- a call within lets something out
      obtain ⟨pb, τb, G, s1, Ib, a, B, G2, cls, d, rfl, fl, okB, ub, na, os, ag, w⟩ := bad
      show wpAny (model X.prog X.w) X.A (noteFrame (.ref a) ce) _ _ t
      rw [note_frame ceF]
      have frA : X.A.frames = some (X.env :: X.outer) := by rw [I.ok.frames, stk]
      have unb : Un (frs X.stack) fp H3 G s3.heap s1.heap := Ib.base
      obtain ⟨m, ⟨oc, es, ep, hoc, rest⟩, _⟩ := Ib.loc
      have hoc : s1.heap.get? s3.heap.objs.size = some oc := by
        rw [← ceL]
        exact hoc
      have nfr : s3.heap.objs.size ∉ frs X.stack := fun hm => by
        have z := Ib.stkSub _ hm
        rcases List.mem_cons.mp z with z | z
        · have q1 : X.env.locals < s3.heap.objs.size := I3.lt
          obtain ⟨o, e⟩ := (I3.stack.mem hm).2
          exact absurd (Heap.lt_size e.1) (Nat.lt_irrefl _)
        · obtain ⟨o, e⟩ := (I3.stack.mem hm).2
          exact absurd (Heap.lt_size e.1) (Nat.lt_irrefl _)
      have hBc : B.get? s3.heap.objs.size = some oc := ub.keep _ _ hoc (noC Ib) nfr
      have fl' : HandSPX.FlyingZ B (X.env :: X.outer) a (Zc cls d) t.heap := by
        rw [← stk]
        exact fl
      refine HandSPX.looks_onZ Zc.steady frA fr fl' fun h1 held up1 => ?_
      refine ⟨m, ⟨oc, es, ep, held.1 _ _ hBc, rest⟩, fun h2 sb cf ecf => ?_⟩
      obtain ⟨B2, g1, g2⟩ := restrict B fun b => decide (b ≠ s3.heap.objs.size)
      have b1 : ∀ b, b ≠ s3.heap.objs.size → B2.get? b = B.get? b := fun b hb => g1 b (decide_eq_true hb)
      have b2 : B2.get? s3.heap.objs.size = none := g2 _ (by simp)
      have b3 : ∀ b, B.get? b = none → B2.get? b = none := fun b hb => by
        by_cases z : b = s3.heap.objs.size
        · rw [z]
          exact b2
        · rw [b1 b z]
          exact hb
      obtain ⟨k1, k2, k3, oe, vs, T1, oT, ts, j1, j2, j3, j4, j5, j6, j7, j8, j9⟩ := held
      have offC : ∀ b, B.get? b = none → b ≠ s3.heap.objs.size := fun b hb z => by
        rw [z, hBc] at hb
        cases hb
      have held2 : HandSPX.HeldZ B2 X.stack a (Zc cls d) X.env.locals h2 := by
        refine ⟨fun b o e => ?_, b3 a k2, ?_, oe, vs, T1, oT, ts, (sb.2 a (offC a k2)).trans j1, j2, j3, j4, b3 T1 j5, j6, (sb.2 T1 (offC T1 j5)).trans j7, j8, j9⟩
        · have hb : b ≠ s3.heap.objs.size := fun z => by
            rw [z, b2] at e
            cases e
          exact (sb.2 b hb).trans (k1 b o ((b1 b hb).symm.trans e))
        · rw [stk]
          exact frames_but (fun L hL => ⟨b3 L hL, sb.2 L (offC L hL)⟩) k3
      unfold PySem.passOn
      refine wpAny_bind (wpAny_field ((sb.2 a (offC a k2)).trans j1) j3 j4 ?_)
      rw [if_neg (by simp)]
      rw [ecf, fr]
      refine wpAny_bind (HandSPX.setFlight_onZ held2 fun h3 held3 up3 => wpAny_throw (tk _ _ (air_out (t := t) I3 rfl (fun b hb => (f3 b hb).1) unb Ib.os (noC Ib) ⟨oc, hoc⟩ okB ub na os ag b1 b2 (fun b o hb e => ?_) held3 w)))
      obtain ⟨_, o', e', nd'⟩ := fl'.2.2.1.mem (b := b) (by rw [← stk]; exact hb)
      rw [e] at e'
      cases e'
      obtain ⟨l1, e1⟩ := up1 b o e nd'
      obtain ⟨l2, e2⟩ := up3 b _ ((sb.2 b fun z => nfr (z ▸ hb)).trans e1) nd'
      exact ⟨l2, e2⟩
  exact codeAny_compStart_list loop (T.self X.A 0 _ _ _ t4 loop)
end
end Hx
/-! A line of heights: figures, words, what is the word of a height, a line taken apart. -/
namespace Hx
open PySem PySem.Spec PyProof.Rows L2 SX
def dig (c : Nat) : Bool := decide (48 ≤ c) && decide (c ≤ 57)
def figs (w : List Nat) : List Nat := if w.head? = some 45 then w.tail else w
def plainW (w : List Nat) : Bool := !(figs w).isEmpty && (figs w).all dig
def leadW (w : List Nat) : Bool := decide ((figs w).head? = some 48) && !decide (w = [48])
def goodW (w : List Nat) : Bool := plainW w && !leadW w && decide ((figs w).length ≤ 19)
def numW (w : List Nat) : Int := if w.head? = some 45 then -((NumText.digitsVal (figs w) : Nat) : Int) else ((NumText.digitsVal (figs w) : Nat) : Int)
/-- the height that a word writes -/
def heiW (w : List Nat) : Option Int := if (goodW w && inB (numW w)) = true then some (numW w) else none
/-- the word that writes a number -/
def wordOf (i : Int) : List Nat := if i < 0 then 45 :: TL.numL i.natAbs else TL.numL i.natAbs
theorem numL_head {n : Nat} (h : (TL.numL n).head? = some 48) : n = 0 := by
  induction n using Nat.strongRecOn with
  | _ n ih =>
    by_cases k : n < 10
    · rw [TL.numL_lt k] at h
      have z : 48 + n = 48 := by simpa using h
      omega
    · rw [TL.numL_step (by omega)] at h
      have ne := TL.numL_ne (n / 10)
      have hh : (TL.numL (n / 10) ++ [48 + n % 10]).head? = (TL.numL (n / 10)).head? := by
        cases e : TL.numL (n / 10) with
        | nil => exact absurd e ne
        | cons a r => rfl
      rw [hh] at h
      have z := ih (n / 10) (by omega) h
      omega
theorem numL_minus (n : Nat) : (TL.numL n).head? ≠ some 45 := fun h => by
  cases e : TL.numL n with
  | nil => rw [e] at h; cases h
  | cons a r =>
    rw [e] at h
    have z := TL.numL_digits n a (by rw [e]; exact List.mem_cons_self ..)
    have : a = 45 := by simpa using h
    omega
theorem numL_all (n : Nat) : (TL.numL n).all dig = true := List.all_eq_true.mpr fun c hc => by
  have z := TL.numL_digits n c hc
  unfold dig
  simp [z.1, z.2]
theorem numL_emp (n : Nat) : (TL.numL n).isEmpty = false := by
  cases e : TL.numL n with
  | nil => exact absurd e (TL.numL_ne n)
  | cons a r => rfl
theorem figs_word (i : Int) : figs (wordOf i) = TL.numL i.natAbs := by
  unfold wordOf figs
  by_cases h : i < 0
  · rw [if_pos h, List.head?_cons, if_pos rfl]
    rfl
  · rw [if_neg h, if_neg (numL_minus _)]
theorem numW_word (i : Int) : numW (wordOf i) = i := by
  unfold numW
  rw [figs_word, TL.numL_val]
  unfold wordOf
  by_cases h : i < 0
  · rw [if_pos h, List.head?_cons, if_pos rfl]
    omega
  · rw [if_neg h, if_neg (numL_minus _)]
    omega
theorem good_word {i : Int} (h : inB i = true) : goodW (wordOf i) = true := by
  unfold inB at h
  rw [Bool.and_eq_true, decide_eq_true_eq, decide_eq_true_eq] at h
  unfold goodW plainW leadW
  rw [figs_word, numL_all, numL_emp, decide_eq_true (p := (TL.numL i.natAbs).length ≤ 19) (TL.numL_len (by decide) (by omega))]
  cases q : decide ((TL.numL i.natAbs).head? = some 48) with
  | false => rfl
  | true =>
    have z := numL_head (of_decide_eq_true q)
    have : i = 0 := by omega
    subst this
    decide +kernel
theorem heiW_word {i : Int} (h : inB i = true) : heiW (wordOf i) = some i := by
  unfold heiW
  rw [good_word h, numW_word, h]
  rfl
theorem word_free (i : Int) : 32 ∉ wordOf i := by
  unfold wordOf
  have z : 32 ∉ TL.numL i.natAbs := TL.numL_free (.inl (by decide))
  by_cases h : i < 0
  · rw [if_pos h]
    intro m
    rcases List.mem_cons.mp m with m | m
    · cases m
    · exact z m
  · rw [if_neg h]
    exact z
theorem word_len {i : Int} (h : inB i = true) : (wordOf i).length ≤ 20 := by
  unfold inB at h
  rw [Bool.and_eq_true, decide_eq_true_eq, decide_eq_true_eq] at h
  have z : (TL.numL i.natAbs).length ≤ 19 := TL.numL_len (by decide) (by omega)
  unfold wordOf
  by_cases h : i < 0
  · rw [if_pos h, List.length_cons]
    omega
  · rw [if_neg h]
    omega
theorem word_ne (i : Int) : wordOf i ≠ [] := by
  unfold wordOf
  by_cases h : i < 0
  · rw [if_pos h]
    exact List.cons_ne_nil _ _
  · rw [if_neg h]
    exact TL.numL_ne _
theorem word_str (i : Int) : Str.ofString (toString i) = S (wordOf i) := by
  unfold wordOf
  by_cases h : i < 0
  · rw [if_pos h]
    cases i with
    | ofNat n => exact absurd h (by simp)
    | negSucc n =>
      have e : toString (Int.negSucc n) = "-" ++ toString ((n + 1 : Nat) : Int) := rfl
      refine TL.ext_tl ?_
      have z := TL.tl_num (n + 1)
      rw [TL.tl_ofString] at z
      rw [e, TL.tl_ofString, String.toList_append, List.map_append, z]
      rfl
  · rw [if_neg h]
    have e : i = ((i.natAbs : Nat) : Int) := by omega
    have z := num_S i.natAbs
    rw [← e] at z
    exact z
/-! ### a line's words -/
abbrev wordsOf (l : List Nat) : List (List Nat) := TL.spl [32] 0 [] l
theorem pre_one (c : Nat) (r : List Nat) : TL.pre [32] (c :: r) = decide (c = 32) := by
  unfold TL.pre
  by_cases h : c = 32
  · subst h
    rfl
  · rw [decide_eq_false h]
    show (([c] : List Nat) == [32]) = false
    exact beq_eq_false_iff_ne.mpr fun z => h (by cases z; rfl)
theorem spl_cat (b : List Nat) : ∀ (a acc : List Nat), TL.spl [32] 0 acc (a ++ 32 :: b) = TL.spl [32] 0 acc a ++ TL.spl [32] 0 [] b
  | [], acc => by
    show TL.spl [32] 0 acc (32 :: b) = _
    rw [TL.spl_hit (by rw [pre_one]; rfl), TL.spl_nil]
    rfl
  | c :: r, acc => by
    show TL.spl [32] 0 acc (c :: (r ++ 32 :: b)) = _
    by_cases h : c = 32
    · rw [TL.spl_hit (by rw [pre_one, h]; rfl), TL.spl_hit (r := r) (by rw [pre_one, h]; rfl)]
      show acc :: TL.spl [32] 0 [] (r ++ 32 :: b) = acc :: TL.spl [32] 0 [] r ++ _
      rw [spl_cat b r []]
      rfl
    · rw [TL.spl_miss (by rw [pre_one]; exact decide_eq_false h), TL.spl_miss (r := r) (by rw [pre_one]; exact decide_eq_false h), spl_cat b r]
theorem words_cat (a b : List Nat) : wordsOf (a ++ 32 :: b) = wordsOf a ++ wordsOf b := spl_cat b a []
theorem words_one {w : List Nat} (h : 32 ∉ w) : wordsOf w = [w] := by
  have z := TL.spl_last1 (S := []) (acc := []) h
  rw [List.nil_append] at z
  exact z
theorem words_join : ∀ (ws : List (List Nat)), ws ≠ [] → wordsOf (TL.joinL [32] ws) = ws.flatMap wordsOf
  | [], h => absurd rfl h
  | [w], _ => by simp [TL.joinL]
  | w :: v :: r, _ => by
    show wordsOf (w ++ 32 :: TL.joinL [32] (v :: r)) = _
    rw [words_cat, words_join (v :: r) (List.cons_ne_nil _ _)]
    rfl
theorem words_heights {ns : List Int} (h : ns ≠ []) : wordsOf (TL.joinL [32] (ns.map wordOf)) = ns.map wordOf :=
  SX.spl_join (fun z => h (List.map_eq_nil_iff.mp z)) fun p hp => by
    obtain ⟨i, _, rfl⟩ := List.mem_map.mp hp
    exact word_free i
/-- no land is written by the line -/
def badL (l : List Nat) : Bool := (wordsOf l).any fun w => (heiW w).isNone
theorem bad_join {ws : List (List Nat)} {w : List Nat} (m : w ∈ ws) (h : badL w = true) : badL (TL.joinL [32] ws) = true := by
  unfold badL at h ⊢
  rw [words_join ws (List.ne_nil_of_mem m)]
  obtain ⟨x, hx, e⟩ := List.any_eq_true.mp h
  exact List.any_eq_true.mpr ⟨x, List.mem_flatMap.mpr ⟨w, m, hx⟩, e⟩
theorem bad_cat {a b : List Nat} (h : badL a = true ∨ badL b = true) : badL (a ++ 32 :: b) = true := by
  unfold badL at h ⊢
  rw [words_cat, List.any_append, Bool.or_eq_true]
  exact h
theorem hei_dig {w : List Nat} {c : Nat} (m : c ∈ w.tail) (h : dig c = false) : heiW w = none := by
  unfold heiW
  have z : goodW w = false := by
    unfold goodW plainW
    have q : (figs w).all dig = false := by
      rw [List.all_eq_false]
      refine ⟨c, ?_, by rw [h]; exact Bool.false_ne_true⟩
      unfold figs
      split
      · exact m
      · exact List.mem_of_mem_tail m
    rw [q, Bool.and_false, Bool.false_and, Bool.false_and]
  rw [z, Bool.false_and]
  rfl
/-- a word with a sign that is no figure behind its first -/
theorem bad_sign {w r : List Nat} {c : Nat} (hw : w ≠ []) (free : 32 ∉ w ++ c :: r) (h : dig c = false) : badL (w ++ c :: r) = true := by
  unfold badL
  rw [words_one free]
  have m : c ∈ (w ++ c :: r).tail := by
    cases w with
    | nil => exact absurd rfl hw
    | cons a v => exact List.mem_append.mpr (.inr (List.mem_cons_self ..))
  show ((heiW (w ++ c :: r)).isNone || false) = true
  rw [hei_dig m h]
  rfl
theorem join_len {m : Nat} : ∀ (ws : List (List Nat)), (∀ w ∈ ws, w.length ≤ m) → (TL.joinL [32] ws).length ≤ ws.length * (m + 1)
  | [], _ => Nat.zero_le _
  | [w], h => by
    have := h w (List.mem_singleton.mpr rfl)
    show w.length ≤ 1 * (m + 1)
    omega
  | w :: v :: r, h => by
    have h1 := h w (List.mem_cons_self ..)
    have h2 := join_len (v :: r) fun x hx => h x (List.mem_cons_of_mem _ hx)
    show (w ++ 32 :: TL.joinL [32] (v :: r)).length ≤ ((v :: r).length + 1) * (m + 1)
    rw [List.length_append, List.length_cons, Nat.add_mul]
    omega
theorem sum_len {m : Nat} : ∀ (ws : List (List Nat)), (∀ w ∈ ws, w.length ≤ m) → (ws.map List.length).sum ≤ ws.length * m
  | [], _ => Nat.zero_le _
  | w :: r, h => by
    have h1 := h w (List.mem_cons_self ..)
    have h2 := sum_len r fun x hx => h x (List.mem_cons_of_mem _ hx)
    rw [List.map_cons, List.sum_cons, List.length_cons, Nat.add_mul]
    omega
/-! ### what the words' texts tell -/
theorem ascii_digit (l : List Nat) : (Txt.isascii (S l) && Txt.isdigit (S l)) = (!l.isEmpty && l.all dig) := by
  have h1 : ∀ c : Nat, (decide (c < 128) && Unicode.isDigit c) = dig c := fun c => by
    by_cases h : c < 128
    · have k := PySem.W.os_isdigit h
      have k2 : Txt.isdigit ⟨#[c]⟩ = Unicode.isDigit c := by
        show (decide ((1 : Nat) > 0) && (#[c] : Array Nat).all Unicode.isDigit) = _
        simp
      rw [← k2, k, decide_eq_true h, Bool.true_and]
      rfl
    · rw [decide_eq_false h, Bool.false_and]
      unfold dig
      rw [decide_eq_false (p := c ≤ 57) (by omega), Bool.and_false]
  have h2 : ∀ m : List Nat, ((m.all fun c => decide (c < 128)) && m.all Unicode.isDigit) = m.all dig := fun m => by
    induction m with
    | nil => rfl
    | cons c r ih =>
      rw [List.all_cons, List.all_cons, List.all_cons, ← ih, ← h1 c]
      cases decide (c < 128) <;> cases Unicode.isDigit c <;> cases (r.all fun c => decide (c < 128)) <;> cases r.all Unicode.isDigit <;> rfl
  have e1 : Txt.isascii (S l) = l.all fun c => decide (c < 128) := by
    show (l.toArray.all fun c => decide (c < 128)) = _
    simp
  have e2 : Txt.isdigit (S l) = (!l.isEmpty && l.all Unicode.isDigit) := by
    show (decide ((S l).length > 0) && l.toArray.all Unicode.isDigit) = _
    rw [S_len]
    cases l <;> simp
  rw [e1, e2, ← h2 l]
  cases l.isEmpty <;> cases (l.all fun c => decide (c < 128)) <;> cases l.all Unicode.isDigit <;> rfl
theorem removed (w : List Nat) : Txt.removeprefix (S w) (S [45]) = S (figs w) := by
  unfold Txt.removeprefix figs
  have e : Builtin.Str.subAt (S w) (S [45]) 0 = decide (w.head? = some 45) := by
    rw [PySem.StrLaws.subAt_eq]
    show ((w.drop 0).take 1 == [45]) = _
    cases w with
    | nil => rfl
    | cons c r =>
      show (([c] : List Nat) == [45]) = decide (some c = some 45)
      by_cases h : c = 45
      · subst h
        rfl
      · rw [decide_eq_false (fun z => h (Option.some.inj z))]
        exact beq_eq_false_iff_ne.mpr fun z => h (by cases z; rfl)
  rw [e]
  by_cases h : w.head? = some 45
  · rw [decide_eq_true h, if_pos rfl, if_pos h]
    cases w with
    | nil => cases h
    | cons c r =>
      have e2 : (S [45]).length = 1 := rfl
      have e3 : (S (c :: r)).length = r.length + 1 := by rw [S_len]; rfl
      unfold Txt.affix
      rw [e2, e3]
      show (if (r.length + 1 - 1 == r.length + 1) = true then _ else _) = S r
      rw [if_neg (by simp)]
      refine TL.ext_tl ?_
      show (Builtin.Str.strSub (S (c :: r)) 1 (r.length + 1)).cps.toList = r
      simp [Builtin.Str.strSub]
  · rw [decide_eq_false h, if_neg h]
    rfl
theorem starts0 (l : List Nat) : Txt.startswith (S l) (S [48]) = decide (l.head? = some 48) := by
  unfold Txt.startswith
  rw [PySem.StrLaws.subAt_eq, S_len]
  show (decide (0 + 1 ≤ l.length) && ((l.drop 0).take 1 == [48])) = _
  cases l with
  | nil => rfl
  | cons c r =>
    rw [decide_eq_true (by rw [List.length_cons]; omega), Bool.true_and]
    show (([c] : List Nat) == [48]) = decide (some c = some 48)
    by_cases h : c = 48
    · subst h
      rfl
    · rw [decide_eq_false (fun z => h (Option.some.inj z))]
      exact beq_eq_false_iff_ne.mpr fun z => h (by cases z; rfl)
theorem good_len {w : List Nat} (h : goodW w = true) : w.length ≤ 20 := by
  unfold goodW at h
  rw [Bool.and_eq_true, decide_eq_true_eq] at h
  have z := h.2
  unfold figs at z
  cases w with
  | nil => exact Nat.zero_le _
  | cons c r =>
    rw [List.length_cons]
    split at z
    · have z : r.length ≤ 19 := z
      omega
    · rw [List.length_cons] at z
      omega
theorem int_good {w : List Nat} (h : goodW w = true) : intText? (S w) = some (numW w) := by
  have hl := good_len h
  unfold goodW plainW at h
  rw [Bool.and_eq_true, Bool.and_eq_true, Bool.and_eq_true] at h
  have ne : figs w ≠ [] := fun z => by
    rw [z] at h
    exact absurd h.1.1.1 (by decide)
  have ad : NumText.AllDigits (figs w) := fun c hc => by
    have z := List.all_eq_true.mp h.1.1.2 c hc
    unfold dig at z
    rw [Bool.and_eq_true, decide_eq_true_eq, decide_eq_true_eq] at z
    exact z
  unfold numW
  by_cases k : w.head? = some 45
  · rw [if_pos k]
    have e : figs w = w.tail := by unfold figs; rw [if_pos k]
    have e2 : w = 45 :: figs w := by
      rw [e]
      cases w with
      | nil => cases k
      | cons c r =>
        have : c = 45 := by simpa using k
        rw [this]
        rfl
    exact PySem.intText_neg (x := S w) (cs := figs w) e2 ad ne (by rw [S_len]; omega)
  · rw [if_neg k]
    have e : figs w = w := by unfold figs; rw [if_neg k]
    rw [e] at ad ne ⊢
    exact PySem.intText_digits (x := S w) ad ne (by rw [S_len]; omega)
end Hx
namespace Hx
open PySem PySem.Spec PyProof.Rows L2 SX Evl
/-- a word read: its number; what is no word of a height -/
def RHei (vs : List V) (_ : Hp) (v : V) : Prop := ∃ w : List Nat, vs = [.str (S w)] ∧ w.length ≤ 10000 ∧ goodW w = true ∧ v = .int (numW w)
def RNoHei (N : Addr) (vs : List V) (_ : Hp) (C : Addr) : Prop := ∃ w : List Nat, vs = [.str (S w)] ∧ w.length ≤ 10000 ∧ goodW w = false ∧ C = N
inductive NoText (H : Hp) : V → Prop where
  | non : NoText H .non
  | int (i : Int) : NoText H (.int i)
  | lst (a : Addr) (xs : List V) (h : H a = some (.lst xs)) : NoText H (.ref a)
theorem NoText.ex {H H' : Hp} {v : V} (e : Ex H H') (h : NoText H v) : NoText H' v := by
  cases h with
  | non => exact .non
  | int i => exact .int i
  | lst a xs h => exact .lst a xs (e _ _ h)
/-- a line read -/
def RRead (vs : List V) (_ : Hp) (xs : List V) : Prop := ∃ (l : List Nat) (ns : List Int), vs = [.str (S l)] ∧ l.length ≤ 10000 ∧ (wordsOf l).map heiW = ns.map some ∧ ns.length ≤ 200 ∧ xs = ns.map V.int
/-- what is no line of a land -/
def NoLine (H : Hp) (x : V) : Prop := NoText H x ∨ ∃ l : List Nat, x = .str (S l) ∧ l.length ≤ 10000 ∧ (badL l = true ∨ 200 < (wordsOf l).length)
theorem NoLine.ex {H H' : Hp} {v : V} (e : Ex H H') (h : NoLine H v) : NoLine H' v := h.elim (fun h => .inl (h.ex e)) .inr
def RNoRead (N : Addr) (vs : List V) (H : Hp) (C : Addr) : Prop := ∃ x, vs = [x] ∧ NoLine H x ∧ C = N
def RShown (K : PySem.W.Frag) (vs : List V) (H : Hp) (v : V) : Prop := ∃ (l : Addr) (ns : List Int), vs = [.ref l] ∧ SqL K H l (ns.map V.int) ∧ ns.length ≤ 200 ∧ (∀ i ∈ ns, inB i = true) ∧ v = .str (S (TL.joinL [32] (ns.map wordOf)))
section
variable {K : PySem.W.Frag} {σ : L2.St} {H : Hp} {to te tb : TE} {ta : TA} {E : XK}
theorem words_le (l : List Nat) : (wordsOf l).length ≤ l.length + 2 := by
  have z := split_le (S l) (S [32])
  rw [split_S (by decide) (by decide), List.length_map, S_len] at z
  exact z
theorem words_short {l w : List Nat} (h : w ∈ wordsOf l) : w.length ≤ l.length := by
  have z := part_short (x := S l) (y := S [32]) (a := S w) (by
    rw [split_S (by decide) (by decide)]
    exact List.mem_map.mpr ⟨w, h, rfl⟩)
  rw [S_len, S_len] at z
  exact z
theorem ev_prefix {w : List Nat} (h : Ev to σ H (.str (S w))) (h2 : Ev te σ H (.str (S [45]))) (hl : w.length ≤ 10000) : Ev (tM1 (fun x xs H Q => ∃ a b, x = .str a ∧ xs = [.str b] ∧ a.length ≤ sizeLine ∧ Q (.str (Txt.removeprefix a b)) H) to te) σ H (.str (S (figs w))) := fun H1 e Q q =>
  h H1 e _ fun H2 e2 => ⟨⟨_, rfl⟩, h2 H2 (e.trans e2) _ fun H3 e3 => ⟨S w, S [45], rfl, rfl, sz_of (by rw [S_len]; omega), by rw [removed]; exact q H3 (e2.trans e3)⟩⟩
theorem ev_ascii {w : List Nat} (h : Ev to σ H (.str (S w))) : Ev (tM0 (fun x xs H Q => ∃ a, x = .str a ∧ xs = [] ∧ True ∧ Q (.bl (Txt.isascii a)) H) to) σ H (.bl (Txt.isascii (S w))) := fun H1 e Q q =>
  h H1 e _ fun H2 e2 => ⟨⟨_, rfl⟩, S w, rfl, rfl, trivial, q H2 e2⟩
theorem ev_digit {w : List Nat} (h : Ev to σ H (.str (S w))) : Ev (tM0 (fun x xs H Q => ∃ a, x = .str a ∧ xs = [] ∧ True ∧ Q (.bl (Txt.isdigit a)) H) to) σ H (.bl (Txt.isdigit (S w))) := fun H1 e Q q =>
  h H1 e _ fun H2 e2 => ⟨⟨_, rfl⟩, S w, rfl, rfl, trivial, q H2 e2⟩
theorem ev_starts {w v : List Nat} (h : Ev to σ H (.str (S w))) (h2 : Ev te σ H (.str (S v))) : Ev (tM1 (fun x xs H Q => ∃ a b, x = .str a ∧ xs = [.str b] ∧ Q (.bl (Txt.startswith a b)) H) to te) σ H (.bl (Txt.startswith (S w) (S v))) := fun H1 e Q q =>
  h H1 e _ fun H2 e2 => ⟨⟨_, rfl⟩, h2 H2 (e.trans e2) _ fun H3 e3 => ⟨S w, S v, rfl, rfl, q H3 (e2.trans e3)⟩⟩
theorem rc_lenS {w : List Nat} (hl : w.length ≤ 10000) : RC (fun xs H Q => ∃ z, xs = [.str z] ∧ z.length ≤ sizeLine ∧ Q (.int z.length) H) [.str (S w)] H (.int (w.length : Int)) := fun H1 e Q q =>
  ⟨S w, rfl, sz_of (by rw [S_len]; omega), by rw [S_len]; exact q H1 (Ex.refl H1)⟩
theorem rc_intS {w : List Nat} (h : goodW w = true) : RC (fun xs H Q => ∃ a n, xs = [.str a] ∧ PySem.intText? a = some n ∧ a.length ≤ 640 ∧ Q (.int n) H) [.str (S w)] H (.int (numW w)) := fun H1 e Q q =>
  ⟨S w, numW w, rfl, int_good h, by have := good_len h; rw [S_len]; omega, q H1 (Ex.refl H1)⟩
theorem rc_strI {i : Int} (h : inB i = true) : RC (fun xs H Q => ∃ i, xs = [.int i] ∧ i.natAbs.log2 < 1920 ∧ Q (.str (toString i)) H) [.int i] H (.str (S (wordOf i))) := fun H1 e Q q => by
  unfold inB at h
  rw [Bool.and_eq_true, decide_eq_true_eq, decide_eq_true_eq] at h
  refine ⟨i, rfl, ?_, ?_⟩
  · by_cases z : i.natAbs = 0
    · rw [z]
      decide
    · have k := (Nat.log2_lt z (k := 60)).mpr (by omega)
      omega
  · have z := word_str i
    show Q (.str (Str.ofString (toString i))) H1
    rw [z]
    exact q H1 (Ex.refl H1)
theorem el_split {l : List Nat} (h : Ev to σ H (.str (S l))) (h2 : Ev te σ H (.str (S [32]))) (hl : l.length ≤ 10000) :
    EvL (tM1 (fun x xs H Q => ∃ a b, x = .str a ∧ xs = [.str b] ∧ (b.length == 0) = false ∧ a.length + 2 ≤ sizeLine ∧ rNewStrs (Txt.split a b) H Q) to te) σ H ((wordsOf l).map fun w => V.str (S w)) := fun H1 e Q q =>
  h H1 e _ fun H2 e2 => ⟨⟨_, rfl⟩, h2 H2 (e.trans e2) _ fun H3 e3 => ⟨S l, S [32], rfl, rfl, rfl, sz_of (by rw [S_len]; omega), fun p np => by
    rw [split_S (by decide) (by decide), List.map_map]
    exact q p _ (fresh_back (e2.trans e3) np) ((e2.trans e3).trans (Ex.new np)) upd_same⟩⟩
theorem ev_join {ws : List (List Nat)} {p : Addr} (h : Ev to σ H (.str (S [32]))) (h2 : Ev te σ H (.ref p)) (hp : SqL K H p (ws.map fun w => V.str (S w))) (hl : ws.length ≤ 1000) (hw : ∀ w ∈ ws, w.length ≤ 1000) :
    Ev (tM1 (fun x xs H Q => ∃ a p, ∃ ys : List Str, x = .str a ∧ xs = [.ref p] ∧ (SqL K H p (ys.map V.str) ∨ SqT K H p (ys.map V.str)) ∧ (ys.map (·.length)).sum + ys.length * a.length ≤ 16777216 ∧ Q (.str (Txt.join a ys)) H) to te) σ H (.str (S (TL.joinL [32] ws))) := fun H1 e Q q =>
  h H1 e _ fun H2 e2 => ⟨⟨_, rfl⟩, h2 H2 (e.trans e2) _ fun H3 e3 => ⟨S [32], p, ws.map S, rfl, rfl, .inl (by rw [List.map_map]; exact ex_l ((e.trans e2).trans e3) hp), by
    have z := sum_len ws hw
    have z2 : ws.length * 1000 ≤ 1000 * 1000 := Nat.mul_le_mul_right _ hl
    rw [SX.lens, List.length_map, S_len]
    show (ws.map List.length).sum + ws.length * 1 ≤ _
    omega, by rw [join_S]; exact q H3 (e2.trans e3)⟩⟩
theorem ev_joinN {ws : List (List Nat)} (h : Ev to σ H (.str (S [32]))) (h2 : EvL te σ H (ws.map fun w => V.str (S w))) (hl : ws.length ≤ 1000) (hw : ∀ w ∈ ws, w.length ≤ 1000) :
    Ev (tM1 (fun x xs H Q => ∃ a p, ∃ ys : List Str, x = .str a ∧ xs = [.ref p] ∧ (SqL K H p (ys.map V.str) ∨ SqT K H p (ys.map V.str)) ∧ (ys.map (·.length)).sum + ys.length * a.length ≤ 16777216 ∧ Q (.str (Txt.join a ys)) H) to te) σ H (.str (S (TL.joinL [32] ws))) := fun H1 e Q q =>
  h H1 e _ fun H2 e2 => ⟨⟨_, rfl⟩, h2 H2 (e.trans e2) _ fun p H3 np e3 hp => ⟨S [32], p, ws.map S, rfl, rfl, .inl (by rw [List.map_map]; exact sq_of hp), by
    have z := sum_len ws hw
    have z2 : ws.length * 1000 ≤ 1000 * 1000 := Nat.mul_le_mul_right _ hl
    rw [SX.lens, List.length_map, S_len]
    show (ws.map List.length).sum + ws.length * 1 ≤ _
    omega, by rw [join_S]; exact q H3 (e2.trans e3)⟩⟩
theorem rv_addS {a b : List Nat} (h : a.length + b.length ≤ 100000) : RV (fun x y H Q => ∃ i j, x = .str i ∧ y = .str j ∧ i.length + j.length ≤ sizeLine ∧ Q (.str (i ++ j)) H) (.str (S a)) (.str (S b)) H (.str (S (a ++ b))) := fun H1 e Q q =>
  ⟨S a, S b, rfl, rfl, sz_of (by rw [S_len, S_len]; omega), by rw [S_cat]; exact q H1 (Ex.refl H1)⟩
theorem rv_eqS {a b : List Nat} : RV rEq (.str (S a)) (.str (S b)) H (.bl (decide (a = b))) := fun H1 e Q q => ⟨rfl, by
  rw [dec_str, S_beq_eq]
  exact q H1 (Ex.refl H1)⟩
theorem rv_neS {a b : List Nat} : RV rNe (.str (S a)) (.str (S b)) H (.bl (!decide (a = b))) := fun H1 e Q q => ⟨rfl, by
  rw [dec_str, S_beq_eq]
  exact q H1 (Ex.refl H1)⟩
theorem rv_notInS {c : Nat} {z : List Nat} : RV (fun x y H Q => ∃ (c : Nat) (z : Str), x = .str ⟨#[c]⟩ ∧ y = .str z ∧ Q (.bl (!decide (c ∈ z.cps.toList))) H) (.str ⟨#[c]⟩) (.str (S z)) H (.bl (!decide (c ∈ z))) := fun H1 e Q q => ⟨c, S z, rfl, rfl, q H1 (Ex.refl H1)⟩
theorem ev_slTo {a : List Nat} {tk : TE} {i : Int} (h : Ev te σ H (.str (S a))) (hk : Ev tk σ H (.int i)) (h0 : 0 ≤ i) (hl : a.length ≤ 10000) : Ev (tSl C8.rSlX te tNoPart (tPart tk)) σ H (.str (S (a.take i.toNat))) := fun H1 e Q q =>
  h H1 e _ fun H2 e2 => eo_none H2 (e.trans e2) _ fun H3 e3 => eo_some hk H3 ((e.trans e2).trans e3) _ fun H4 e4 => by
    unfold C8.rSlX
    exact ⟨S a, rfl, sz_of (by rw [S_len]; omega), by rw [slice_to h0]; exact q H4 ((e2.trans e3).trans e4)⟩
theorem ev_slFrom {a : List Nat} {tk : TE} {i : Int} (h : Ev te σ H (.str (S a))) (hk : Ev tk σ H (.int i)) (h0 : 0 ≤ i) (hl : a.length ≤ 10000) : Ev (tSl C8.rSlX te (tPart tk) tNoPart) σ H (.str (S (a.drop i.toNat))) := fun H1 e Q q =>
  h H1 e _ fun H2 e2 => eo_some hk H2 (e.trans e2) _ fun H3 e3 => eo_none H3 ((e.trans e2).trans e3) _ fun H4 e4 => by
    unfold C8.rSlX
    exact ⟨S a, rfl, sz_of (by rw [S_len]; omega), by rw [slice_from h0]; exact q H4 ((e2.trans e3).trans e4)⟩
/-- a text, sign by sign -/
theorem s_forSt {D : Ends} {tu : TS} {w : List Nat} {tl : TE} {j : Nat} (h : Ev tl σ H (.str (S w))) (Pv : Nat → L2.St → Hp → Prop) (h0 : ∀ H1, Ex H H1 → Pv 0 σ H1)
    (hs : ∀ i c σ' H', w[i]? = some c → Pv i σ' H' → tu { D with nx := Pv (i + 1), ct := Pv (i + 1), bk := D.nx } (σ'.set j (some (.str ⟨#[c]⟩))) H') (hd : ∀ σ' H', Pv w.length σ' H' → D.nx σ' H') : tFor (iStr tl) (gName j) tu D σ H :=
  h H (Ex.refl H) _ fun H1 e => ⟨S w, rfl, fun i m σ' H' => m = w.length - i ∧ i ≤ w.length ∧ Pv i σ' H', ⟨w.length, by simp, Nat.zero_le _, h0 H1 e⟩, by
    rintro i m σ' H' ⟨rfl, hi, p⟩
    have sz : (S w).cps.size = w.length := rfl
    by_cases hlt : i < w.length
    · refine .inr ⟨by show i < (S w).cps.size; rw [sz]; exact hlt, Pv (i + 1), fun σ' H' p' => ⟨w.length - (i + 1), by omega, rfl, hlt, p'⟩, fun x H'' y => ?_⟩
      obtain ⟨e1, c, hc, rfl⟩ := y
      subst e1
      exact hs i c _ _ (by have z : w.toArray[i]? = some c := hc; simpa using z) p
    · have e : i = w.length := by omega
      subst e
      exact .inl ⟨by show (S w).cps.size ≤ w.length; rw [sz]; exact Nat.le_refl _, hd _ _ p⟩⟩
theorem q_forSt {D : Ends} {tu tz : TS} {w : List Nat} {tl : TE} {j : Nat} (h : Ev tl σ H (.str (S w))) (Pv : Nat → L2.St → Hp → Prop) (h0 : ∀ H1, Ex H H1 → Pv 0 σ H1)
    (hs : ∀ i c σ' H', w[i]? = some c → Pv i σ' H' → tu { D with nx := Pv (i + 1), ct := Pv (i + 1), bk := tz D } (σ'.set j (some (.str ⟨#[c]⟩))) H') (hd : ∀ σ' H', Pv w.length σ' H' → tz D σ' H') : tSeq (tFor (iStr tl) (gName j) tu) tz D σ H :=
  s_forSt (D := { D with nx := tz D }) h Pv h0 hs hd
/-- one of the ten figures, found -/
theorem ev_index {c : Nat} (h : Ev to σ H (.str (S [48, 49, 50, 51, 52, 53, 54, 55, 56, 57]))) (h2 : Ev te σ H (.str (S [c]))) (hd : dig c = true) :
    Ev (tM1 (fun x xs H Q => ∃ a b i rest, x = .str a ∧ xs = [.str b] ∧ Builtin.Str.occurrences a b 0 a.length 1 = i :: rest ∧ Q (.int (i : Nat)) H) to te) σ H (.int ((c - 48 : Nat) : Int)) := fun H1 e Q q =>
  h H1 e _ fun H2 e2 => ⟨⟨_, rfl⟩, h2 H2 (e.trans e2) _ fun H3 e3 => ⟨S [48, 49, 50, 51, 52, 53, 54, 55, 56, 57], S [c], c - 48, [], rfl, rfl, by
    have k : ∀ n : Fin 10, Builtin.Str.occurrences (S [48, 49, 50, 51, 52, 53, 54, 55, 56, 57]) (S [48 + n.val]) 0 10 1 = [n.val] := by decide +kernel
    unfold dig at hd
    rw [Bool.and_eq_true, decide_eq_true_eq, decide_eq_true_eq] at hd
    have z := k ⟨c - 48, by omega⟩
    have e48 : 48 + (c - 48) = c := by omega
    rw [show (48 + (⟨c - 48, by omega⟩ : Fin 10).val) = c from e48] at z
    exact z, q H3 (e2.trans e3)⟩⟩
theorem ten_dig (c : Nat) : decide (c ∈ [48, 49, 50, 51, 52, 53, 54, 55, 56, 57]) = dig c := by
  unfold dig
  by_cases h : 48 ≤ c ∧ c ≤ 57
  · rw [decide_eq_true h.1, decide_eq_true h.2]
    refine decide_eq_true ?_
    simp
    omega
  · have z : (decide (48 ≤ c) && decide (c ≤ 57)) = false := by
      cases k : (decide (48 ≤ c) && decide (c ≤ 57)) with
      | false => rfl
      | true =>
        rw [Bool.and_eq_true, decide_eq_true_eq, decide_eq_true_eq] at k
        exact absurd k h
    rw [z]
    refine decide_eq_false fun m => h ?_
    simp at m
    omega
theorem foldl_push (c : Nat) : ∀ (n : Nat) (a : Array Nat), (List.replicate n (#[c] : Array Nat)).foldl (· ++ ·) a = a ++ (List.replicate n c).toArray
  | 0, a => by simp
  | n + 1, a => by
    rw [List.replicate_succ, List.foldl_cons, foldl_push c n, List.replicate_succ]
    apply Array.ext'
    simp
def rMulS : R2 := fun x y H Q => ∃ (c n : Nat), x = .str (S [c]) ∧ y = .int (n : Int) ∧ 2 ≤ n ∧ n ≤ 1000 ∧ Q (.str (S (List.replicate n c))) H
theorem op_mulS {X : Cx} : OpR X (binaryOp .Mult) rMulS := by
  intro pins s σ H x y v u Q I rx ry h
  obtain ⟨c, n, rfl, rfl, h1, h2, q⟩ := h
  obtain ⟨t, rfl⟩ := rx
  obtain ⟨t', rfl⟩ := ry
  refine PySem.P.mul_str ?_ ?_ ?_ ?_
  · rw [decide_eq_false (by omega), decide_eq_false (by omega)]
    rfl
  · intro _ _
    show ¬ (((1 : Nat) : Int) > (2 ^ 63 - 1) / (n : Int))
    have z : (1 : Int) ≤ (2 ^ 63 - 1) / (n : Int) := (Int.le_ediv_iff_mul_le (by omega)).mpr (by omega)
    omega
  · intro _ _
    show Builtin.Str.tooLong (1 * ((n : Int)).toNat) = false
    unfold Builtin.Str.tooLong
    refine decide_eq_false ?_
    show ¬ (sizeLine < 1 * n)
    have : 1000 ≤ sizeLine := by decide
    omega
  · rw [if_neg (by omega), if_neg (by
      rw [Bool.or_eq_true, beq_iff_eq]
      rintro (z | z)
      · omega
      · exact absurd z (by show ¬ ((1 : Nat) == 0) = true; decide))]
    have e : (⟨(List.replicate ((n : Int)).toNat (S [c]).cps).foldl (· ++ ·) #[]⟩ : Str) = S (List.replicate n c) := by
      rw [Int.toNat_natCast]
      show (⟨(List.replicate n (#[c] : Array Nat)).foldl (· ++ ·) #[]⟩ : Str) = ⟨(List.replicate n c).toArray⟩
      rw [foldl_push]
      simp
    rw [e]
    refine ⟨?_, ?_⟩
    · rw [S_len, List.length_replicate]
      have : 1000 ≤ sizeLine := by decide
      omega
    · exact ⟨.str _, H, I.tok _, ⟨_, rfl⟩, q⟩
theorem rv_mulS {c n : Nat} (h1 : 2 ≤ n) (h2 : n ≤ 1000) : RV rMulS (.str (S [c])) (.int (n : Int)) H (.str (S (List.replicate n c))) := fun H1 e Q q => ⟨c, n, rfl, rfl, h1, h2, q H1 (Ex.refl H1)⟩
/-! ### a list comprehension over a new list, whose element may refuse -/
theorem lcX {W : WX} {tl : TE} {te : XK → TE} {j : Nat} {vs : List Nat} {xs : List V} {f : V → Option V} {N : Addr} {Q : VK} (h : EvL tl σ H xs) (hz : xs.length ≤ 40000) (hw : ∀ x, wipe ((wipe σ vs).set j (some x)) vs = wipe σ vs)
    (hy : ∀ x ∈ xs, ∀ y, f x = some y → ∀ (Eb : XK) H1, Ex H H1 → Ev (te Eb) ((wipe σ vs).set j (some x)) H1 y)
    (hn : ∀ x ∈ xs, f x = none → ∀ (Eb : XK) H1 (R : VK), Ex H H1 → (∀ H2, Ex H1 H2 → Eb (.ref N) none H2) → te Eb ((wipe σ vs).set j (some x)) H1 R)
    (hq : (∀ x ∈ xs, (f x).isSome = true) → ∀ p H2, H p = none → Ex H H2 → H2 p = some (.lst (xs.filterMap f)) → Q (.ref p) H2) (hb : (∃ x ∈ xs, f x = none) → ∀ H2, Ex H H2 → W (.ref N) none σ H2) : tLcX W (iList K tl) (gName j) te vs σ H Q :=
  h H (Ex.refl H) _ fun a H1 na e1 ha => ⟨a, rfl, ⟨xs, sq_of ha⟩, fun D nD => by
    have nDH : H D = none := fresh_back e1 nD
    refine ⟨fun i m H2 => m = xs.length - i ∧ i ≤ xs.length ∧ Ex H1 H2 ∧ H2 D = some (.lst ((xs.take i).filterMap f)) ∧ ∀ x ∈ xs.take i, (f x).isSome = true, ⟨xs.length, by simp, Nat.zero_le _, Ex.new nD, upd_same, by simp⟩, ?_⟩
    rintro i m H2 ⟨rfl, hi, e2, hD, ok⟩
    have q2 : SqL K H2 a xs := sq_of (e2 _ _ ha)
    by_cases hlt : i < xs.length
    · refine .inr ⟨⟨xs, xs[i], q2, by simp [hlt]⟩, fun H3 => Ex H1 H3 ∧ H3 D = some (.lst ((xs.take (i + 1)).filterMap f)) ∧ ∀ x ∈ xs.take (i + 1), (f x).isSome = true, fun H3 p3 => ⟨xs.length - (i + 1), by omega, rfl, hlt, p3⟩, fun x H3 y => ?_⟩
      obtain ⟨e3, y⟩ := y
      subst e3
      have hx := y xs q2
      have mx : x ∈ xs := List.mem_of_getElem? hx
      have tk1 : xs.take (i + 1) = xs.take i ++ [x] := by rw [List.take_add_one, hx]; rfl
      refine ⟨hw x, ?_⟩
      cases hf : f x with
      | none => exact hn x mx hf _ _ _ (e1.trans e2) fun H4 e4 => hb ⟨x, mx, hf⟩ H4 ((e1.trans e2).trans e4)
      | some y =>
        refine hy x mx y hf _ _ (e1.trans e2) _ (Ex.refl _) _ fun H4 e4 => ⟨_, e4 _ _ hD, ?_, ?_, ?_, ?_⟩
        · have z : ((xs.take i).filterMap f).length ≤ (xs.take i).length := List.length_filterMap_le ..
          have z2 : (xs.take i).length ≤ i := List.length_take_le ..
          have : 100000 ≤ sizeLine := by decide
          omega
        · intro b o hbo
          have nb : b ≠ D := fun z => by rw [z, nD] at hbo; cases hbo
          rw [upd_ne nb]
          exact e4 _ _ (e2 _ _ hbo)
        · rw [upd_same, tk1, List.filterMap_append]
          show _ = some (HO.lst (_ ++ [x].filterMap f))
          rw [List.filterMap_cons, hf]
          rfl
        · rw [tk1]
          intro z mz
          rcases List.mem_append.mp mz with mz | mz
          · exact ok z mz
          · rw [List.mem_singleton.mp mz, hf]
            rfl
    · have e : i = xs.length := by omega
      subst e
      rw [List.take_length] at hD ok
      exact .inl ⟨⟨xs, q2, Nat.le_refl _⟩, hq ok D H2 nDH (e1.trans e2) hD⟩⟩
section
variable {X : Cx} {x : Str} {k j : Nat} {ps : List Str} {sp : Sp} {p pos : Pos} {e : Expr} {es : List Expr} {t : TA} {Eb : XK} {s0 : Shared} {H0 : Hp} {scope : Scope} {ce : Env} {fp : List Addr}
/-- called within a list comprehension whose element may refuse -/
theorem pe_calB (C : CalX X.prog X.w X.K X.mg X.base x k ps sp) (hr : Room j X.A) (ha : PA (blkX X s0 H0 scope ce fp Eb) (e :: es) t) (hk : k ≤ j := by decide) (hg : Gl (blkX X s0 H0 scope ce fp Eb) x := by rfl)
    (hdb : (x == ("__debug__" : Str)) = false := by decide) (he : starEach (e :: es) (blkX X s0 H0 scope ce fp Eb).env = (false, eval e (blkX X s0 H0 scope ce fp Eb).env) :: starEach es (blkX X s0 H0 scope ce fp Eb).env := by rfl) (hpl : (backTo pos (starEach es (blkX X s0 H0 scope ce fp Eb).env)).any (·.1) = false := by rfl) :
    PE (blkX X s0 H0 scope ce fp Eb) (.Call (.Name x p) (e :: es) [] pos) (tCall sp [] Eb t) := by
  obtain ⟨f, fd, F, hm, kp, b⟩ := C.ex
  exact pe_call (X := blkX X s0 H0 scope ce fp Eb) F (hr.mono hk) hg hm kp b .nil passB ha hdb he hpl
end
end
end Hx
namespace Hx
open PySem PySem.Spec PyProof.Rows L2 SX Evl
theorem given_map {α : Type} (as : List α) (g : α → V) : given as.length (fun _ => true) (fun i => ((as[i]?).map g).getD .non) = as.map g := by
  unfold given
  have e : (List.range as.length).filter (fun _ => true) = List.range as.length := List.filter_eq_self.mpr fun _ _ => rfl
  rw [e]
  refine List.ext_getElem? fun i => ?_
  rw [List.getElem?_map, List.getElem?_map]
  by_cases h : i < as.length
  · rw [List.getElem?_range h]
    simp [h]
  · rw [List.getElem?_eq_none (by rw [List.length_range]; omega), List.getElem?_eq_none (by omega)]
    rfl
section
variable {K : PySem.W.Frag} {σ : L2.St} {H : Hp} {tl te : TE}
theorem el_lcM {α : Type} {as : List α} {r : α → V} {a : Addr} {j : Nat} {vs : List Nat} (g : α → V) (h : Ev tl σ H (.ref a)) (hx : SqL K H a (as.map r)) (hz : as.length ≤ 40000) (hw : ∀ x, wipe ((wipe σ vs).set j (some x)) vs = wipe σ vs)
    (he : ∀ x H1, Ex H H1 → x ∈ as → Ev te ((wipe σ vs).set j (some (r x))) H1 (g x)) : EvL (tLc (iList K tl) (gName j) tYes te vs) σ H (as.map g) := by
  have z := el_lcL (K := K) (te := te) (t := tYes) (fun _ => true) (fun i => ((as[i]?).map g).getD .non) h hx (by rw [List.length_map]; exact hz) hw (fun _ _ _ _ _ => et_yes) (fun i x H1 e hx _ => by
    rw [List.getElem?_map] at hx
    cases q : as[i]? with
    | none => rw [q] at hx; cases hx
    | some y =>
      rw [q] at hx
      have ex : r y = x := Option.some.inj hx
      subst ex
      exact he y H1 e (List.mem_of_getElem? q))
  rw [List.length_map, given_map] at z
  exact z
theorem el_lcMN {α : Type} {as : List α} {r : α → V} {j : Nat} {vs : List Nat} (g : α → V) (h : EvL tl σ H (as.map r)) (hz : as.length ≤ 40000) (hw : ∀ x, wipe ((wipe σ vs).set j (some x)) vs = wipe σ vs)
    (he : ∀ x H1, Ex H H1 → x ∈ as → Ev te ((wipe σ vs).set j (some (r x))) H1 (g x)) : EvL (tLc (iList K tl) (gName j) tYes te vs) σ H (as.map g) := by
  have z := el_lcNL (K := K) (te := te) (t := tYes) (fun _ => true) (fun i => ((as[i]?).map g).getD .non) h (by rw [List.length_map]; exact hz) hw (fun _ _ _ _ _ => et_yes) (fun i x H1 e hx _ => by
    rw [List.getElem?_map] at hx
    cases q : as[i]? with
    | none => rw [q] at hx; cases hx
    | some y =>
      rw [q] at hx
      have ex : r y = x := Option.some.inj hx
      subst ex
      exact he y H1 e (List.mem_of_getElem? q))
  rw [List.length_map, given_map] at z
  exact z
theorem given_const (n : Nat) (c : V) : given n (fun _ => true) (fun _ => c) = List.replicate n c := by
  unfold given
  have e : (List.range n).filter (fun _ => true) = List.range n := List.filter_eq_self.mpr fun _ _ => rfl
  rw [e, List.map_const', List.length_range]
theorem ev_cS {x : Str} {l : List Nat} (h : x = S l) : Ev (tC (.str x)) σ H (.str (S l)) := by
  rw [h]
  exact ev_c
/-! ### what the law's own defs hand back -/
def ten : List Nat := [48, 49, 50, 51, 52, 53, 54, 55, 56, 57]
def RFig (vs : List V) (_ : Hp) (v : V) : Prop := ∃ i : Int, vs = [.int i] ∧ inB i = true ∧ v = .str (S (wordOf i))
def wrongs (one : List Nat) : List (List Nat) :=
  [[], [32], one ++ [32], 32 :: one, one ++ (32 :: 32 :: one), [43, 49], [45, 48], [48, 48], [48, 49], [45, 48, 49]] ++
  [[49, 46], [49, 44, 50], [97], one ++ [120], one ++ [32, 45], [45, 45, 49], [49, 45], [49, 32, 43, 50], [48, 120, 49], [49, 95, 48]] ++
  [49 :: List.replicate 19 48, 45 :: 49 :: List.replicate 19 48, [49, 48, 48, 48, 48, 48, 48, 48, 48, 48, 48, 48, 48, 48, 48, 48, 48, 48, 49], one ++ [32, 49, 10], one ++ [9, 49]]
theorem wrongs_len (one : List Nat) : (wrongs one).length = 25 := rfl
theorem wrongs_bad {i : Int} (w : List Nat) (h : w ∈ wrongs (wordOf i)) : badL w = true := by
  have fr := word_free i
  have ne := word_ne i
  unfold wrongs at h
  simp only [List.mem_append, List.mem_cons, List.not_mem_nil, or_false] at h
  rcases h with (h | h) | h
  · rcases h with rfl | rfl | rfl | rfl | rfl | rfl | rfl | rfl | rfl | rfl
    · decide
    · decide
    · exact bad_cat (a := wordOf i) (b := []) (.inr (by decide))
    · exact bad_cat (a := []) (b := wordOf i) (.inl (by decide))
    · exact bad_cat (a := wordOf i) (b := 32 :: wordOf i) (.inr (bad_cat (a := []) (b := wordOf i) (.inl (by decide))))
    all_goals decide
  · rcases h with rfl | rfl | rfl | rfl | rfl | rfl | rfl | rfl | rfl | rfl
    · decide
    · decide
    · decide
    · refine bad_sign (w := wordOf i) (r := []) ne (fun m => ?_) (by decide)
      rcases List.mem_append.mp m with m | m
      · exact fr m
      · simp at m
    · exact bad_cat (a := wordOf i) (b := [45]) (.inr (by decide))
    all_goals decide
  · rcases h with rfl | rfl | rfl | rfl | rfl
    · decide +kernel
    · decide +kernel
    · decide +kernel
    · exact bad_cat (a := wordOf i) (b := [49, 10]) (.inr (by decide))
    · refine bad_sign (w := wordOf i) (c := 9) (r := [49]) ne (fun m => ?_) (by decide)
      rcases List.mem_append.mp m with m | m
      · exact fr m
      · simp at m
theorem wrongs_short {i : Int} (hi : inB i = true) (w : List Nat) (h : w ∈ wrongs (wordOf i)) : w.length ≤ 45 := by
  have z := word_len hi
  unfold wrongs at h
  simp only [List.mem_append, List.mem_cons, List.not_mem_nil, or_false] at h
  rcases h with (h | h) | h
  · rcases h with rfl | rfl | rfl | rfl | rfl | rfl | rfl | rfl | rfl | rfl
    all_goals (simp only [List.length_append, List.length_cons, List.length_nil]; omega)
  · rcases h with rfl | rfl | rfl | rfl | rfl | rfl | rfl | rfl | rfl | rfl
    all_goals (simp only [List.length_append, List.length_cons, List.length_nil]; omega)
  · rcases h with rfl | rfl | rfl | rfl | rfl
    all_goals (simp only [List.length_append, List.length_cons, List.length_nil, List.length_replicate]; omega)
def wrongOf (ns : List Int) (c : Int) : List Nat := (wrongs (wordOf (cel ns (c / 25 % (ns.length : Int))))).getD (c % 25).toNat []
def RWrong (K : PySem.W.Frag) (vs : List V) (H : Hp) (v : V) : Prop := ∃ (l : Addr) (ns : List Int) (c : Int), vs = [.ref l, .int c] ∧ SqL K H l (ns.map fun i => V.str (S (wordOf i))) ∧ 1 ≤ ns.length ∧ ns.length ≤ 200 ∧ (∀ i ∈ ns, inB i = true) ∧ v = .str (S (wrongOf ns c))
theorem wrongOf_mem (ns : List Int) (c : Int) : wrongOf ns c ∈ wrongs (wordOf (cel ns (c / 25 % (ns.length : Int)))) := by
  unfold wrongOf
  have z := wrongs_len (wordOf (cel ns (c / 25 % (ns.length : Int))))
  have lt : (c % 25).toNat < (wrongs (wordOf (cel ns (c / 25 % (ns.length : Int))))).length := by rw [z]; omega
  rw [List.getD_eq_getElem?_getD, List.getElem?_eq_getElem lt]
  exact List.getElem_mem lt
def RRef11 (vs : List V) (H : Hp) (v : V) : Prop := ∃ x, vs = [x] ∧ NoLine H x ∧ v = .bl true
def heiV (w : List Nat) : V := match heiW w with
  | some i => .int i
  | none => .non
def RHeiOf (vs : List V) (_ : Hp) (v : V) : Prop := ∃ w : List Nat, vs = [.str (S w)] ∧ w.length ≤ 10000 ∧ v = heiV w
def RAlike (vs : List V) (_ : Hp) (v : V) : Prop := ∃ l : List Nat, vs = [.str (S l)] ∧ l.length ≤ 10000 ∧ v = .bl true
def someSigns : List Nat := ([32, 33, 34, 35, 36] ++ (List.range 55).map (· + 38) ++ [93, 94, 95, 96]) ++ (List.range 30).map (· + 97)
def changedL (l : List Nat) (c m : Int) : List Nat :=
  let s := someSigns.getD (c % 94).toNat 0
  let k := (m % ((l.length : Int) + 1)).toNat
  if c / 94 % 3 = 0 then l.take k ++ [s] ++ l.drop k else if c / 94 % 3 = 1 then l.take k ++ [s] ++ l.drop (k + 1) else l.take k ++ l.drop (k + 1)
def RChanged (vs : List V) (_ : Hp) (v : V) : Prop := ∃ (l : List Nat) (c m : Int), vs = [.str (S l), .int c, .int m] ∧ l.length ≤ 9000 ∧ v = .str (S (changedL l c m))
theorem changed_len (l : List Nat) (c m : Int) : (changedL l c m).length ≤ 2 * l.length + 1 := by
  unfold changedL
  dsimp only
  split
  · simp only [List.length_append, List.length_take, List.length_drop, List.length_cons, List.length_nil]
    omega
  · split
    · simp only [List.length_append, List.length_take, List.length_drop, List.length_cons, List.length_nil]
      omega
    · simp only [List.length_append, List.length_take, List.length_drop]
      omega
theorem height_inB {c k kind tilt : Int} (h0 : 0 ≤ k) (h1 : k ≤ 1000) (h2 : -3 ≤ tilt) (h3 : tilt ≤ 3) : inB (heightOf c k kind tilt) = true := by
  have z : -1000000000000000000 ≤ heightOf c k kind tilt ∧ heightOf c k kind tilt ≤ 1000000000000000000 := by
    unfold heightOf
    split
    · omega
    · split
      · have : tilt = -3 ∨ tilt = -2 ∨ tilt = -1 ∨ tilt = 0 ∨ tilt = 1 ∨ tilt = 2 ∨ tilt = 3 := by omega
        rcases this with rfl | rfl | rfl | rfl | rfl | rfl | rfl <;> omega
      · split
        · omega
        · split
          · have kk : 0 ≤ k * k ∧ k * k ≤ 1000 * 1000 := ⟨Int.mul_nonneg h0 h0, Int.mul_le_mul h1 h1 h0 (by decide)⟩
            generalize k * k = q at kk
            have : tilt % 3 - 1 = -1 ∨ tilt % 3 - 1 = 0 ∨ tilt % 3 - 1 = 1 := by omega
            rcases this with e | e | e <;> rw [e] <;> omega
          · omega
  unfold inB
  rw [decide_eq_true z.1, decide_eq_true z.2]
  rfl
theorem landOf_inB {ns : List Int} {most : Int} (h1 : 1 ≤ most) (h2 : most ≤ 100) : ∀ i ∈ landOf ns most, inB i = true := fun i hi => by
  unfold landOf at hi
  obtain ⟨k, hk, rfl⟩ := List.mem_map.mp hi
  have := List.mem_range.mp hk
  have z := Int.emod_lt_of_pos (cel ns 0) (b := most) (by omega)
  refine height_inB (by omega) (by omega) ?_ ?_ <;> unfold tiltOf <;> omega
theorem longerOf_inB {ns land : List Int} {most many : Int} (h : (land.length : Int) + many ≤ 1000) (hl : ∀ i ∈ land, inB i = true) : ∀ i ∈ longerOf ns land most many, inB i = true := fun i hi => by
  unfold longerOf at hi
  rcases List.mem_append.mp hi with hi | hi
  · exact hl i hi
  · obtain ⟨k, hk, rfl⟩ := List.mem_map.mp hi
    have := List.mem_range.mp hk
    unfold moreOf
    refine height_inB (by omega) (by omega) ?_ ?_ <;> unfold tiltOf <;> omega
end
end Hx
namespace Hx
open PySem PySem.Spec PyProof.Rows L2 SX Evl
theorem figs_len (w : List Nat) : (figs w).length ≤ w.length := by
  unfold figs
  split
  · rw [List.length_tail]
    omega
  · exact Nat.le_refl _
theorem map_some_inj {as bs : List Int} (h : as.map some = bs.map some) : as = bs := by
  have z := congrArg (List.filterMap id) h
  rw [List.filterMap_map, List.filterMap_map] at z
  have e : ∀ xs : List Int, xs.filterMap (id ∘ some) = xs := fun xs => by
    induction xs with
    | nil => rfl
    | cons x r ih => exact congrArg (x :: ·) ih
  rwa [e, e] at z
theorem words_pos (l : List Nat) : 1 ≤ (wordsOf l).length := by
  have z := split_pos (S l) (S [32])
  rw [split_S (by decide) (by decide), List.length_map] at z
  exact z
theorem kb_str_str : kitB "str" "str" = some true := by decide +kernel
theorem kb_list_str : kitB "list" "str" = some false := by decide +kernel
theorem kb_NoneType_str : kitB "NoneType" "str" = some false := by decide +kernel
theorem kb_int_str : kitB "int" "str" = some false := by decide +kernel
/-- a word's number -/
def wordV : V → Option V
  | .str s => if goodW s.cps.toList = true then some (.int (numW s.cps.toList)) else none
  | _ => none
theorem wordV_some {u : List Nat} {y : V} (h : wordV (.str (S u)) = some y) : goodW u = true ∧ y = .int (numW u) := by
  have h : (if goodW u = true then some (V.int (numW u)) else none) = some y := h
  split at h
  · exact ⟨by assumption, (Option.some.inj h).symm⟩
  · cases h
theorem wordV_none {u : List Nat} (h : wordV (.str (S u)) = none) : goodW u = false := by
  have h : (if goodW u = true then some (V.int (numW u)) else none) = none := h
  split at h
  · cases h
  · exact Bool.not_eq_true _ ▸ by assumption
theorem wordV_good {u : List Nat} (h : (wordV (.str (S u))).isSome = true) : goodW u = true := by
  cases k : wordV (.str (S u)) with
  | none => rw [k] at h; cases h
  | some y => exact (wordV_some k).1
theorem words_nums : ∀ ws : List (List Nat), (∀ u ∈ ws, goodW u = true) → (ws.map fun u => V.str (S u)).filterMap wordV = (ws.map numW).map V.int
  | [], _ => rfl
  | u :: r, h => by
    have e : wordV (.str (S u)) = some (.int (numW u)) := by
      show (if goodW u = true then some (V.int (numW u)) else none) = _
      rw [if_pos (h u (List.mem_cons_self ..))]
    rw [List.map_cons, List.filterMap_cons, e]
    exact congrArg (V.int (numW u) :: ·) (words_nums r fun x hx => h x (List.mem_cons_of_mem _ hx))
section
variable {σ : L2.St} {H : Hp} {ta : TA} {vs : List V} {C : Addr} {Q : VK} {RE : List V → Hp → Addr → Prop} {RV : List V → Hp → V → Prop} {E : XK}
theorem rx_cal0 (h : EvA ta σ H vs) (hs : ∀ H1, Ex H H1 → RE vs H1 C) (k : ∀ H1, Ex H H1 → E (.ref C) none H1) : tCall (spVX RV RE) [] E ta σ H Q := h H (Ex.refl H) _ fun H2 e2 => .inr ⟨C, by rw [List.append_nil]; exact hs H2 e2, fun H3 e3 => k H3 (e2.trans e3)⟩
end
end Hx
namespace Hx
open PySem PySem.Spec PyProof.Rows L2 SX Evl
/-- what is handed back is what a def tells of one argument -/
theorem t_ret1 {σ : L2.St} {H : Hp} {D : Ends} {te : TE} {sp : Sp} {E : L2.St → XK} (h : te σ H (fun x H1 => sp [x] H1 D.rt (E σ))) : tRet (tCallS sp E (tCons te tNil)) D σ H := h
end Hx
namespace Hx
open PySem PySem.Spec PyProof.Rows L2 SX Evl
theorem inB_abs {i : Int} (h : inB i = true) : i.natAbs < 10 ^ 19 := by
  unfold inB at h
  rw [Bool.and_eq_true, decide_eq_true_eq, decide_eq_true_eq] at h
  omega
/-- figures of n found so far, from behind: g; what is left: r -/
def FigP (n r : Nat) (g : List Nat) : Prop := (g = [] ∧ r = n) ∨ (g ≠ [] ∧ r ≤ n ∧ ((r = 0 ∧ TL.numL n = g) ∨ (0 < r ∧ TL.numL n = TL.numL r ++ g)))
theorem FigP.le {n r : Nat} {g : List Nat} (h : FigP n r g) : r ≤ n := by
  rcases h with ⟨_, h⟩ | ⟨_, h, _⟩
  · omega
  · exact h
theorem FigP.len {n r : Nat} {g : List Nat} (h : FigP n r g) (hn : n < 10 ^ 19) : g.length ≤ 19 := by
  have z : (TL.numL n).length ≤ 19 := TL.numL_len (by decide) hn
  rcases h with ⟨h, _⟩ | ⟨_, _, ⟨_, h⟩ | ⟨_, h⟩⟩
  · rw [h]
    exact Nat.zero_le _
  · rw [← h]
    exact z
  · rw [h, List.length_append] at z
    omega
theorem FigP.step {n r : Nat} {g : List Nat} (h : FigP n r g) (hr : 0 < r ∨ g = []) : FigP n (r / 10) ((48 + r % 10) :: g) := by
  refine .inr ⟨List.cons_ne_nil _ _, by have := h.le; omega, ?_⟩
  have key : TL.numL n = TL.numL r ++ g := by
    rcases h with ⟨h, e⟩ | ⟨ne, _, ⟨z, _⟩ | ⟨_, e⟩⟩
    · rw [h, e, List.append_nil]
    · rcases hr with hr | hr
      · omega
      · exact absurd hr ne
    · exact e
  by_cases k : r < 10
  · refine .inl ⟨by omega, ?_⟩
    rw [key, TL.numL_lt k, show r % 10 = r by omega]
    rfl
  · refine .inr ⟨by omega, ?_⟩
    rw [key, TL.numL_step (n := r) (by omega), List.append_assoc]
    rfl
theorem FigP.done {n r : Nat} {g : List Nat} (h : FigP n r g) (hr : r = 0) (hg : g ≠ []) : g = TL.numL n := by
  rcases h with ⟨h, _⟩ | ⟨_, _, ⟨_, h⟩ | ⟨h, _⟩⟩
  · exact absurd h hg
  · exact h.symm
  · omega
theorem rv_ten {H : Hp} {k : Nat} (h : k < 10) : RV rIxS (.str (S ten)) (.int (k : Int)) H (.str (S [48 + k])) := by
  have z : ∀ k : Fin 10, atI (S ten).cps.toList ((k.val : Nat) : Int) = some (48 + k.val) := by decide
  exact rv_ixS (w := S ten) (c := 48 + k) (by rw [S_len]; decide) (z ⟨k, h⟩)
end Hx
namespace Hx
open PySem PySem.Spec PyProof.Rows L2 SX Evl
theorem texts_at {ts : List (List Nat)} {i : Int} (h0 : 0 ≤ i) (h : i < (ts.length : Int)) : atI (ts.map fun t => V.str (S t)) i = some (.str (S (ts.getD i.toNat []))) := by
  unfold atI ixN
  rw [if_pos h0, List.length_map, if_pos h]
  show (ts.map fun t => V.str (S t))[i.toNat]? = _
  rw [List.getElem?_map, List.getElem?_eq_getElem (by omega), List.getD_eq_getElem?_getD, List.getElem?_eq_getElem (by omega)]
  rfl
theorem words_at {ns : List Int} {k : Nat} (h : k < ns.length) : atI (ns.map fun i => V.str (S (wordOf i))) (k : Int) = some (.str (S (wordOf (cel ns (k : Int))))) := by
  unfold atI ixN
  rw [if_pos (by omega), List.length_map, if_pos (by omega)]
  show (ns.map fun i => V.str (S (wordOf i)))[((k : Int)).toNat]? = _
  rw [Int.toNat_natCast, List.getElem?_map, List.getElem?_eq_getElem h]
  unfold cel
  rw [List.getD_eq_getElem?_getD, Int.toNat_natCast, List.getElem?_eq_getElem h]
  rfl
theorem cel_mem {ns : List Int} {k : Nat} (h : k < ns.length) : cel ns (k : Int) ∈ ns := by
  unfold cel
  rw [List.getD_eq_getElem?_getD, Int.toNat_natCast, List.getElem?_eq_getElem h]
  exact List.getElem_mem h
end Hx
namespace Hx
open PySem PySem.Spec PyProof.Rows L2 SX Evl
theorem some_len : someSigns.length = 94 := by decide
theorem some_at {i : Int} (h0 : 0 ≤ i) (h : i < 94) : atI (S someSigns).cps.toList i = some (someSigns.getD i.toNat 0) := by
  show atI someSigns i = _
  unfold atI ixN
  rw [if_pos h0, some_len, if_pos (by omega)]
  show someSigns[i.toNat]? = _
  rw [List.getElem?_eq_getElem (by rw [some_len]; omega), List.getD_eq_getElem?_getD, List.getElem?_eq_getElem (by rw [some_len]; omega)]
  rfl
theorem dec_eqI {i j : Int} : decide (V.int i = V.int j) = decide (i = j) := by
  by_cases h : i = j
  · rw [decide_eq_true h, decide_eq_true (congrArg V.int h)]
  · rw [decide_eq_false h, decide_eq_false fun z => h (V.int.inj z)]
end Hx
namespace Hx
open PySem PySem.Spec PyProof.Rows L2 SX Evl
theorem take_one (u : List Nat) (c : Nat) : decide (u.take (1 : Int).toNat = [c]) = decide (u.head? = some c) := by
  cases u with
  | nil => rfl
  | cons a r =>
    show decide ([a] = [c]) = decide (some a = some c)
    by_cases h : a = c
    · subst h
      rw [decide_eq_true rfl, decide_eq_true rfl]
    · rw [decide_eq_false (fun z => h (by cases z; rfl)), decide_eq_false (fun z => h (Option.some.inj z))]
theorem rv_head {H : Hp} {l : List Nat} (h : l ≠ []) (hl : l.length ≤ 100000) : RV rIxS (.str (S l)) (.int 0) H (.str (S [l.headD 0])) := by
  refine rv_ixS (w := S l) (c := l.headD 0) (by rw [S_len]; exact hl) ?_
  cases l with
  | nil => exact absurd rfl h
  | cons a r =>
    show atI (a :: r) 0 = some a
    unfold atI ixN
    rw [if_pos (by decide), if_pos (by rw [List.length_cons]; omega)]
    rfl
theorem lead_head (u : List Nat) (h : figs u ≠ []) : (decide ([(figs u).headD 0] = [48]) && !decide (u = [48])) = leadW u := by
  unfold leadW
  congr 1
  cases k : figs u with
  | nil => exact absurd k h
  | cons a r =>
    show decide ([a] = [48]) = decide (some a = some 48)
    by_cases e : a = 48
    · subst e
      rw [decide_eq_true rfl, decide_eq_true rfl]
    · rw [decide_eq_false (fun z => e (by cases z; rfl)), decide_eq_false (fun z => e (Option.some.inj z))]
theorem dec_natlt {n : Nat} : decide ((19 : Int) < (n : Int)) = decide (19 < n) := by
  by_cases h : 19 < n
  · rw [decide_eq_true h, decide_eq_true (by omega)]
  · rw [decide_eq_false h, decide_eq_false (by omega)]
theorem heiV_bad {u : List Nat} (h : goodW u = false) : heiV u = .non := by
  have e : heiW u = none := by
    unfold heiW
    rw [h]
    rfl
  unfold heiV
  rw [e]
theorem heiV_early {u : List Nat} (hb : (decide (figs u = []) || (decide (19 < (figs u).length) || leadW u)) = true) : heiV u = .non := by
  refine heiV_bad ?_
  unfold goodW plainW
  rw [Bool.or_eq_true, Bool.or_eq_true, decide_eq_true_eq, decide_eq_true_eq] at hb
  rcases hb with hb | hb | hb
  · rw [hb]
    rfl
  · rw [decide_eq_false (p := (figs u).length ≤ 19) (by omega), Bool.and_false]
  · rw [hb, Bool.not_true, Bool.and_false, Bool.false_and]
theorem heiV_sign {u : List Nat} {c : Nat} (m : c ∈ figs u) (h : dig c = false) : heiV u = .non := by
  refine heiV_bad ?_
  unfold goodW plainW
  have q : (figs u).all dig = false := by
    rw [List.all_eq_false]
    exact ⟨c, m, by rw [h]; exact Bool.false_ne_true⟩
  rw [q, Bool.and_false, Bool.false_and, Bool.false_and]
theorem heiV_good {u : List Nat} (h : goodW u = true) : heiV u = if inB (numW u) = true then .int (numW u) else .non := by
  unfold heiV heiW
  rw [h, Bool.true_and]
  cases inB (numW u) <;> rfl
theorem fold_lt : ∀ (l : List Nat) (a : Nat), l.all dig = true → l.foldl (fun acc c => acc * 10 + (c - 48)) a < (a + 1) * 10 ^ l.length
  | [], a, _ => by simp
  | c :: r, a, h => by
    rw [List.all_cons, Bool.and_eq_true] at h
    have z := fold_lt r (a * 10 + (c - 48)) h.2
    have hc := h.1
    unfold dig at hc
    rw [Bool.and_eq_true, decide_eq_true_eq, decide_eq_true_eq] at hc
    rw [List.foldl_cons, List.length_cons, Nat.pow_succ]
    refine Nat.lt_of_lt_of_le z ?_
    have k : a * 10 + (c - 48) + 1 ≤ (a + 1) * 10 := by omega
    calc (a * 10 + (c - 48) + 1) * 10 ^ r.length ≤ ((a + 1) * 10) * 10 ^ r.length := Nat.mul_le_mul_right _ k
      _ = (a + 1) * (10 ^ r.length * 10) := by rw [Nat.mul_assoc, Nat.mul_comm 10]
theorem digits_small (l : List Nat) (h : l.length ≤ 19) (ad : l.all dig = true) : NumText.digitsVal l < 10 ^ 19 := by
  have z := fold_lt l 0 ad
  have k : (10 : Nat) ^ l.length ≤ 10 ^ 19 := Nat.pow_le_pow_right (by decide) h
  unfold NumText.digitsVal
  omega
end Hx
namespace Hx
open PySem PySem.Spec PyProof.Rows L2 SX Evl
theorem hei_flat (ws : List (List Nat)) : (ws.map heiV).all flatV = true := List.all_eq_true.mpr fun x hx => by
  obtain ⟨u, _, rfl⟩ := List.mem_map.mp hx
  unfold heiV
  cases heiW u <;> rfl
theorem none_bad (l : List Nat) : inV .non ((wordsOf l).map heiV) = badL l := by
  unfold inV badL
  rw [List.any_map]
  congr 1
  funext u
  show eqV (heiV u) .non = _
  unfold heiV
  cases heiW u <;> rfl
theorem good_line {l : List Nat} (h : badL l = false) : (wordsOf l).map heiW = ((wordsOf l).map numW).map some ∧ (wordsOf l).map heiV = ((wordsOf l).map numW).map V.int := by
  have k : ∀ u ∈ wordsOf l, heiW u = some (numW u) := fun u hu => by
    have z := List.any_eq_false.mp h u hu
    unfold heiW at z ⊢
    split
    · rfl
    · rename_i g
      rw [if_neg g] at z
      exact absurd rfl z
  refine ⟨(List.map_congr_left (g := some ∘ numW) k).trans List.map_map.symm, (List.map_congr_left (g := V.int ∘ numW) fun u hu => ?_).trans List.map_map.symm⟩
  unfold heiV
  rw [k u hu]
  rfl
end Hx
namespace Hx
open PySem PySem.Spec PyProof.Rows L2
/-- ==, its K given -/
theorem op_eqK {X : Cx} {K : PySem.W.Frag} (hK : X.K = K) (hu : X.A.units + 64 < cLine) : OpR X (compareOp .Eq) (rEqD K) := hK ▸ op_eqD hu
end Hx
namespace Hx
open PySem PySem.Spec PyProof.Rows L2 SX Evl
/-- refused(one of some things) -/
theorem ev_refIx {σ : L2.St} {H : Hp} {K : PySem.W.Frag} {ta : TA} {ti : TE} {E : XK} {i : Int} {P : List V → Hp → Prop} (h : EvAX ta σ H P) (hl : ∀ vs H2, P vs H2 → vs.length ≤ 100000) (hi : Ev ti σ H (.int i)) (hv : ∀ vs H2, P vs H2 → ∃ v, atI vs i = some v ∧ NoLine H2 v) :
    Ev (tCall (spV RRef11) [] E (tCons (tOp (rIxL K) (tLst ta) ti) tNil)) σ H (.bl true) := fun H0 e0 Q q =>
  h H0 e0 _ fun vs H1 e1 p => ⟨sz_of (hl vs H1 p), fun r nr => hi (upd H1 r (.lst vs)) (e0.trans (e1.trans (Ex.new nr))) _ fun H2 e2 => by
    obtain ⟨v, hv, hn⟩ := hv vs H1 p
    exact ⟨r, vs, i, v, rfl, rfl, sq_of (e2 _ _ upd_same), hv, .bl true, ⟨v, rfl, hn.ex ((Ex.new nr).trans e2), rfl⟩, fun H3 e3 => q H3 ((e1.trans ((Ex.new nr).trans e2)).trans e3)⟩⟩
theorem line_heights {ns : List Int} (h : ns ≠ []) (hb : ∀ i ∈ ns, inB i = true) : (wordsOf (TL.joinL [32] (ns.map wordOf))).map heiW = ns.map some := by
  rw [words_heights h, List.map_map]
  exact List.map_congr_left fun i hi => heiW_word (hb i hi)
theorem line_len {ns : List Int} (h : ns.length ≤ 200) (hb : ∀ i ∈ ns, inB i = true) : (TL.joinL [32] (ns.map wordOf)).length ≤ 4200 := by
  have z := join_len (m := 20) (ns.map wordOf) fun u hu => by
    obtain ⟨i, hi, rfl⟩ := List.mem_map.mp hu
    exact word_len (hb i hi)
  rw [List.length_map] at z
  omega
theorem mix_bad {ws : List (List Nat)} {u : List Nat} {k : Nat} (h : badL u = true) : badL (TL.joinL [32] (ws.take k ++ [u] ++ ws.drop (k + 1))) = true := bad_join (w := u) (by simp) h
theorem mix_len {ns : List Int} {u : List Nat} {k : Nat} (hk : k < ns.length) (h : ns.length ≤ 200) (hb : ∀ i ∈ ns, inB i = true) (hu : u.length ≤ 45) : (TL.joinL [32] ((ns.map wordOf).take k ++ [u] ++ (ns.map wordOf).drop (k + 1))).length ≤ 9200 ∧ ((ns.map wordOf).take k ++ [u] ++ (ns.map wordOf).drop (k + 1)).length ≤ 200 ∧ ∀ x ∈ (ns.map wordOf).take k ++ [u] ++ (ns.map wordOf).drop (k + 1), x.length ≤ 45 := by
  have a : ∀ x ∈ (ns.map wordOf).take k ++ [u] ++ (ns.map wordOf).drop (k + 1), x.length ≤ 45 := fun x hx => by
    have w20 : ∀ y ∈ ns.map wordOf, y.length ≤ 45 := fun y hy => by
      obtain ⟨i, hi, rfl⟩ := List.mem_map.mp hy
      have := word_len (hb i hi)
      omega
    rcases List.mem_append.mp hx with hx | hx
    · rcases List.mem_append.mp hx with hx | hx
      · exact w20 x (List.mem_of_mem_take hx)
      · rw [List.mem_singleton.mp hx]
        exact hu
    · exact w20 x (List.mem_of_mem_drop hx)
  have b : ((ns.map wordOf).take k ++ [u] ++ (ns.map wordOf).drop (k + 1)).length ≤ 200 := by
    rw [List.length_append, List.length_append, List.length_take, List.length_drop, List.length_map, List.length_cons, List.length_nil]
    omega
  have z := join_len (m := 45) _ a
  refine ⟨by omega, b, a⟩
theorem sevens : (TL.joinL [32] (List.replicate 201 [55])).length ≤ 10000 ∧ 200 < (wordsOf (TL.joinL [32] (List.replicate 201 [55]))).length := by
  have e : wordsOf (TL.joinL [32] (List.replicate 201 [55])) = List.replicate 201 [55] := SX.spl_join (by decide) fun p hp => by
    rw [List.eq_of_mem_replicate hp]
    decide
  rw [e]
  refine ⟨?_, by rw [List.length_replicate]; decide⟩
  have z := join_len (m := 1) (List.replicate 201 [55]) fun x hx => by rw [List.eq_of_mem_replicate hx]; decide
  rw [List.length_replicate] at z
  omega
end Hx
local macro_rules | `(tactic| walk_at "as") => `(tactic| with_reducible assumption)
local macro_rules | `(tactic| walk_at "sq") => `(tactic| first
  | (with_reducible assumption)
  | ((with_reducible apply Evl.sq_of); with_reducible assumption)
  | ((with_reducible apply Evl.st_of); with_reducible assumption)
  | ((with_reducible apply Evl.ex_l); (with_reducible assumption); (walk_at "sq"))
  | ((with_reducible apply Evl.ex_t); (with_reducible assumption); (walk_at "sq")))
local macro_rules | `(tactic| walk_at "hp") => `(tactic| first
  | (with_reducible assumption)
  | (with_reducible exact L2.upd_same)
  | ((with_reducible apply Hx.ex_at); (with_reducible assumption); (walk_at "hp")))
local macro_rules | `(tactic| walk_at "ex") => `(tactic| first
  | (with_reducible assumption)
  | (with_reducible exact Evl.Ex.refl _)
  | ((with_reducible apply Hx.ex_step); (with_reducible assumption); (walk_at "ex")))
local macro_rules | `(tactic| walk_at "sd") => `(tactic| first
  | (with_reducible assumption)
  | omega
  | (dsimp only; omega)
  | (refine Or.inr ⟨?_, ?_⟩ <;> omega)
  | (refine Or.inl ⟨?_, ?_⟩ <;> omega)
  | (refine ⟨?_, ?_⟩ <;> omega)
  | (refine ⟨?_, ?_, ?_⟩ <;> decide))
local macro_rules | `(tactic| walk_at "ix") => `(tactic| first
  | (with_reducible assumption)
  | ((with_reducible refine Hx.getD_ix ?_ ?_) <;> omega)
  | rfl)
local macro_rules | `(tactic| walk_at "rv") => `(tactic| first
  | (with_reducible exact Evl.rv_I0)
  | ((with_reducible apply Evl.rv_I); walk_at "sd")
  | ((with_reducible refine Evl.rv_eq ?_); rfl)
  | ((with_reducible refine Evl.rv_ne ?_); rfl)
  | (with_reducible exact Hx.rv_isN)
  | (with_reducible exact Hx.rv_notN)
  | ((with_reducible apply Evl.rv_ixL); (walk_at "sq"); (walk_at "ix"))
  | ((with_reducible apply Evl.rv_ixT); (walk_at "sq"); (walk_at "ix"))
  | ((with_reducible apply Hx.rv_eqI); (walk_at "sq"); (walk_at "sq"))
  | ((with_reducible apply Hx.rv_neI); (walk_at "sq"); (walk_at "sq")))
local macro_rules | `(tactic| walk_at "rc") => `(tactic| first
  | (with_reducible exact Hx.rc_min)
  | (with_reducible exact Hx.rc_max)
  | (with_reducible exact Hx.rc_intb)
  | ((with_reducible apply Hx.rc_len); walk_at "sq")
  | ((with_reducible apply Hx.rc_lenT); walk_at "sq")
  | with_reducible exact Hx.rc_isi_int Hx.kb_int_int
  | with_reducible exact Hx.rc_isi_int Hx.kb_int_bool
  | with_reducible exact Hx.rc_isi_bl Hx.kb_bool_int
  | with_reducible exact Hx.rc_isi_bl Hx.kb_bool_bool
  | with_reducible exact Hx.rc_isi_non Hx.kb_NoneType_int
  | with_reducible exact Hx.rc_isi_non Hx.kb_NoneType_bool
  | with_reducible exact Hx.rc_isi_str Hx.kb_str_int
  | with_reducible exact Hx.rc_isi_str Hx.kb_str_bool
  | ((with_reducible apply Hx.rc_isi_lst (e := Hx.kb_list_list)); walk_at "hp")
  | ((with_reducible apply Hx.rc_isi_tup (e := Hx.kb_tuple_tuple)); walk_at "hp")
  | ((with_reducible apply Hx.rc_isi_lst (e := Hx.kb_list_int)); walk_at "hp")
  | ((with_reducible apply Hx.rc_isi_tup (e := Hx.kb_tuple_int)); walk_at "hp")
  | ((with_reducible apply Hx.rc_isi_lst (e := Hx.kb_list_bool)); walk_at "hp")
  | ((with_reducible apply Hx.rc_isi_tup (e := Hx.kb_tuple_bool)); walk_at "hp")
  | ((with_reducible apply Hx.rc_isi_lst (e := Hx.kb_list_tuple)); walk_at "hp")
  | ((with_reducible apply Hx.rc_isi_tup (e := Hx.kb_tuple_list)); walk_at "hp")
  | with_reducible exact Hx.rc_isi_int Hx.kb_int_list
  | with_reducible exact Hx.rc_isi_int Hx.kb_int_tuple)
local macro_rules | `(tactic| walk_at "ea") => `(tactic| first
  | (with_reducible exact Evl.ea_nil)
  | ((with_reducible apply Evl.ea_cons); (walk_at "ev"); (walk_at "ea")))
local macro_rules | `(tactic| walk_at "ev") => `(tactic| first
  | ((with_reducible apply Evl.ev_var); rfl)
  | (with_reducible exact Evl.ev_c)
  | (with_reducible exact Hx.ev_pow18)
  | (with_reducible exact Hx.ev_pow14)
  | (with_reducible exact Hx.ev_pow9)
  | ((with_reducible apply Evl.ev_op); (walk_at "ev"); (walk_at "ev"); (walk_at "rv"))
  | ((with_reducible apply Evl.ev_un); (walk_at "ev"); (with_reducible exact Evl.ru_neg))
  | ((with_reducible apply Evl.ev_cb); (walk_at "ea"); (walk_at "rc"))
  | ((with_reducible apply Evl.ev_notV); walk_at "ev")
  | ((with_reducible apply Evl.ev_andV); (walk_at "ev"); (intro _; walk_at "ev"))
  | ((with_reducible apply Evl.ev_orV); (walk_at "ev"); (intro _; walk_at "ev"))
  | walk_at "cal")
local macro_rules | `(tactic| walk_at "et") => `(tactic| first
  | ((with_reducible apply Evl.et_test); walk_at "ev")
  | ((with_reducible apply Evl.et_B); walk_at "ev")
  | ((with_reducible apply Evl.et_not); walk_at "et")
  | ((with_reducible apply Evl.et_and); (walk_at "et"); (intro _; walk_at "et"))
  | ((with_reducible apply Evl.et_or); (walk_at "et"); (intro _; walk_at "et")))
local macro_rules | `(tactic| walk_at "eu") => `(tactic| first
  | ((with_reducible apply Evl.eu_tup); (walk_at "ea"); (exact Nat.le_of_ble_eq_true rfl))
  | ((with_reducible apply Evl.el_lst); (walk_at "ea"); (exact Nat.le_of_ble_eq_true rfl))
  | ((with_reducible apply Evl.el_cb); (walk_at "ea"); ((with_reducible apply Hx.rcl_list); walk_at "sq"))
  | walk_at "calu")
local macro_rules | `(tactic| walk_at "st") => `(tactic| (try dsimp only [List.set]))
local macro_rules | `(tactic| walk_at "wi") => `(tactic| (try dsimp only [List.map, L2.wipe, List.set]))
local macro_rules | `(tactic| walk_at "om") => `(tactic| first | decide | omega)
local macro_rules | `(tactic| walk_at "cal") => `(tactic| first
  | ((with_reducible apply Hx.ev_cel); (walk_at "ea"); (walk_at "sq"); (walk_at "om"))
  | ((with_reducible apply Hx.ev_whole); (walk_at "ea"))
  | ((with_reducible apply Hx.ev_height); (walk_at "ea"); (walk_at "om"); (walk_at "om"); (walk_at "om"); (walk_at "om"))
  | ((with_reducible apply Hx.ev_steeper); (walk_at "ea"); (walk_at "sq"); (walk_at "sq"); (omega); (omega); (omega); (omega)))
local macro_rules | `(tactic| walk_at "calu") => `(tactic| first
  | ((with_reducible apply Hx.eu_slope); (walk_at "ea"); (walk_at "sq"); (omega); (omega); (omega); (omega))
  | ((with_reducible apply Hx.el_land); (walk_at "ea"); (walk_at "sq"); (walk_at "om"); (walk_at "om"))
  | ((with_reducible apply Hx.el_longer); (walk_at "ea"); (walk_at "sq"); (walk_at "sq"); (walk_at "om"); (walk_at "om"); (walk_at "om"); (walk_at "om")))
local macro_rules | `(tactic| walk_at "ix") => `(tactic| ((with_reducible refine Hx.getD_neg ?_ ?_) <;> omega))
local macro_rules | `(tactic| walk_at "rv") => `(tactic| first
  | (with_reducible exact Hx.rv_isB)
  | (with_reducible exact Hx.rv_notB))
local macro_rules | `(tactic| walk_at "rc") => `(tactic| first
  | (with_reducible exact Hx.rc_abs)
  | (with_reducible exact Hx.rc_isi_non Hx.kb_NoneType_list)
  | (with_reducible exact Hx.rc_isi_str Hx.kb_str_list)
  | ((with_reducible apply Hx.rc_isi_dic (e := Hx.kb_dict_list)); walk_at "hp"))
local macro_rules | `(tactic| walk_at "rc") => `(tactic| first
  | ((with_reducible apply Hx.rc_isZ); with_reducible assumption)
  | ((with_reducible apply Hx.rc_isZt); with_reducible assumption))

namespace Hx
open PySem PySem.Spec PyProof.Rows L2 Evl
def topS (i : Nat) : Stmt := PySem.Challenge.pw_hillsight_k11_texts.main.body.getD i (.Pass ⟨0, 0, 0, 0⟩)

section
variable {P : Program} {w : World} {K : PySem.W.Frag} {mg : Str → Option Value} {base : Heap}
abbrev s_law_cell_at : Stmt := topS 22
theorem sc_law_cell_at : FnScope ["_law_script", "_law_k"] ["_law_script", "_law_k"] (defScope s_law_cell_at) := ⟨rfl, rfl, rfl, by decide +kernel, rfl, by decide +kernel, by decide +kernel⟩

theorem ok_cel {f : Addr} {fd : FuncData} (F : Fun K "_law_cell_at" "_law_cell_at" s_law_cell_at f fd) (B : Blt mg) : FnOk P w K mg base CX0 1 f fd ["_law_script", "_law_k"] (spV (RCel K)) := by
  refine F.ok sc_law_cell_at (fun vs H Q E h => ?_) (fun cdv A outer s H vs Q E hr h => ?_)
  · obtain ⟨_, ⟨_, _, _, rfl, _⟩, _⟩ := h
    rfl
  · obtain ⟨v, ⟨l, ns, j, rfl, h0, hs, rfl⟩, q⟩ := h
    refine ⟨_, (pss_cons (ps_if (pt_cmpR op_lt (pv 1) (pe_callB call_len_seq (by rfl) B.m_len PySem.boot_len (pa_cons (pv 0) pa_nil)) (nomark _)) (pss_one (ps_ret (pe_ix ix_list (pv 0) (pv 1) (fun _ _ => rfl)))) pss_nil)
      (pss_one (ps_ret pe_int))), ?_⟩
    try dsimp only [cxOf, Cx.nox, Cx.wish]
    have hl : (ns.map V.int).length = ns.length := List.length_map ..
    apply q_when (b := decide (j < ((ns.map V.int).length : Int)))
    · walk_at "et"
    · intro hb H1 e1
      have hb := of_decide_eq_true hb
      rw [hl] at hb
      apply s_ret
      · walk_at "ev"
      · intro H2 e2
        exact q H2 (by walk_at "ex")
    · intro hb H1 e1
      have hb := of_decide_eq_false hb
      rw [hl] at hb
      apply s_ret
      · walk_at "ev"
      · intro H2 e2
        have e : cel ns j = 0 := by
          unfold cel
          rw [List.getD_eq_getElem?_getD, List.getElem?_eq_none (by omega)]
          rfl
        rw [e] at q
        exact q H2 (by walk_at "ex")
abbrev s_law_whole : Stmt := topS 21
theorem sc_law_whole : FnScope ["_law_found"] ["_law_found"] (defScope s_law_whole) := ⟨rfl, rfl, rfl, by decide +kernel, rfl, by decide +kernel, by decide +kernel⟩

theorem ok_whole {f : Addr} {fd : FuncData} (F : Fun K "_law_whole" "_law_whole" s_law_whole f fd) (B : Blt mg) : FnOk P w K mg base CX0 1 f fd ["_law_found"] (spV RWhole) := by
  refine F.ok sc_law_whole (fun vs H Q E h => ?_) (fun cdv A outer s H vs Q E hr h => ?_)
  · obtain ⟨_, ⟨_, rfl, _⟩, _⟩ := h
    rfl
  · obtain ⟨v, ⟨x, rfl, hx⟩, q⟩ := h
    refine ⟨_, (pss_one (ps_ret (pe_and (pe_callB call_isi (by rfl) B.m_isinstance (by decide +kernel) (pa_cons (pv 0) (pa_cons (pe_bltn (v := .ty "int") (by rfl) B.m_int (by decide +kernel) rfl) pa_nil))) (pe_one (pe_not (pe_callB call_isi (by rfl) B.m_isinstance (by decide +kernel) (pa_cons (pv 0) (pa_cons (pe_bltn (v := .ty "bool") (by rfl) B.m_bool (by decide +kernel) rfl) pa_nil)))))))), ?_⟩
    try dsimp only [cxOf, Cx.nox, Cx.wish]
    rcases hx with ⟨⟨i, rfl⟩, rfl⟩ | ⟨rfl, rfl⟩ | ⟨⟨b, rfl⟩, rfl⟩ | ⟨⟨b, rfl⟩, rfl⟩
    all_goals (
      apply s_ret
      · walk_at "ev"
      · intro H2 e2
        exact q H2 (by walk_at "ex"))
abbrev s_law_height_by : Stmt := topS 23
theorem sc_law_height_by : FnScope ["_law_cell", "_law_k", "_law_kind", "_law_tilt", "_law_far"] ["_law_cell", "_law_k", "_law_kind", "_law_tilt"] (defScope s_law_height_by) := ⟨rfl, rfl, rfl, by decide +kernel, rfl, by decide +kernel, by decide +kernel⟩

theorem ok_height {f : Addr} {fd : FuncData} (F : Fun K "_law_height_by" "_law_height_by" s_law_height_by f fd) : FnOk P w K mg base CX0 1 f fd ["_law_cell", "_law_k", "_law_kind", "_law_tilt"] (spV RHeight) := by
  refine F.ok sc_law_height_by (fun vs H Q E h => ?_) (fun cdv A outer s H vs Q E hr h => ?_)
  · obtain ⟨_, ⟨_, _, _, _, rfl, _⟩, _⟩ := h
    rfl
  · obtain ⟨v, ⟨c, k, kind, tilt, rfl, h1, h2, h3, h4, rfl⟩, q⟩ := h
    refine ⟨_, (pss_cons (ps_set (i := 4) sc_law_height_by.nd rfl (Or.inl rfl) (pe_op op_pow pe_int pe_int))
      (pss_cons (ps_if (pt_cmpR op_eq (pv 2) pe_int (nomark _)) (pss_one (ps_ret (pe_op op_sub (pe_op op_mod (pv 0) pe_int) pe_int))) pss_nil)
      (pss_cons (ps_if (pt_cmpR op_eq (pv 2) pe_int (nomark _)) (pss_one (ps_ret (pe_op op_add (pe_op op_mul (pv 3) (pv 1)) (pe_op op_mod (pv 0) pe_int)))) pss_nil)
      (pss_cons (ps_if (pt_cmpR op_eq (pv 2) pe_int (nomark _)) (pss_one (ps_ret (pe_op op_sub (pe_op op_mod (pe_op op_mul (pv 0) pe_int) (pe_op op_add (pe_op op_mul pe_int (pv 4)) pe_int)) (pv 4)))) pss_nil)
      (pss_cons (ps_if (pt_cmpR op_eq (pv 2) pe_int (nomark _)) (pss_one (ps_ret (pe_op op_add (pe_op op_mul (pe_op op_mul (pv 1) (pv 1)) (pe_op op_sub (pe_op op_mod (pv 3) pe_int) pe_int)) (pe_op op_mod (pv 0) pe_int)))) pss_nil)
      (pss_one (ps_ret (pe_op op_sub (pv 4) (pe_op op_mod (pv 0) pe_int))))))))), ?_⟩
    try dsimp only [cxOf, Cx.nox, Cx.wish]
    refine q_asg (v := .int 1000000000000000000) (by walk_at "ev") fun H1 e1 => ?_
    unfold heightOf at q
    apply q_when
    · walk_at "et"
    · intro hb H2 e2
      rw [if_pos (V.int.inj (of_decide_eq_true hb))] at q
      apply s_ret
      · walk_at "ev"
      · exact fun H3 e3 => q H3 (by walk_at "ex")
    intro hb H2 e2
    rw [if_neg (fun z => of_decide_eq_false hb (congrArg V.int z))] at q
    apply q_when
    · walk_at "et"
    · intro hb H3 e3
      rw [if_pos (V.int.inj (of_decide_eq_true hb))] at q
      apply s_ret
      · walk_at "ev"
      · exact fun H3 e3 => q H3 (by walk_at "ex")
    intro hb H3 e3
    rw [if_neg (fun z => of_decide_eq_false hb (congrArg V.int z))] at q
    apply q_when
    · walk_at "et"
    · intro hb H4 e4
      rw [if_pos (V.int.inj (of_decide_eq_true hb))] at q
      apply s_ret
      · walk_at "ev"
      · exact fun H3 e3 => q H3 (by walk_at "ex")
    intro hb H4 e4
    rw [if_neg (fun z => of_decide_eq_false hb (congrArg V.int z))] at q
    apply q_when
    · walk_at "et"
    · intro hb H5 e5
      rw [if_pos (V.int.inj (of_decide_eq_true hb))] at q
      apply s_ret
      · walk_at "ev"
      · exact fun H3 e3 => q H3 (by walk_at "ex")
    intro hb H5 e5
    rw [if_neg (fun z => of_decide_eq_false hb (congrArg V.int z))] at q
    apply s_ret
    · walk_at "ev"
    · exact fun H3 e3 => q H3 (by walk_at "ex")
abbrev s_law_land_by : Stmt := topS 25
theorem sc_law_land_by : FnScope ["_law_script", "_law_most", "_law_head", "_law_size", "_law_kind", "_law_tilt", "_law_k"] ["_law_script", "_law_most"] (defScope s_law_land_by) := ⟨rfl, rfl, rfl, by decide +kernel, rfl, by decide +kernel, by decide +kernel⟩

theorem ok_land_by {f : Addr} {fd : FuncData} (F : Fun K "_law_land_by" "_law_land_by" s_law_land_by f fd) (B : Blt mg) (C__law_cell_at : Cal P w K mg base "_law_cell_at" 1 ["_law_script", "_law_k"] (spV (RCel K))) (C__law_height_by : Cal P w K mg base "_law_height_by" 1 ["_law_cell", "_law_k", "_law_kind", "_law_tilt"] (spV RHeight)) :
    FnOk P w K mg base CX0 2 f fd ["_law_script", "_law_most"] (spL (RLand K)) := by
  refine F.ok sc_law_land_by (fun vs H Q E h => ?_) (fun cdv A outer s H vs Q E hr h => ?_)
  · obtain ⟨_, ⟨_, _, _, rfl, _⟩, _⟩ := h
    rfl
  · obtain ⟨v, ⟨l, ns, most, rfl, h1, h2, hs, rfl⟩, q⟩ := h
    refine ⟨_, (pss_cons (ps_set (i := 2) sc_law_land_by.nd rfl (Or.inl rfl) (pe_cal C__law_cell_at hr (pa_cons (pv 0) (pa_cons pe_int pa_nil))))
      (pss_cons (ps_set (i := 3) sc_law_land_by.nd rfl (Or.inl rfl) (pe_op op_add pe_int (pe_op op_mod (pv 2) (pv 1))))
      (pss_cons (ps_set (i := 4) sc_law_land_by.nd rfl (Or.inr rfl) (pe_op op_mod (pe_op op_fdiv (pv 2) (pv 1)) pe_int))
      (pss_cons (ps_set (i := 5) sc_law_land_by.nd rfl (Or.inr rfl) (pe_op op_sub (pe_op op_mod (pe_op op_fdiv (pe_op op_fdiv (pv 2) (pv 1)) pe_int) pe_int) pe_int))
      (pss_one (ps_ret (pe_lc (own := [("_law_k", 6)]) (g := gName 6) (tt := tYes) rfl sc_law_land_by.nd (pi_range1 (by rfl) B.m_range (pa_cons (pv 3) pa_nil)) (blkOk_by (N := ["_law_script", "_law_most", "_law_head", "_law_size", "_law_kind", "_law_tilt", "_law_k"]) (sc := defScope s_law_land_by) (by decide +kernel)) (fun _ _ _ _ _ => (pg_name (i := 6) sc_law_land_by.nd rfl (Or.inl rfl))) (fun _ _ _ _ _ => pts_nil) (fun _ _ _ _ _ => (pe_cal C__law_height_by hr (pa_cons (pe_cal C__law_cell_at hr (pa_cons (pv 0) (pa_cons (pe_op op_add pe_int (pv 6)) pa_nil))) (pa_cons (pv 6) (pa_cons (pv 4) (pa_cons (pv 5) pa_nil))))))))))))), ?_⟩
    try dsimp only [cxOf, Cx.nox, Cx.wish]
    apply q_asg
    · walk_at "ev"
    intro H1 e1
    obtain ⟨n, hn⟩ : ∃ n, 1 + cel ns 0 % most = n := ⟨_, rfl⟩
    refine q_asg (v := .int n) (ev_int (by walk_at "ev") hn) fun H2 e2 => ?_
    have n1 : 1 ≤ n := by have := Int.emod_nonneg (cel ns 0) (b := most) (by omega); omega
    have n2 : n ≤ 100 := by have := Int.emod_lt_of_pos (cel ns 0) (b := most) (by omega); omega
    refine q_asg (v := .int (kindOf ns most)) (ev_int (by walk_at "ev") (by rfl)) fun H3 e3 => ?_
    refine q_asg (v := .int (tiltOf ns most)) (ev_int (by walk_at "ev") (by rfl)) fun H4 e4 => ?_
    have t1 : -3 ≤ tiltOf ns most ∧ tiltOf ns most ≤ 3 := by unfold tiltOf; omega
    refine s_retL (xs := given n.toNat (fun _ => true) (fun i => .int (heightOf (cel ns (3 + (i : Int))) i (kindOf ns most) (tiltOf ns most)))) ?_ ?_
    · refine el_lcR1 (n := n) (fun _ => true) _ (by walk_at "ea") ⟨by omega, by omega⟩ (fun _ => rfl) (fun _ _ _ _ => et_yes) ?_
      intro i H5 e5 hi _
      walk_at "ev"
    · intro p H5 hp e5 h5
      refine q p H5 ?_ (by walk_at "ex") ?_
      · exact fresh_back (by walk_at "ex") hp
      · rw [h5, given_all (g := fun i => heightOf (cel ns (3 + (i : Int))) i (kindOf ns most) (tiltOf ns most)) (fun _ => rfl), ← hn]
        rfl
abbrev s_law_longer : Stmt := topS 24
theorem sc_law_longer : FnScope ["_law_script", "_law_land", "_law_most", "_law_many", "_law_head", "_law_tilt", "_law_found", "_law_k", "_law_cell"] ["_law_script", "_law_land", "_law_most", "_law_many"] (defScope s_law_longer) := ⟨rfl, rfl, rfl, by decide +kernel, rfl, by decide +kernel, by decide +kernel⟩

theorem ok_longer {f : Addr} {fd : FuncData} (F : Fun K "_law_longer" "_law_longer" s_law_longer f fd) (B : Blt mg) (C__law_cell_at : Cal P w K mg base "_law_cell_at" 1 ["_law_script", "_law_k"] (spV (RCel K))) (C__law_height_by : Cal P w K mg base "_law_height_by" 1 ["_law_cell", "_law_k", "_law_kind", "_law_tilt"] (spV RHeight)) :
    FnOk P w K mg base CX0 2 f fd ["_law_script", "_law_land", "_law_most", "_law_many"] (spL (RLonger K)) := by
  refine F.ok sc_law_longer (fun vs H Q E h => ?_) (fun cdv A outer s H vs Q E hr h => ?_)
  · obtain ⟨_, ⟨_, _, _, _, _, _, rfl, _⟩, _⟩ := h
    rfl
  · obtain ⟨v, ⟨l, b, ns, land, most, many, rfl, h1, h2, h3, h4, hs, hb, rfl⟩, q⟩ := h
    refine ⟨_, (pss_cons (ps_set (i := 4) sc_law_longer.nd rfl (Or.inl rfl) (pe_cal C__law_cell_at hr (pa_cons (pv 0) (pa_cons pe_int pa_nil))))
      (pss_cons (ps_set (i := 5) sc_law_longer.nd rfl (Or.inl rfl) (pe_op op_sub (pe_op op_mod (pe_op op_fdiv (pe_op op_fdiv (pv 4) (pv 2)) pe_int) pe_int) pe_int))
      (pss_cons (ps_set (i := 6) sc_law_longer.nd rfl (Or.inl rfl) (pe_callTy call_list_of (by rfl) B.m_list (by decide +kernel) (pa_cons (pv 1) pa_nil)))
      (pss_cons (ps_for PassesOwn.never rfl (pi_range1 (by rfl) B.m_range (pa_cons (pv 3) pa_nil)) (pg_name (i := 7) sc_law_longer.nd rfl (Or.inl rfl)) (pss_cons (ps_set (i := 8) sc_law_longer.nd rfl (Or.inl rfl) (pe_op op_mul (pe_cal C__law_cell_at hr (pa_cons (pv 0) (pa_cons (pe_op op_add pe_int (pe_op op_mod (pv 7) pe_int)) pa_nil))) (pe_op op_add (pv 7) pe_int)))
      (pss_one (ps_expr (pe_bm PySem.F.plainAttrs_list PySem.F.slot_list_append PySem.F.type_list_append mt_append (pv 6) (pa_cons (pe_cal C__law_height_by hr (pa_cons (pv 8) (pa_cons (pe_callB call_len_seq (by rfl) B.m_len PySem.boot_len (pa_cons (pv 6) pa_nil)) (pa_cons (pe_op op_mod (pe_op op_fdiv (pv 4) (pv 2)) pe_int) (pa_cons (pv 5) pa_nil))))) pa_nil))))))
      (pss_one (ps_ret (pv 6))))))), ?_⟩
    try dsimp only [cxOf, Cx.nox, Cx.wish]
    apply q_asg
    · walk_at "ev"
    intro H1 e1
    refine q_asg (v := .int (tiltOf ns most)) (ev_int (by walk_at "ev") (by rfl)) fun H4 e4 => ?_
    have t1 : -3 ≤ tiltOf ns most ∧ tiltOf ns most ≤ 3 := by unfold tiltOf; omega
    refine q_asgL (xs := land.map V.int) (by walk_at "eu") fun lp H5 nl e5 hl => ?_
    have nl' : H lp = none := fresh_back (by walk_at "ex") nl
    refine q_forR1 (n := many) (by walk_at "ea") (by omega) (fun i σ' H' => (Ex H H' ∧ H' lp = some (.lst ((land ++ (List.range i).map (moreOf ns most land.length)).map V.int))) ∧
      ∃ v7 v8, σ' = [some (.ref l), some (.ref b), some (.int most), some (.int many), some (.int (cel ns 0)), some (.int (tiltOf ns most)), some (.ref lp), v7, v8])
      (fun H6 e6 => ⟨⟨by walk_at "ex", by (have z := e6 _ _ hl); (show H6 lp = some (.lst ((land ++ []).map V.int))); (rw [List.append_nil]); exact z⟩, none, none, rfl⟩) ?_ ?_
    · rintro i σ' H6 hi ⟨⟨e6, hl⟩, v7, v8, rfl⟩
      apply q_asg
      · walk_at "ev"
      intro H7 e7
      have hl7 := e7 _ _ hl
      have len : ((land ++ (List.range i).map (moreOf ns most land.length)).map V.int).length = land.length + i := by
        rw [List.length_map, List.length_append, List.length_map, List.length_range]
      have lenI : ((((land ++ (List.range i).map (moreOf ns most land.length)).map V.int).length : Nat) : Int) = (land.length : Int) + (i : Int) := by rw [len]; omega
      refine s_app (v := .int (moreOf ns most land.length i)) hl7 (by walk_at "ev") (ev_int (i := heightOf (cel ns (3 + (i : Int) % 20) * ((i : Int) + 5)) (((land ++ (List.range i).map (moreOf ns most land.length)).map V.int).length : Nat) (cel ns 0 / most % 5) (tiltOf ns most)) (by walk_at "ev") ?_) (by omega) fun H8 e8 => ?_
      · rw [lenI]
        rfl
      · refine ⟨⟨Ex.mut (by walk_at "ex") nl', ?_⟩, _, _, rfl⟩
        have et : land ++ (List.range (i + 1)).map (moreOf ns most land.length) = (land ++ (List.range i).map (moreOf ns most land.length)) ++ [moreOf ns most land.length i] := by
          rw [List.range_succ, List.map_append, List.append_assoc]
          rfl
        rw [upd_same, et, List.map_append (l₁ := land ++ (List.range i).map (moreOf ns most land.length))]
        rfl
    · rintro σ' H6 ⟨⟨e6, hl⟩, v7, v8, rfl⟩
      apply s_ret
      · walk_at "ev"
      · intro H7 e7
        exact q lp H7 nl' (by walk_at "ex") (e7 _ _ hl)
abbrev sis_whole : Stmt := topS 8
theorem scis_whole : FnScope ["number"] ["number"] (defScope sis_whole) := ⟨rfl, rfl, rfl, by decide +kernel, rfl, by decide +kernel, by decide +kernel⟩

theorem ok_is_whole {f : Addr} {fd : FuncData} (F : Fun K "is_whole" "is_whole" sis_whole f fd) (B : Blt mg) : FnOk P w K mg base CX0 1 f fd ["number"] (spV RWholeV) := by
  refine F.ok scis_whole (fun vs H Q E h => ?_) (fun cdv A outer s H vs Q E hr h => ?_)
  · obtain ⟨_, ⟨_, rfl, _⟩, _⟩ := h
    rfl
  · obtain ⟨v, ⟨x, rfl, hx⟩, q⟩ := h
    refine ⟨_, (pss_one (ps_ret (pe_and (pe_callB call_isi (by rfl) B.m_isinstance (by decide +kernel) (pa_cons (pv 0) (pa_cons (pe_bltn (v := .ty "int") (by rfl) B.m_int (by decide +kernel) rfl) pa_nil))) (pe_one (pe_not (pe_callB call_isi (by rfl) B.m_isinstance (by decide +kernel) (pa_cons (pv 0) (pa_cons (pe_bltn (v := .ty "bool") (by rfl) B.m_bool (by decide +kernel) rfl) pa_nil)))))))), ?_⟩
    try dsimp only [cxOf, Cx.nox, Cx.wish]
    rcases hx with ⟨i, rfl, rfl⟩ | ⟨hx, rfl⟩
    · apply s_ret
      · walk_at "ev"
      · intro H2 e2
        exact q H2 (by walk_at "ex")
    cases hx
    all_goals (
      apply s_ret
      · walk_at "ev"
      · intro H2 e2
        exact q H2 (by walk_at "ex"))
abbrev s_is_in_bound : Stmt := topS 13
theorem sc_is_in_bound : FnScope ["height"] ["height"] (defScope s_is_in_bound) := ⟨rfl, rfl, rfl, by decide +kernel, rfl, by decide +kernel, by decide +kernel⟩

theorem ok_inB {f : Addr} {fd : FuncData} (F : Fun K "_is_in_bound" "_is_in_bound" s_is_in_bound f fd) (T : Csts mg) : FnOk P w K mg base CX0 1 f fd ["height"] (spV RInB) := by
  refine F.ok sc_is_in_bound (fun vs H Q E h => ?_) (fun cdv A outer s H vs Q E hr h => ?_)
  · obtain ⟨_, ⟨_, rfl, _⟩, _⟩ := h
    rfl
  · obtain ⟨v, ⟨i, rfl, rfl⟩, q⟩ := h
    obtain ⟨tb, g_BOUND⟩ := T.bound
    refine ⟨_, (pss_one (ps_ret (pe_chain op_le op_le (pe_un un_neg (pe_glob (v := .int 1000000000000000000) (by rfl) g_BOUND ⟨_, rfl⟩)) (pv 0) (pe_glob (v := .int 1000000000000000000) (by rfl) g_BOUND ⟨_, rfl⟩)))), ?_⟩
    try dsimp only [cxOf, Cx.nox, Cx.wish]
    rw [show L2.start ["height"] [.int i] = [some (.int i)] from rfl]
    refine s_ret (v := .bl (decide (-1000000000000000000 ≤ i) && decide (i ≤ 1000000000000000000))) (ev_chain (x := .int (-1000000000000000000)) (ev_int (i := -1000000000000000000) (by walk_at "ev") rfl) (by walk_at "ev") (by walk_at "ev") (by walk_at "rv") (by walk_at "rv")) fun H1 e1 => q H1 e1
abbrev schecked : Stmt := topS 12
theorem scchecked : FnScope ["land", "height"] ["land"] (defScope schecked) := ⟨rfl, rfl, rfl, by decide +kernel, rfl, by decide +kernel, by decide +kernel⟩

theorem ok_checked {f N : Addr} {fd : FuncData} (F : Fun K "checked" "checked" schecked f fd) (B : Blt mg) (T : Csts mg) (X_NoLand : ExK K mg "NoLand" N) (C_is_whole : Cal P w K mg base "is_whole" 1 ["number"] (spV RWholeV)) (C__is_in_bound : Cal P w K mg base "_is_in_bound" 1 ["height"] (spV RInB)) :
    FnOk P w K mg base (L2.CX P w) 2 f fd ["land"] (spLX (RChecked K) (RNoLand N)) := by
  refine F.okX scchecked (fun vs H Q E h => ?_) (fun cdv A outer s H vs Q E hr h => ?_)
  · rcases h with ⟨_, ⟨_, _, rfl, _⟩, _⟩ | ⟨_, ⟨_, rfl, _⟩, _⟩ <;> rfl
  · obtain ⟨tm, g_MOST_HILLS⟩ := T.most
    rcases h with ⟨v, ⟨l, ns, rfl, hl, h1, h2, h3, rfl⟩, q⟩ | ⟨C, ⟨x, rfl, hb, rfl⟩, q⟩
    · refine ⟨_, (pss_cons (ps_if (pt_not (pt_val (pe_callB call_isi (by rfl) B.m_isinstance (by decide +kernel) (pa_cons (pv 0) (pa_cons (pe_bltn (v := .ty "list") (by rfl) B.m_list (by decide +kernel) rfl) pa_nil))))) (pss_one (ps_raise rfl (takes_of rfl rfl rfl rfl) (pmk_own PySem.F.excBase_ValueError X_NoLand.x X_NoLand.g X_NoLand.k (raises_own X_NoLand.b X_NoLand.t) (by rfl)))) pss_nil)
      (pss_cons (ps_if (PW.pt (pw_or (pt_cmpR op_lt (pe_callB call_len_seq (by rfl) B.m_len PySem.boot_len (pa_cons (pv 0) pa_nil)) pe_int (nomark _)) (pw_or1 (pt_cmpR op_gt (pe_callB call_len_seq (by rfl) B.m_len PySem.boot_len (pa_cons (pv 0) pa_nil)) (pe_glob (v := .int 200) (by rfl) g_MOST_HILLS ⟨_, rfl⟩) (nomark _))))) (pss_one (ps_raise rfl (takes_of rfl rfl rfl rfl) (pmk_own PySem.F.excBase_ValueError X_NoLand.x X_NoLand.g X_NoLand.k (raises_own X_NoLand.b X_NoLand.t) (by rfl)))) pss_nil)
      (pss_cons (ps_for (passes_of rfl) rfl (pi_list (pv 0)) (pg_name (i := 1) scchecked.nd rfl (Or.inl rfl)) (pss_one (ps_if (PW.pt (pw_or (pt_not (pt_val (pe_cal C_is_whole hr (pa_cons (pv 1) pa_nil)))) (pw_or1 (pt_not (pt_val (pe_cal C__is_in_bound hr (pa_cons (pv 1) pa_nil))))))) (pss_one (ps_raise rfl (takes_of rfl rfl rfl rfl) (pmk_own PySem.F.excBase_ValueError X_NoLand.x X_NoLand.g X_NoLand.k (raises_own X_NoLand.b X_NoLand.t) (by rfl)))) pss_nil)))
      (pss_one (ps_ret (pe_callTy call_list_of (by rfl) B.m_list (by decide +kernel) (pa_cons (pv 0) pa_nil))))))), ?_⟩
      try dsimp only [cxOf, Cx.nox, Cx.wish]
      rw [show L2.start ["land", "height"] [.ref l] = [some (.ref l), none] from rfl]
      have hll : (ns.map V.int).length = ns.length := List.length_map ..
      apply q_when (b := false)
      · exact et_is (a := !true) (by walk_at "et") rfl
      · intro z
        cases z
      intro _ H1 e1
      have hl1 := e1 _ _ hl
      apply q_when (b := false)
      · refine et_is (by walk_at "et") ?_
        rw [hll, decide_eq_false (by omega), decide_eq_false (by omega)]
        rfl
      · intro z
        cases z
      intro _ H2 e2
      have hl2 := e2 _ _ hl1
      refine q_forLn (a := l) (xs := ns.map V.int) (by walk_at "ev") (sq_of hl2) (fun i σ' H' => Ex H2 H' ∧ ∃ v1, σ' = [some (.ref l), v1]) (fun H3 e3 => ⟨e3, none, rfl⟩) (fun i σ' H' _ w => sq_of (w.1 _ _ hl2)) ?_ ?_
      · rintro i x σ' H3 hx ⟨e3, v1, rfl⟩
        obtain ⟨hi, rfl⟩ := map_at hx
        have z := get_cel (ns := ns) (j := (i : Int)) (by omega) (by omega)
        have hin := h3 _ (List.mem_of_getElem? z)
        walk_at "st"
        apply s_when (b := false)
        · refine et_is (et_or (et_not (et_B (ev_isW (by walk_at "ea")))) fun _ => et_not (et_B (ev_inB (by walk_at "ea")))) ?_
          rw [hin]
          rfl
        · intro z
          cases z
        intro _ H4 e4
        exact ⟨by walk_at "ex", _, rfl⟩
      · rintro σ' H3 ⟨e3, v1, rfl⟩
        refine s_retL (xs := ns.map V.int) (by walk_at "eu") fun p H4 np e4 hp => ?_
        exact q p H4 (fresh_back (by walk_at "ex") np) (by walk_at "ex") hp
    · refine ⟨_, (pss_cons (ps_if (pt_not (pt_val (pe_callB call_isi (by rfl) B.m_isinstance (by decide +kernel) (pa_cons (pv 0) (pa_cons (pe_bltn (v := .ty "list") (by rfl) B.m_list (by decide +kernel) rfl) pa_nil))))) (pss_one (ps_raise rfl (takes_of rfl rfl rfl rfl) (pmk_own PySem.F.excBase_ValueError X_NoLand.x X_NoLand.g X_NoLand.k (raises_own X_NoLand.b X_NoLand.t) (by rfl)))) pss_nil)
      (pss_cons (ps_if (PW.pt (pw_or (pt_cmpR op_lt (pe_callB call_len_seq (by rfl) B.m_len PySem.boot_len (pa_cons (pv 0) pa_nil)) pe_int (nomark _)) (pw_or1 (pt_cmpR op_gt (pe_callB call_len_seq (by rfl) B.m_len PySem.boot_len (pa_cons (pv 0) pa_nil)) (pe_glob (v := .int 200) (by rfl) g_MOST_HILLS ⟨_, rfl⟩) (nomark _))))) (pss_one (ps_raise rfl (takes_of rfl rfl rfl rfl) (pmk_own PySem.F.excBase_ValueError X_NoLand.x X_NoLand.g X_NoLand.k (raises_own X_NoLand.b X_NoLand.t) (by rfl)))) pss_nil)
      (pss_cons (ps_for (passes_of rfl) rfl (pi_list (pv 0)) (pg_name (i := 1) scchecked.nd rfl (Or.inl rfl)) (pss_one (ps_if (PW.pt (pw_or (pt_not (pt_val (pe_cal C_is_whole hr (pa_cons (pv 1) pa_nil)))) (pw_or1 (pt_not (pt_val (pe_cal C__is_in_bound hr (pa_cons (pv 1) pa_nil))))))) (pss_one (ps_raise rfl (takes_of rfl rfl rfl rfl) (pmk_own PySem.F.excBase_ValueError X_NoLand.x X_NoLand.g X_NoLand.k (raises_own X_NoLand.b X_NoLand.t) (by rfl)))) pss_nil)))
      (pss_one (ps_ret (pe_callTy call_list_of (by rfl) B.m_list (by decide +kernel) (pa_cons (pv 0) pa_nil))))))), ?_⟩
      try dsimp only [cxOf, Cx.nox, Cx.wish]
      rw [show L2.start ["land", "height"] [x] = [some (x), none] from rfl]
      cases hb with
      | lst a xs h h1 h2 ok b hbm hbb =>
        apply q_when (b := false)
        · exact et_is (a := !true) (by walk_at "et") rfl
        · intro z
          cases z
        intro _ H1 e1
        have hl1 := e1 _ _ h
        apply q_when (b := false)
        · refine et_is (by walk_at "et") ?_
          rw [decide_eq_false (by omega), decide_eq_false (by omega)]
          rfl
        · intro z
          cases z
        intro _ H2 e2
        have hl2 := e2 _ _ hl1
        refine q_forLn (a := a) (xs := xs) (by walk_at "ev") (sq_of hl2) (fun i σ' H' => Ex H2 H' ∧ (∀ j x, j < i → xs[j]? = some x → ∃ n : Int, x = .int n ∧ inB n = true) ∧ ∃ v1, σ' = [some (.ref a), v1]) (fun H3 e3 => ⟨e3, fun j x hj => absurd hj (Nat.not_lt_zero j), none, rfl⟩) (fun i σ' H' _ w => sq_of (w.1 _ _ hl2)) ?_ ?_
        · rintro i x σ' H3 hx ⟨e3, good, v1, rfl⟩
          walk_at "st"
          rcases ok x (List.mem_of_getElem? hx) with ⟨n, rfl, hin⟩ | hbx
          · apply s_when (b := false)
            · refine et_is (et_or (et_not (et_B (ev_isW (by walk_at "ea")))) fun _ => et_not (et_B (ev_inB (by walk_at "ea")))) ?_
              rw [hin]
              rfl
            · intro z
              cases z
            intro _ H4 e4
            refine ⟨by walk_at "ex", fun j y hj hy => ?_, _, rfl⟩
            by_cases ej : j = i
            · subst ej
              rw [hx] at hy
              cases hy
              exact ⟨n, rfl, hin⟩
            · exact good j y (by omega) hy
          · have hbx := hbx.ex (e1.trans (e2.trans e3))
            apply s_when (b := true)
            · cases hbx with
              | int n hn =>
                refine et_is (et_or (et_not (et_B (ev_isW (by walk_at "ea")))) fun _ => et_not (et_B (ev_inB (by walk_at "ea")))) ?_
                rw [hn]
                rfl
              | no _ hn => exact et_is (et_or (b := false) (et_not (et_B (ev_isN (by walk_at "ea") hn))) fun z => by cases z) rfl
            · intro _ H4 e4
              exact q H4 (by walk_at "ex")
            intro z
            cases z
        · rintro σ' H3 ⟨e3, good, v1, rfl⟩
          obtain ⟨j, hj⟩ := List.getElem?_of_mem hbm
          obtain ⟨n, rfl, hin⟩ := good j b (List.getElem?_eq_some_iff.mp hj).1 hj
          cases hbb with
          | int _ hn =>
            rw [hin] at hn
            cases hn
          | no _ hn => cases hn
      | none a h =>
        apply q_when (b := false)
        · exact et_is (a := !true) (by walk_at "et") rfl
        · intro z
          cases z
        intro _ H1 e1
        have hl1 := e1 _ _ h
        apply q_when (b := true)
        · exact et_is (et_or (a := true) (b := false) (et_is (by walk_at "et") (by rfl)) fun z => by cases z) rfl
        · intro _ H2 e2
          exact q H2 (by walk_at "ex")
        intro z
        cases z
      | many a xs h hl hm =>
        apply q_when (b := false)
        · exact et_is (a := !true) (by walk_at "et") rfl
        · intro z
          cases z
        intro _ H1 e1
        have hl1 := e1 _ _ h
        apply q_when (b := true)
        · refine et_is (by walk_at "et") ?_
          rw [decide_eq_true (p := (200 : Int) < (xs.length : Int)) (by omega), Bool.or_true]
        · intro _ H2 e2
          exact q H2 (by walk_at "ex")
        intro z
        cases z
      | _ =>
        apply q_when (b := true)
        · exact et_is (a := !false) (by walk_at "et") rfl
        · intro _ H1 e1
          exact q H1 e1
        intro z
        cases z
abbrev sshown : Stmt := topS 16
theorem scshown : FnScope ["land", "height"] ["land"] (defScope sshown) := ⟨rfl, rfl, rfl, by decide +kernel, rfl, by decide +kernel, by decide +kernel⟩

theorem ok_shown {f : Addr} {fd : FuncData} (F : Fun K "shown" "shown" sshown f fd) (B : Blt mg) : FnOk P w K mg base CX0 1 f fd ["land"] (spV (RShown K)) := by
  refine F.ok scshown (fun vs H Q E h => ?_) (fun cdv A outer s H vs Q E hr h => ?_)
  · obtain ⟨_, ⟨_, _, rfl, _⟩, _⟩ := h
    rfl
  · obtain ⟨v, ⟨l, ns, rfl, hs, hl, hb, rfl⟩, q⟩ := h
    refine ⟨_, (pss_one (ps_ret (pe_join pe_str (pe_lc (own := [("height", 1)]) (g := gName 1) (tt := tYes) rfl scshown.nd (pi_list (pv 0)) (blkOk_by (N := ["land", "height"]) (sc := defScope sshown) (by decide +kernel)) (fun _ _ _ _ _ => (pg_name (i := 1) scshown.nd rfl (Or.inl rfl))) (fun _ _ _ _ _ => pts_nil) (fun _ _ _ _ _ => (pe_callTy call_str_int (by rfl) B.m_str (by decide +kernel) (pa_cons (pv 1) pa_nil))))))), ?_⟩
    try dsimp only [cxOf, Cx.nox, Cx.wish]
    rw [show L2.start ["land", "height"] [.ref l] = [some (.ref l), none] from rfl]
    refine s_ret (v := .str (SX.S (TL.joinL [32] (ns.map wordOf)))) (ev_joinN (ev_cS (by decide +kernel)) (el_eq (el_lcM (as := ns) (r := V.int) (fun i => V.str (SX.S (wordOf i))) (by walk_at "ev") (by walk_at "sq") (by omega) (fun _ => rfl) fun i H1 e1 hi => ?_) (by rw [List.map_map]; rfl)) (by rw [List.length_map]; omega) ?_) fun H1 e1 => q H1 (by walk_at "ex")
    · walk_at "wi"
      exact ev_cb (by walk_at "ea") (rc_strI (hb i hi))
    · intro w hw
      obtain ⟨i, hi, rfl⟩ := List.mem_map.mp hw
      have := word_len (hb i hi)
      omega
abbrev s_height : Stmt := topS 18
theorem sc_height : FnScope ["word", "figures"] ["word"] (defScope s_height) := ⟨rfl, rfl, rfl, by decide +kernel, rfl, by decide +kernel, by decide +kernel⟩

theorem ok_hei {f N : Addr} {fd : FuncData} (F : Fun K "_height" "_height" s_height f fd) (B : Blt mg) (TF : ∃ t, mg "MOST_FIGURES" = some (.int 19 t)) (X_NoLand : ExK K mg "NoLand" N) : FnOk P w K mg base (L2.CX P w) 1 f fd ["word"] (spVX RHei (RNoHei N)) := by
  refine F.okX sc_height (fun vs H Q E h => ?_) (fun cdv A outer s H vs Q E hr h => ?_)
  · rcases h with ⟨_, ⟨_, rfl, _⟩, _⟩ | ⟨_, ⟨_, rfl, _⟩, _⟩ <;> rfl
  · obtain ⟨tf, g_MOST_FIGURES⟩ := TF
    have hh : ∃ w : List Nat, vs = [.str (SX.S w)] ∧ w.length ≤ 10000 ∧ (goodW w = true → RetV (.int (numW w)) H Q) ∧ (goodW w = false → ∀ H', Ex H H' → E (.ref N) none H') := by
      rcases h with ⟨v, ⟨w, rfl, hl, hg, rfl⟩, q⟩ | ⟨C, ⟨w, rfl, hl, hg, rfl⟩, q⟩
      · exact ⟨w, rfl, hl, fun _ => q, fun z => by (rw [hg] at z; cases z)⟩
      · exact ⟨w, rfl, hl, fun z => by (rw [hg] at z; cases z), fun _ => q⟩
    clear h
    obtain ⟨w, rfl, hl, q1, q2⟩ := hh
    refine ⟨_, (pss_cons (ps_set (i := 1) sc_height.nd rfl (Or.inl rfl) (pe_m1 PySem.F.slot_str_removeprefix PySem.F.type_str_removeprefix mt_removeprefix (pv 0) pe_str))
      (pss_cons (ps_if (PW.pt (pw_or (pt_not (pt_val (pe_m0 PySem.F.slot_str_isascii PySem.F.type_str_isascii mt_isascii (pv 1)))) (pw_or1 (pt_not (pt_val (pe_m0 PySem.F.slot_str_isdigit PySem.F.type_str_isdigit mt_isdigit (pv 1))))))) (pss_one (ps_raise rfl (takes_of rfl rfl rfl rfl) (pmk_own PySem.F.excBase_ValueError X_NoLand.x X_NoLand.g X_NoLand.k (raises_own X_NoLand.b X_NoLand.t) (by rfl)))) pss_nil)
      (pss_cons (ps_if (PW.pt (pw_and (pt_val (pe_m1 PySem.F.slot_str_startswith PySem.F.type_str_startswith mt_startswith (pv 1) pe_str)) (pw_and1 (pt_cmpR op_ne (pv 0) pe_str (nomark _))))) (pss_one (ps_raise rfl (takes_of rfl rfl rfl rfl) (pmk_own PySem.F.excBase_ValueError X_NoLand.x X_NoLand.g X_NoLand.k (raises_own X_NoLand.b X_NoLand.t) (by rfl)))) pss_nil)
      (pss_cons (ps_if (pt_cmpR op_gt (pe_callB call_len_str (by rfl) B.m_len PySem.boot_len (pa_cons (pv 1) pa_nil)) (pe_glob (v := .int 19) (by rfl) g_MOST_FIGURES ⟨_, rfl⟩) (nomark _)) (pss_one (ps_raise rfl (takes_of rfl rfl rfl rfl) (pmk_own PySem.F.excBase_ValueError X_NoLand.x X_NoLand.g X_NoLand.k (raises_own X_NoLand.b X_NoLand.t) (by rfl)))) pss_nil)
      (pss_one (ps_ret (pe_callTy call_int_str (by rfl) B.m_int (by decide +kernel) (pa_cons (pv 0) pa_nil)))))))), ?_⟩
    try dsimp only [cxOf, Cx.nox, Cx.wish]
    rw [show L2.start ["word", "figures"] [.str (SX.S w)] = [some (.str (SX.S w)), none] from rfl]
    have fl : (figs w).length ≤ w.length := figs_len w
    refine q_asg (v := .str (SX.S (figs w))) (ev_prefix (by walk_at "ev") (ev_cS (by decide +kernel)) hl) fun H1 e1 => ?_
    walk_at "st"
    have t1 : (!Txt.isascii (SX.S (figs w)) || !Txt.isdigit (SX.S (figs w))) = !plainW w := by
      have z := ascii_digit (figs w)
      unfold plainW
      rw [← z]
      cases Txt.isascii (SX.S (figs w)) <;> cases Txt.isdigit (SX.S (figs w)) <;> rfl
    cases hp : plainW w with
    | false =>
      apply q_when (b := true)
      · exact et_is (et_or (et_not (et_B (ev_ascii (by walk_at "ev")))) fun _ => et_not (et_B (ev_digit (by walk_at "ev")))) (by rw [t1, hp]; rfl)
      · intro _ H2 e2
        exact q2 (by unfold goodW; rw [hp]; rfl) H2 (by walk_at "ex")
      intro z
      cases z
    | true =>
      apply q_when (b := false)
      · exact et_is (et_or (et_not (et_B (ev_ascii (by walk_at "ev")))) fun _ => et_not (et_B (ev_digit (by walk_at "ev")))) (by rw [t1, hp]; rfl)
      · intro z
        cases z
      intro _ H2 e2
      have t2 : (Txt.startswith (SX.S (figs w)) (SX.S [48]) && !decide (w = [48])) = leadW w := by
        rw [starts0]
        rfl
      cases hd : leadW w with
      | true =>
        apply q_when (b := true)
        · exact et_is (et_and (et_B (ev_starts (by walk_at "ev") (ev_cS (l := [48]) (by decide +kernel)))) fun _ => et_test (ev_op (by walk_at "ev") (ev_cS (l := [48]) (by decide +kernel)) rv_neS)) (by rw [t2, hd])
        · intro _ H3 e3
          exact q2 (by unfold goodW; rw [hp, hd]; rfl) H3 (by walk_at "ex")
        intro z
        cases z
      | false =>
        apply q_when (b := false)
        · exact et_is (et_and (et_B (ev_starts (by walk_at "ev") (ev_cS (l := [48]) (by decide +kernel)))) fun _ => et_test (ev_op (by walk_at "ev") (ev_cS (l := [48]) (by decide +kernel)) rv_neS)) (by rw [t2, hd])
        · intro z
          cases z
        intro _ H3 e3
        by_cases h19 : (figs w).length ≤ 19
        · have hg : goodW w = true := by
            unfold goodW
            rw [hp, hd, decide_eq_true h19]
            rfl
          apply q_when (b := false)
          · exact et_is (et_test (ev_op (ev_cb (by walk_at "ea") (rc_lenS (by omega))) (by walk_at "ev") (by walk_at "rv"))) (decide_eq_false (by omega))
          · intro z
            cases z
          intro _ H4 e4
          exact s_ret (v := .int (numW w)) (ev_cb (by walk_at "ea") (rc_intS hg)) fun H5 e5 => q1 hg H5 (by walk_at "ex")
        · apply q_when (b := true)
          · exact et_is (et_test (ev_op (ev_cb (by walk_at "ea") (rc_lenS (by omega))) (by walk_at "ev") (by walk_at "rv"))) (decide_eq_true (by omega))
          · intro _ H4 e4
            exact q2 (by unfold goodW; rw [decide_eq_false h19, Bool.and_false]) H4 (by walk_at "ex")
          intro z
          cases z
abbrev sread : Stmt := topS 17
theorem scread : FnScope ["line", "word"] ["line"] (defScope sread) := ⟨rfl, rfl, rfl, by decide +kernel, rfl, by decide +kernel, by decide +kernel⟩

theorem ok_read {f N : Addr} {fd : FuncData} (F : Fun K "read" "read" sread f fd) (B : Blt mg) (X_NoLand : ExK K mg "NoLand" N) (C__height : CalX P w K mg base "_height" 1 ["word"] (spVX RHei (RNoHei N))) (C_checked : CalX P w K mg base "checked" 2 ["land"] (spLX (RChecked K) (RNoLand N))) :
    FnOk P w K mg base (L2.CX P w) 3 f fd ["line"] (spLX RRead (RNoRead N)) := by
  refine F.okX scread (fun vs H Q E h => ?_) (fun cdv A outer s H vs Q E hr h => ?_)
  · rcases h with ⟨_, ⟨_, _, rfl, _⟩, _⟩ | ⟨_, ⟨_, rfl, _⟩, _⟩ <;> rfl
  · have hh : (∃ x, vs = [x] ∧ NoText H x ∧ ∀ H', Ex H H' → E (.ref N) none H') ∨ ∃ l : List Nat, vs = [.str (SX.S l)] ∧ l.length ≤ 10000 ∧
        (∀ ns : List Int, (wordsOf l).map heiW = ns.map some → ns.length ≤ 200 → RetL (ns.map V.int) H Q) ∧ (badL l = true ∨ 200 < (wordsOf l).length → ∀ H', Ex H H' → E (.ref N) none H') := by
      rcases h with ⟨v, ⟨l, ns, rfl, hl, hw, h2, rfl⟩, q⟩ | ⟨C, ⟨x, rfl, hx, rfl⟩, q⟩
      · refine .inr ⟨l, rfl, hl, fun ms hm h3 => ?_, fun hb => ?_⟩
        · have e : ms = ns := map_some_inj (hm.symm.trans hw)
          rw [e]
          exact q
        · exfalso
          rcases hb with hb | hb
          · obtain ⟨u, hu, e⟩ := List.any_eq_true.mp hb
            have m : heiW u ∈ ns.map some := hw ▸ List.mem_map.mpr ⟨u, hu, rfl⟩
            obtain ⟨i, _, ei⟩ := List.mem_map.mp m
            rw [← ei] at e
            cases e
          · have z := congrArg List.length hw
            rw [List.length_map, List.length_map] at z
            omega
      · rcases hx with hx | ⟨l, rfl, hl, hb⟩
        · exact .inl ⟨x, rfl, hx, q⟩
        · refine .inr ⟨l, rfl, hl, fun ns hw h2 => ?_, fun _ => q⟩
          exfalso
          rcases hb with hb | hb
          · obtain ⟨u, hu, e⟩ := List.any_eq_true.mp hb
            have m : heiW u ∈ ns.map some := hw ▸ List.mem_map.mpr ⟨u, hu, rfl⟩
            obtain ⟨i, _, ei⟩ := List.mem_map.mp m
            rw [← ei] at e
            cases e
          · have z := congrArg List.length hw
            rw [List.length_map, List.length_map] at z
            omega
    clear h
    rcases hh with ⟨x, rfl, hx, q⟩ | ⟨l, rfl, hl, q1, q2⟩
    · refine ⟨_, (pss_cons (ps_if (pt_not (pt_val (pe_callB call_isi (by rfl) B.m_isinstance (by decide +kernel) (pa_cons (pv 0) (pa_cons (pe_bltn (v := .ty "str") (by rfl) B.m_str (by decide +kernel) rfl) pa_nil))))) (pss_one (ps_raise rfl (takes_of rfl rfl rfl rfl) (pmk_own PySem.F.excBase_ValueError X_NoLand.x X_NoLand.g X_NoLand.k (raises_own X_NoLand.b X_NoLand.t) (by rfl)))) pss_nil)
      (pss_one (ps_ret (pe_calX C_checked hr (takes_of rfl rfl rfl rfl) (pa_cons (pe_lcX (own := [("word", 1)]) (g := gName 1) (te := fun Eb => tCall (spVX RHei (RNoHei N)) [] Eb (tCons (tVar 1) tNil)) (takes_of rfl rfl rfl rfl) rfl rfl rfl scread.nd (pi_list (pe_split (pv 0) pe_str)) (blkOk_by (N := ["line", "word"]) (sc := defScope sread) (by decide +kernel)) (fun _ _ _ _ _ => (pg_name (i := 1) scread.nd rfl (Or.inl rfl))) (fun _ _ _ _ _ _ => (pe_calB C__height hr (pa_cons (pv 1) pa_nil)))) pa_nil))))), ?_⟩
      try dsimp only [cxOf, Cx.nox, Cx.wish]
      rw [show L2.start ["line", "word"] [x] = [some (x), none] from rfl]
      apply q_when (b := true)
      · cases hx with
        | lst a xs hxs => exact et_is (a := !false) (et_not (et_B (ev_cb (by walk_at "ea") (rc_isi_lst hxs kb_list_str)))) rfl
        | non => exact et_is (a := !false) (et_not (et_B (ev_cb (by walk_at "ea") (rc_isi_non kb_NoneType_str)))) rfl
        | int i => exact et_is (a := !false) (et_not (et_B (ev_cb (by walk_at "ea") (rc_isi_int kb_int_str)))) rfl
      · intro _ H1 e1
        exact q H1 (by walk_at "ex")
      intro z
      cases z
    · refine ⟨_, (pss_cons (ps_if (pt_not (pt_val (pe_callB call_isi (by rfl) B.m_isinstance (by decide +kernel) (pa_cons (pv 0) (pa_cons (pe_bltn (v := .ty "str") (by rfl) B.m_str (by decide +kernel) rfl) pa_nil))))) (pss_one (ps_raise rfl (takes_of rfl rfl rfl rfl) (pmk_own PySem.F.excBase_ValueError X_NoLand.x X_NoLand.g X_NoLand.k (raises_own X_NoLand.b X_NoLand.t) (by rfl)))) pss_nil)
      (pss_one (ps_ret (pe_calX C_checked hr (takes_of rfl rfl rfl rfl) (pa_cons (pe_lcX (own := [("word", 1)]) (g := gName 1) (te := fun Eb => tCall (spVX RHei (RNoHei N)) [] Eb (tCons (tVar 1) tNil)) (takes_of rfl rfl rfl rfl) rfl rfl rfl scread.nd (pi_list (pe_split (pv 0) pe_str)) (blkOk_by (N := ["line", "word"]) (sc := defScope sread) (by decide +kernel)) (fun _ _ _ _ _ => (pg_name (i := 1) scread.nd rfl (Or.inl rfl))) (fun _ _ _ _ _ _ => (pe_calB C__height hr (pa_cons (pv 1) pa_nil)))) pa_nil))))), ?_⟩
      try dsimp only [cxOf, Cx.nox, Cx.wish]
      rw [show L2.start ["line", "word"] [.str (SX.S l)] = [some (.str (SX.S l)), none] from rfl]
      apply q_when (b := false)
      · exact et_is (a := !true) (et_not (et_B (ev_cb (by walk_at "ea") (rc_isi_str kb_str_str)))) rfl
      · intro z
        cases z
      intro _ H1 e1
      have wl := words_le l
      have w1 := words_pos l
      refine t_ret1 ?_
      refine lcX (f := wordV) (N := N) (xs := (wordsOf l).map fun u => V.str (SX.S u)) (el_split (by walk_at "ev") (ev_cS (by decide +kernel)) hl) (by rw [List.length_map]; omega) (fun _ => rfl) ?_ ?_ ?_ ?_
      · intro x hx y hy Eb H2 e2
        obtain ⟨u, hu, rfl⟩ := List.mem_map.mp hx
        obtain ⟨hg, rfl⟩ := wordV_some hy
        have := words_short hu
        walk_at "wi"
        exact ev_cal0 (vs := [.str (SX.S u)]) (by walk_at "ea") fun H3 e3 => ⟨u, rfl, by omega, hg, rfl⟩
      · intro x hx hn Eb H2 R e2 k
        obtain ⟨u, hu, rfl⟩ := List.mem_map.mp hx
        have hg := wordV_none hn
        have := words_short hu
        walk_at "wi"
        exact rx_cal0 (vs := [.str (SX.S u)]) (by walk_at "ea") (fun H3 e3 => ⟨u, rfl, by omega, hg, rfl⟩) k
      · intro ok p H2 np e2 hp
        have eg : ∀ u ∈ wordsOf l, goodW u = true := fun u hu => wordV_good (ok _ (List.mem_map.mpr ⟨u, hu, rfl⟩))
        have hp2 : H2 p = some (.lst (((wordsOf l).map numW).map V.int)) := by
          rw [hp, words_nums _ eg]
        have ln : ((wordsOf l).map numW).length = (wordsOf l).length := List.length_map ..
        by_cases big : 200 < (wordsOf l).length
        · refine .inr ⟨N, ⟨.ref p, rfl, .many p _ hp2 (by rw [List.length_map, ln]; exact big) (by rw [List.length_map, ln]; omega), rfl⟩, fun H3 e3 => q2 (.inr big) H3 (by walk_at "ex")⟩
        · cases hb : badL l with
          | true =>
            obtain ⟨u, hu, e⟩ := List.any_eq_true.mp hb
            have nb : inB (numW u) = false := by
              unfold heiW at e
              rw [eg u hu, Bool.true_and] at e
              cases k : inB (numW u) with
              | false => rfl
              | true => rw [k] at e; cases e
            refine .inr ⟨N, ⟨.ref p, rfl, .lst p _ hp2 (by rw [List.length_map, ln]; omega) (by rw [List.length_map, ln]; omega) (fun x hx => ?_) (.int (numW u)) (List.mem_map.mpr ⟨numW u, List.mem_map.mpr ⟨u, hu, rfl⟩, rfl⟩) (.int _ nb), rfl⟩, fun H3 e3 => q2 (.inl hb) H3 (by walk_at "ex")⟩
            obtain ⟨i, _, rfl⟩ := List.mem_map.mp hx
            cases k : inB i with
            | true => exact .inl ⟨i, rfl, k⟩
            | false => exact .inr (.int i k)
          | false =>
            have al : ∀ u ∈ wordsOf l, inB (numW u) = true := fun u hu => by
              have z := List.any_eq_false.mp hb u hu
              cases k : inB (numW u) with
              | true => rfl
              | false =>
                exfalso
                apply z
                unfold heiW
                rw [eg u hu, k]
                rfl
            refine .inl ⟨((wordsOf l).map numW).map V.int, ⟨p, (wordsOf l).map numW, rfl, hp2, by rw [ln]; omega, by rw [ln]; omega, fun i hi => ?_, rfl⟩, fun r H3 nr e3 hr => ?_⟩
            · obtain ⟨u, hu, rfl⟩ := List.mem_map.mp hi
              exact al u hu
            · refine q1 ((wordsOf l).map numW) ((List.map_congr_left (g := some ∘ numW) fun u hu => ?_).trans List.map_map.symm) (by rw [ln]; omega) r H3 (fresh_back (e1.trans e2) nr) (by walk_at "ex") hr
              show heiW u = some (numW u)
              unfold heiW
              rw [eg u hu, al u hu]
              rfl
      · rintro ⟨x, hx, hn⟩ H2 e2
        obtain ⟨u, hu, rfl⟩ := List.mem_map.mp hx
        have hg := wordV_none hn
        refine q2 (.inl (List.any_eq_true.mpr ⟨u, hu, ?_⟩)) H2 (by walk_at "ex")
        unfold heiW
        rw [hg]
        rfl
abbrev s_law_figures_by : Stmt := topS 26
theorem sc_law_figures_by : FnScope ["_law_height", "_law_found", "_law_rest"] ["_law_height"] (defScope s_law_figures_by) := ⟨rfl, rfl, rfl, by decide +kernel, rfl, by decide +kernel, by decide +kernel⟩

theorem ok_fig {f : Addr} {fd : FuncData} (F : Fun K "_law_figures_by" "_law_figures_by" s_law_figures_by f fd) (B : Blt mg) : FnOk P w K mg base CX0 1 f fd ["_law_height"] (spV RFig) := by
  refine F.ok sc_law_figures_by (fun vs H Q E h => ?_) (fun cdv A outer s H vs Q E hr h => ?_)
  · obtain ⟨_, ⟨_, rfl, _⟩, _⟩ := h
    rfl
  · obtain ⟨v, ⟨i, rfl, hi, rfl⟩, q⟩ := h
    refine ⟨_, (pss_cons (ps_set (i := 1) sc_law_figures_by.nd rfl (Or.inl rfl) pe_str)
      (pss_cons (ps_set (i := 2) sc_law_figures_by.nd rfl (Or.inl rfl) (pe_callB call_abs (by rfl) B.m_abs (by decide +kernel) (pa_cons (pv 0) pa_nil)))
      (pss_cons (ps_while PassesOwn.never (PW.pt (pw_or (pt_cmpR op_gt (pv 2) pe_int (nomark _)) (pw_or1 (pt_cmpR op_eq (pv 1) pe_str (nomark _))))) (pss_cons (ps_set (i := 1) sc_law_figures_by.nd rfl (Or.inl rfl) (pe_op op_add_str (pe_ix ix_str pe_str (pe_op op_mod (pv 2) pe_int) (fun _ _ => rfl)) (pv 1)))
      (pss_one (ps_set (i := 2) sc_law_figures_by.nd rfl (Or.inl rfl) (pe_op op_fdiv (pv 2) pe_int)))))
      (pss_cons (ps_if (pt_cmpR op_lt (pv 0) pe_int (nomark _)) (pss_one (ps_ret (pe_op op_add_str pe_str (pv 1)))) pss_nil)
      (pss_one (ps_ret (pv 1))))))), ?_⟩
    try dsimp only [cxOf, Cx.nox, Cx.wish]
    rw [show L2.start ["_law_height", "_law_found", "_law_rest"] [.int i] = [some (.int i), none, none] from rfl]
    have hn := inB_abs hi
    refine q_asg (v := .str (SX.S [])) (ev_cS (by decide +kernel)) fun H1 e1 => ?_
    walk_at "st"
    refine q_asg (v := .int ((i.natAbs : Nat) : Int)) (by walk_at "ev") fun H2 e2 => ?_
    walk_at "st"
    refine q_while (fun m σ' H' => ∃ (r : Nat) (g : List Nat), m = r + (if g = [] then 1 else 0) ∧ FigP i.natAbs r g ∧ Ex H H' ∧ σ' = [some (.int i), some (.str (SX.S g)), some (.int (r : Int))]) (i.natAbs + 1) ⟨i.natAbs, [], rfl, .inl ⟨rfl, rfl⟩, by walk_at "ex", rfl⟩ ?_
    rintro m σ' H3 ⟨r, g, rfl, fp, e3, rfl⟩
    have gl : g.length ≤ 19 := fp.len (by omega)
    have rl := fp.le
    refine ⟨decide (0 < (r : Int)) || decide (g = []), ?_, fun hb H4 e4 => ?_, fun hb H4 e4 => ?_⟩
    · exact et_or (by walk_at "et") fun _ => et_test (ev_op (by walk_at "ev") (ev_cS (l := []) (by decide +kernel)) rv_eqS)
    · refine ⟨fun σ2 H5 => Ex H H5 ∧ σ2 = [some (.int i), some (.str (SX.S ((48 + r % 10) :: g))), some (.int ((r / 10 : Nat) : Int))], ?_, ?_⟩
      · rintro σ2 H5 ⟨e5, rfl⟩
        refine ⟨r / 10 + 0, ?_, r / 10, (48 + r % 10) :: g, rfl, fp.step ?_, e5, rfl⟩
        · rw [Bool.or_eq_true, decide_eq_true_eq, decide_eq_true_eq] at hb
          by_cases z : g = []
          · rw [if_pos z]
            omega
          · rw [if_neg z]
            rcases hb with hb | hb
            · omega
            · exact absurd hb z
        · rw [Bool.or_eq_true, decide_eq_true_eq, decide_eq_true_eq] at hb
          rcases hb with hb | hb
          · exact .inl (by omega)
          · exact .inr hb
      · refine q_asg (v := .str (SX.S ([48 + r % 10] ++ g))) (ev_op (ev_op (ev_cS (l := ten) (by decide +kernel)) (ev_int (j := ((r % 10 : Nat) : Int)) (by walk_at "ev") (by omega)) (rv_ten (by omega))) (by walk_at "ev") (rv_addS (by rw [List.length_cons, List.length_nil]; omega))) fun H5 e5 => ?_
        walk_at "st"
        refine s_asg (v := .int ((r / 10 : Nat) : Int)) (ev_int (by walk_at "ev") (by omega)) fun H6 e6 => ?_
        exact ⟨by walk_at "ex", rfl⟩
    · rw [Bool.or_eq_false_iff, decide_eq_false_iff_not, decide_eq_false_iff_not] at hb
      have eg := fp.done (by omega) hb.2
      subst eg
      apply q_when (b := decide (i < 0))
      · exact by walk_at "et"
      · intro z H5 e5
        have z := of_decide_eq_true z
        refine s_ret (v := .str (SX.S ([45] ++ TL.numL i.natAbs))) (ev_op (ev_cS (by decide +kernel)) (by walk_at "ev") (rv_addS (by rw [List.length_cons, List.length_nil]; omega))) fun H6 e6 => ?_
        have e : [45] ++ TL.numL i.natAbs = wordOf i := by
          unfold wordOf
          rw [if_pos z]
          rfl
        rw [e]
        exact q H6 (by walk_at "ex")
      · intro z H5 e5
        have z := of_decide_eq_false z
        have e : TL.numL i.natAbs = wordOf i := by
          unfold wordOf
          rw [if_neg z]
        rw [e]
        exact s_ret (v := .str (SX.S (wordOf i))) (by walk_at "ev") fun H6 e6 => q H6 (by walk_at "ex")
abbrev s_law_wrong_by : Stmt := topS 27
theorem sc_law_wrong_by : FnScope ["_law_words", "_law_cell", "_law_one", "_law_some"] ["_law_words", "_law_cell"] (defScope s_law_wrong_by) := ⟨rfl, rfl, rfl, by decide +kernel, rfl, by decide +kernel, by decide +kernel⟩

theorem ok_wrong {f : Addr} {fd : FuncData} (F : Fun K "_law_wrong_by" "_law_wrong_by" s_law_wrong_by f fd) (B : Blt mg) : FnOk P w K mg base CX0 1 f fd ["_law_words", "_law_cell"] (spV (RWrong K)) := by
  refine F.ok sc_law_wrong_by (fun vs H Q E h => ?_) (fun cdv A outer s H vs Q E hr h => ?_)
  · obtain ⟨_, ⟨_, _, _, rfl, _⟩, _⟩ := h
    rfl
  · obtain ⟨v, ⟨l, ns, c, rfl, hs, h1, h2, hb, rfl⟩, q⟩ := h
    refine ⟨_, (pss_cons (ps_set (i := 2) sc_law_wrong_by.nd rfl (Or.inl rfl) (pe_ix ix_list (pv 0) (pe_op op_mod (pe_op op_fdiv (pv 1) pe_int) (pe_callB call_len_seq (by rfl) B.m_len PySem.boot_len (pa_cons (pv 0) pa_nil))) (fun _ _ => rfl)))
      (pss_cons (ps_set (i := 3) sc_law_wrong_by.nd rfl (Or.inl rfl) (pe_lst (pa_cons pe_str (pa_cons pe_str (pa_cons (pe_op op_add_str (pv 2) pe_str) (pa_cons (pe_op op_add_str pe_str (pv 2)) (pa_cons (pe_op op_add_str (pe_op op_add_str (pv 2) pe_str) (pv 2)) (pa_cons pe_str (pa_cons pe_str (pa_cons pe_str (pa_cons pe_str (pa_cons pe_str pa_nil))))))))))))
      (pss_cons (ps_set (i := 3) sc_law_wrong_by.nd rfl (Or.inl rfl) (pe_op op_cat (pv 3) (pe_lst (pa_cons pe_str (pa_cons pe_str (pa_cons pe_str (pa_cons (pe_op op_add_str (pv 2) pe_str) (pa_cons (pe_op op_add_str (pv 2) pe_str) (pa_cons pe_str (pa_cons pe_str (pa_cons pe_str (pa_cons pe_str (pa_cons pe_str pa_nil)))))))))))))
      (pss_cons (ps_set (i := 3) sc_law_wrong_by.nd rfl (Or.inl rfl) (pe_op op_cat (pv 3) (pe_lst (pa_cons (pe_op op_add_str pe_str (pe_op op_mulS pe_str pe_int)) (pa_cons (pe_op op_add_str pe_str (pe_op op_mulS pe_str pe_int)) (pa_cons pe_str (pa_cons (pe_op op_add_str (pv 2) pe_str) (pa_cons (pe_op op_add_str (pv 2) pe_str) pa_nil))))))))
      (pss_one (ps_ret (pe_ix ix_list (pv 3) (pe_op op_mod (pv 1) pe_int) (fun _ _ => rfl)))))))), ?_⟩
    try dsimp only [cxOf, Cx.nox, Cx.wish]
    rw [show L2.start ["_law_words", "_law_cell", "_law_one", "_law_some"] [.ref l, .int c] = [some (.ref l), some (.int c), none, none] from rfl]
    have hll : (ns.map fun i => V.str (SX.S (wordOf i))).length = ns.length := List.length_map ..
    obtain ⟨k, hk⟩ : ∃ k : Nat, c / 25 % (ns.length : Int) = (k : Int) := ⟨(c / 25 % (ns.length : Int)).toNat, by have := Int.emod_nonneg (c / 25) (b := (ns.length : Int)) (by omega); omega⟩
    have klt : (k : Int) < (ns.length : Int) := hk ▸ Int.emod_lt_of_pos _ (by omega)
    have at1 : atI (ns.map fun i => V.str (SX.S (wordOf i))) (k : Int) = some (.str (SX.S (wordOf (cel ns (k : Int))))) := words_at (by omega)
    have ib : inB (cel ns (k : Int)) = true := hb _ (cel_mem (by omega))
    have ew : wrongOf ns c = (wrongs (wordOf (cel ns (k : Int)))).getD (c % 25).toNat [] := by
      unfold wrongOf
      rw [hk]
    rw [ew] at q
    have ol := word_len ib
    generalize wordOf (cel ns (k : Int)) = one at at1 q ol
    refine q_asg (v := .str (SX.S one)) (ev_op (by walk_at "ev") (ev_int (i := c / 25 % ((ns.map fun i => V.str (SX.S (wordOf i))).length : Nat)) (ev_op (by walk_at "ev") (by walk_at "ev") (rv_I (by rw [hll]; omega))) (by rw [hll]; exact hk)) (rv_ixL (by walk_at "sq") at1)) fun H1 e1 => ?_
    walk_at "st"
    refine q_asgL (xs := [.str (SX.S []), .str (SX.S [32]), .str (SX.S (one ++ [32])), .str (SX.S ([32] ++ one)), .str (SX.S (one ++ [32, 32] ++ one)), .str (SX.S [43, 49]), .str (SX.S [45, 48]), .str (SX.S [48, 48]), .str (SX.S [48, 49]), .str (SX.S [45, 48, 49])]) (el_lst (ea_cons (ev_cS (by decide +kernel)) (ea_cons (ev_cS (by decide +kernel)) (ea_cons (ev_op (by walk_at "ev") (ev_cS (l := [32]) (by decide +kernel)) (rv_addS (by simp only [List.length_cons, List.length_nil]; omega))) (ea_cons (ev_op (ev_cS (l := [32]) (by decide +kernel)) (by walk_at "ev") (rv_addS (by simp only [List.length_cons, List.length_nil]; omega))) (ea_cons (ev_op (ev_op (by walk_at "ev") (ev_cS (l := [32, 32]) (by decide +kernel)) (rv_addS (by simp only [List.length_cons, List.length_nil]; omega))) (by walk_at "ev") (rv_addS (by simp only [List.length_append, List.length_cons, List.length_nil]; omega))) (ea_cons (ev_cS (by decide +kernel)) (ea_cons (ev_cS (by decide +kernel)) (ea_cons (ev_cS (by decide +kernel)) (ea_cons (ev_cS (by decide +kernel)) (ea_cons (ev_cS (by decide +kernel)) ea_nil)))))))))) (Nat.le_of_ble_eq_true rfl)) fun p2 H2 n2 e2 hp2 => ?_
    walk_at "st"
    generalize ha : [V.str (SX.S []), .str (SX.S [32]), .str (SX.S (one ++ [32])), .str (SX.S ([32] ++ one)), .str (SX.S (one ++ [32, 32] ++ one)), .str (SX.S [43, 49]), .str (SX.S [45, 48]), .str (SX.S [48, 48]), .str (SX.S [48, 49]), .str (SX.S [45, 48, 49])] = la at hp2
    have la_len : la.length = 10 := by rw [← ha]; rfl
    refine q_asgL (xs := la ++ [.str (SX.S [49, 46]), .str (SX.S [49, 44, 50]), .str (SX.S [97]), .str (SX.S (one ++ [120])), .str (SX.S (one ++ [32, 45])), .str (SX.S [45, 45, 49]), .str (SX.S [49, 45]), .str (SX.S [49, 32, 43, 50]), .str (SX.S [48, 120, 49]), .str (SX.S [49, 95, 48])]) (el_catV (xs := la) (by walk_at "ev") hp2 (el_lst (ea_cons (ev_cS (by decide +kernel)) (ea_cons (ev_cS (by decide +kernel)) (ea_cons (ev_cS (by decide +kernel)) (ea_cons (ev_op (by walk_at "ev") (ev_cS (l := [120]) (by decide +kernel)) (rv_addS (by simp only [List.length_cons, List.length_nil]; omega))) (ea_cons (ev_op (by walk_at "ev") (ev_cS (l := [32, 45]) (by decide +kernel)) (rv_addS (by simp only [List.length_cons, List.length_nil]; omega))) (ea_cons (ev_cS (by decide +kernel)) (ea_cons (ev_cS (by decide +kernel)) (ea_cons (ev_cS (by decide +kernel)) (ea_cons (ev_cS (by decide +kernel)) (ea_cons (ev_cS (by decide +kernel)) ea_nil)))))))))) (Nat.le_of_ble_eq_true rfl)) rfl (by rw [la_len]; simp only [List.length_cons, List.length_nil]; omega)) fun p3 H3 n3 e3 hp3 => ?_
    walk_at "st"
    generalize hbq : [V.str (SX.S [49, 46]), .str (SX.S [49, 44, 50]), .str (SX.S [97]), .str (SX.S (one ++ [120])), .str (SX.S (one ++ [32, 45])), .str (SX.S [45, 45, 49]), .str (SX.S [49, 45]), .str (SX.S [49, 32, 43, 50]), .str (SX.S [48, 120, 49]), .str (SX.S [49, 95, 48])] = lb at hp3
    have lb_len : lb.length = 10 := by rw [← hbq]; rfl
    refine q_asgL (xs := (la ++ lb) ++ [.str (SX.S ([49] ++ List.replicate 19 48)), .str (SX.S ([45, 49] ++ List.replicate 19 48)), .str (SX.S [49, 48, 48, 48, 48, 48, 48, 48, 48, 48, 48, 48, 48, 48, 48, 48, 48, 48, 49]), .str (SX.S (one ++ [32, 49, 10])), .str (SX.S (one ++ [9, 49]))]) (el_catV (xs := la ++ lb) (by walk_at "ev") hp3 (el_lst (ea_cons (ev_op (ev_cS (l := [49]) (by decide +kernel)) (ev_op (ev_cS (l := [48]) (by decide +kernel)) (ev_c (v := .int ((19 : Nat) : Int))) (rv_mulS (by decide) (by decide))) (rv_addS (by simp only [List.length_replicate, List.length_cons, List.length_nil]; omega))) (ea_cons (ev_op (ev_cS (l := [45, 49]) (by decide +kernel)) (ev_op (ev_cS (l := [48]) (by decide +kernel)) (ev_c (v := .int ((19 : Nat) : Int))) (rv_mulS (by decide) (by decide))) (rv_addS (by simp only [List.length_replicate, List.length_cons, List.length_nil]; omega))) (ea_cons (ev_cS (by decide +kernel)) (ea_cons (ev_op (by walk_at "ev") (ev_cS (l := [32, 49, 10]) (by decide +kernel)) (rv_addS (by simp only [List.length_cons, List.length_nil]; omega))) (ea_cons (ev_op (by walk_at "ev") (ev_cS (l := [9, 49]) (by decide +kernel)) (rv_addS (by simp only [List.length_cons, List.length_nil]; omega))) ea_nil))))) (Nat.le_of_ble_eq_true rfl)) rfl (by rw [List.length_append, la_len, lb_len]; simp only [List.length_cons, List.length_nil]; omega)) fun p4 H4 n4 e4 hp4 => ?_
    walk_at "st"
    have el : (la ++ lb) ++ [V.str (SX.S ([49] ++ List.replicate 19 48)), .str (SX.S ([45, 49] ++ List.replicate 19 48)), .str (SX.S [49, 48, 48, 48, 48, 48, 48, 48, 48, 48, 48, 48, 48, 48, 48, 48, 48, 48, 49]), .str (SX.S (one ++ [32, 49, 10])), .str (SX.S (one ++ [9, 49]))] = (wrongs one).map fun t => V.str (SX.S t) := by
      rw [← ha, ← hbq]
      simp [wrongs]
    rw [el] at hp4
    have at2 : atI ((wrongs one).map fun t => V.str (SX.S t)) (c % 25) = some (.str (SX.S ((wrongs one).getD (c % 25).toNat []))) := texts_at (by omega) (by rw [wrongs_len]; omega)
    exact s_ret (v := .str (SX.S ((wrongs one).getD (c % 25).toNat []))) (ev_op (by walk_at "ev") (by walk_at "ev") (rv_ixL (by walk_at "sq") at2)) fun H5 e5 => q H5 (by walk_at "ex")
abbrev s_law_changed : Stmt := topS 31
theorem sc_law_changed : FnScope ["_law_line", "_law_cell", "_law_more", "_law_some", "_law_sign", "_law_at"] ["_law_line", "_law_cell", "_law_more"] (defScope s_law_changed) := ⟨rfl, rfl, rfl, by decide +kernel, rfl, by decide +kernel, by decide +kernel⟩

theorem ok_changed {f : Addr} {fd : FuncData} (F : Fun K "_law_changed" "_law_changed" s_law_changed f fd) (B : Blt mg) : FnOk P w K mg base CX0 1 f fd ["_law_line", "_law_cell", "_law_more"] (spV RChanged) := by
  refine F.ok sc_law_changed (fun vs H Q E h => ?_) (fun cdv A outer s H vs Q E hr h => ?_)
  · obtain ⟨_, ⟨_, _, _, rfl, _⟩, _⟩ := h
    rfl
  · obtain ⟨v, ⟨l, c, m, rfl, hl, rfl⟩, q⟩ := h
    refine ⟨_, (pss_cons (ps_set (i := 3) sc_law_changed.nd rfl (Or.inl rfl) pe_str)
      (pss_cons (ps_set (i := 3) sc_law_changed.nd rfl (Or.inl rfl) (pe_op op_add_str (pv 3) pe_str))
      (pss_cons (ps_set (i := 4) sc_law_changed.nd rfl (Or.inl rfl) (pe_ix ix_str (pv 3) (pe_op op_mod (pv 1) pe_int) (fun _ _ => rfl)))
      (pss_cons (ps_set (i := 5) sc_law_changed.nd rfl (Or.inl rfl) (pe_op op_mod (pv 2) (pe_op op_add (pe_callB call_len_str (by rfl) B.m_len PySem.boot_len (pa_cons (pv 0) pa_nil)) pe_int)))
      (pss_cons (ps_if (pt_cmpR op_eq (pe_op op_mod (pe_op op_fdiv (pv 1) pe_int) pe_int) pe_int (nomark _)) (pss_one (ps_ret (pe_op op_add_str (pe_op op_add_str (pe_slice C8.sl_txt (pv 0) po_none (po_some (pv 5))) (pv 4)) (pe_slice C8.sl_txt (pv 0) (po_some (pv 5)) po_none)))) pss_nil)
      (pss_cons (ps_if (pt_cmpR op_eq (pe_op op_mod (pe_op op_fdiv (pv 1) pe_int) pe_int) pe_int (nomark _)) (pss_one (ps_ret (pe_op op_add_str (pe_op op_add_str (pe_slice C8.sl_txt (pv 0) po_none (po_some (pv 5))) (pv 4)) (pe_slice C8.sl_txt (pv 0) (po_some (pe_op op_add (pv 5) pe_int)) po_none)))) pss_nil)
      (pss_one (ps_ret (pe_op op_add_str (pe_slice C8.sl_txt (pv 0) po_none (po_some (pv 5))) (pe_slice C8.sl_txt (pv 0) (po_some (pe_op op_add (pv 5) pe_int)) po_none)))))))))), ?_⟩
    try dsimp only [cxOf, Cx.nox, Cx.wish]
    rw [show L2.start ["_law_line", "_law_cell", "_law_more", "_law_some", "_law_sign", "_law_at"] [.str (SX.S l), .int c, .int m] = [some (.str (SX.S l)), some (.int c), some (.int m), none, none, none] from rfl]
    refine q_asg (v := .str (SX.S ([32, 33, 34, 35, 36] ++ (List.range 55).map (· + 38) ++ [93, 94, 95, 96]))) (ev_cS (by decide +kernel)) fun H1 e1 => ?_
    walk_at "st"
    refine q_asg (v := .str (SX.S someSigns)) (ev_op (by walk_at "ev") (ev_cS (l := (List.range 30).map (· + 97)) (by decide +kernel)) (rv_addS (by decide))) fun H2 e2 => ?_
    walk_at "st"
    have at1 : atI (SX.S someSigns).cps.toList (c % 94) = some (someSigns.getD (c % 94).toNat 0) := some_at (by omega) (by omega)
    refine q_asg (v := .str (SX.S [someSigns.getD (c % 94).toNat 0])) (ev_op (by walk_at "ev") (by walk_at "ev") (rv_ixS (by rw [SX.S_len]; decide) at1)) fun H3 e3 => ?_
    walk_at "st"
    obtain ⟨k, hk⟩ : ∃ k : Int, m % ((l.length : Int) + 1) = k := ⟨_, rfl⟩
    have k0 : 0 ≤ k := hk ▸ Int.emod_nonneg _ (by omega)
    have k1 : k < (l.length : Int) + 1 := hk ▸ Int.emod_lt_of_pos _ (by omega)
    have ec : changedL l c m = (if c / 94 % 3 = 0 then l.take k.toNat ++ [someSigns.getD (c % 94).toNat 0] ++ l.drop k.toNat else if c / 94 % 3 = 1 then l.take k.toNat ++ [someSigns.getD (c % 94).toNat 0] ++ l.drop (k.toNat + 1) else l.take k.toNat ++ l.drop (k.toNat + 1)) := by
      unfold changedL
      dsimp only
      rw [hk]
    rw [ec] at q
    generalize someSigns.getD (c % 94).toNat 0 = sg at q
    refine q_asg (v := .int k) (ev_int (ev_op (by walk_at "ev") (ev_op (ev_cb (by walk_at "ea") (rc_lenS (by omega))) (by walk_at "ev") (by walk_at "rv")) (rv_I (by omega))) hk) fun H4 e4 => ?_
    walk_at "st"
    have kl : (l.take k.toNat).length ≤ 9000 := by rw [List.length_take]; omega
    have dl : (l.drop k.toNat).length ≤ 9000 := by rw [List.length_drop]; omega
    have d2 : (l.drop (k.toNat + 1)).length ≤ 9000 := by rw [List.length_drop]; omega
    have ek : (k + 1).toNat = k.toNat + 1 := by omega
    apply q_when (b := decide (c / 94 % 3 = 0))
    · exact et_is (by walk_at "et") (by rw [dec_eqI])
    · intro z H5 e5
      rw [if_pos (of_decide_eq_true z)] at q
      refine s_ret (v := .str (SX.S (l.take k.toNat ++ [sg] ++ l.drop k.toNat))) (ev_op (ev_op (ev_slTo (by walk_at "ev") (by walk_at "ev") k0 (by omega)) (by walk_at "ev") (rv_addS (by rw [List.length_cons, List.length_nil]; omega))) (ev_slFrom (by walk_at "ev") (by walk_at "ev") k0 (by omega)) (rv_addS (by rw [List.length_append, List.length_cons, List.length_nil]; omega))) fun H6 e6 => q H6 (by walk_at "ex")
    · intro z H5 e5
      rw [if_neg (of_decide_eq_false z)] at q
      apply q_when (b := decide (c / 94 % 3 = 1))
      · exact et_is (by walk_at "et") (by rw [dec_eqI])
      · intro z H6 e6
        rw [if_pos (of_decide_eq_true z), ← ek] at q
        refine s_ret (v := .str (SX.S (l.take k.toNat ++ [sg] ++ l.drop (k + 1).toNat))) (ev_op (ev_op (ev_slTo (by walk_at "ev") (by walk_at "ev") k0 (by omega)) (by walk_at "ev") (rv_addS (by rw [List.length_cons, List.length_nil]; omega))) (ev_slFrom (by walk_at "ev") (by walk_at "ev") (by omega) (by omega)) (rv_addS (by rw [ek, List.length_append, List.length_cons, List.length_nil]; omega))) fun H7 e7 => q H7 (by walk_at "ex")
      · intro z H6 e6
        rw [if_neg (of_decide_eq_false z), ← ek] at q
        refine s_ret (v := .str (SX.S (l.take k.toNat ++ l.drop (k + 1).toNat))) (ev_op (ev_slTo (by walk_at "ev") (by walk_at "ev") k0 (by omega)) (ev_slFrom (by walk_at "ev") (by walk_at "ev") (by omega) (by omega)) (rv_addS (by rw [ek]; omega))) fun H7 e7 => q H7 (by walk_at "ex")
abbrev s_law_sole : Stmt := topS 20
theorem sc_law_sole : FnScope ["_law_error", "_law_many"] ["_law_error"] (defScope s_law_sole) := ⟨rfl, rfl, rfl, by decide +kernel, rfl, by decide +kernel, by decide +kernel⟩

theorem ok_sole {f L N S T U HE C : Addr} {fd : FuncData} (F : Fun K "_law_sole" "_law_sole" s_law_sole f fd) (B : Blt mg) (X_NoLand : ExK K mg "NoLand" L) (X_NoHill : ExK K mg "NoHill" N) (X_SameHill : ExK K mg "SameHill" S) (X_TooHigh : ExK K mg "TooHigh" T)
    (X_NothingDone : ExK K mg "NothingDone" U) (X_HillError : ExK K mg "HillError" HE) (h : SoleK K L N S T U HE C) : FnZ P w K mg base 1 f fd "_law_error" C (.bl true) := by
  refine Fun.okZ F sc_law_sole (fun cdv A out s G q hr hz hf => ?_)
  refine ⟨_, (pss_cons (ps_set (i := 1) sc_law_sole.nd rfl (Or.inl rfl) pe_int)
      (pss_cons (ps_set (i := 1) sc_law_sole.nd rfl (Or.inl rfl) (pe_op op_add (pv 1) (pe_callTy call_int1 (by rfl) B.m_int (by decide +kernel) (pa_cons (pe_callB (call_isZ h.e hz hf List.mem_cons_self) (by rfl) B.m_isinstance (by decide +kernel) (pa_cons (pv 0) (pa_cons (pe_glob (v := .ref L) (by rfl) X_NoLand.g rfl) pa_nil))) pa_nil))))
      (pss_cons (ps_set (i := 1) sc_law_sole.nd rfl (Or.inl rfl) (pe_op op_add (pv 1) (pe_callTy call_int1 (by rfl) B.m_int (by decide +kernel) (pa_cons (pe_callB (call_isZ h.e hz hf List.mem_cons_self) (by rfl) B.m_isinstance (by decide +kernel) (pa_cons (pv 0) (pa_cons (pe_glob (v := .ref N) (by rfl) X_NoHill.g rfl) pa_nil))) pa_nil))))
      (pss_cons (ps_set (i := 1) sc_law_sole.nd rfl (Or.inl rfl) (pe_op op_add (pv 1) (pe_callTy call_int1 (by rfl) B.m_int (by decide +kernel) (pa_cons (pe_callB (call_isZ h.e hz hf List.mem_cons_self) (by rfl) B.m_isinstance (by decide +kernel) (pa_cons (pv 0) (pa_cons (pe_glob (v := .ref S) (by rfl) X_SameHill.g rfl) pa_nil))) pa_nil))))
      (pss_cons (ps_set (i := 1) sc_law_sole.nd rfl (Or.inl rfl) (pe_op op_add (pv 1) (pe_callTy call_int1 (by rfl) B.m_int (by decide +kernel) (pa_cons (pe_callB (call_isZ h.e hz hf List.mem_cons_self) (by rfl) B.m_isinstance (by decide +kernel) (pa_cons (pv 0) (pa_cons (pe_glob (v := .ref T) (by rfl) X_TooHigh.g rfl) pa_nil))) pa_nil))))
      (pss_cons (ps_set (i := 1) sc_law_sole.nd rfl (Or.inl rfl) (pe_op op_add (pv 1) (pe_callTy call_int1 (by rfl) B.m_int (by decide +kernel) (pa_cons (pe_callB (call_isZ h.e hz hf List.mem_cons_self) (by rfl) B.m_isinstance (by decide +kernel) (pa_cons (pv 0) (pa_cons (pe_glob (v := .ref U) (by rfl) X_NothingDone.g rfl) pa_nil))) pa_nil))))
      (pss_one (ps_ret (pe_and (pe_cmpR op_eq (pv 1) pe_int (nomark _)) (pe_and (pe_callB (call_isZ h.e hz hf List.mem_cons_self) (by rfl) B.m_isinstance (by decide +kernel) (pa_cons (pv 0) (pa_cons (pe_glob (v := .ref HE) (by rfl) X_HillError.g rfl) pa_nil))) (pe_one (pe_callB (call_isZ h.e hz hf List.mem_cons_self) (by rfl) B.m_isinstance (by decide +kernel) (pa_cons (pv 0) (pa_cons (pe_bltn (v := .ty "ValueError") (by rfl) B.m_ValueError (by decide +kernel) rfl) pa_nil)))))))))))))), ?_⟩
  try dsimp only [L2H.cxH, cxOf, Cx.nox, Cx.wish]
  rw [show L2.start ["_law_error", "_law_many"] [.ref q.1] = [some (.ref q.1), none] from rfl]
  obtain ⟨b1, b2, b3, b4, b5, k1, k2, k3, k4, k5, one⟩ := h.one
  have kh := h.h
  have kv := h.v
  refine q_asg (v := .int 0) (by walk_at "ev") fun H1 e1 => ?_
  walk_at "st"
  refine q_asg (v := .int (0 + (if b1 then 1 else 0))) (by walk_at "ev") fun H2 e2 => ?_
  walk_at "st"
  refine q_asg (v := .int (0 + (if b1 then 1 else 0) + (if b2 then 1 else 0))) (by walk_at "ev") fun H3 e3 => ?_
  walk_at "st"
  refine q_asg (v := .int (0 + (if b1 then 1 else 0) + (if b2 then 1 else 0) + (if b3 then 1 else 0))) (by walk_at "ev") fun H4 e4 => ?_
  walk_at "st"
  refine q_asg (v := .int (0 + (if b1 then 1 else 0) + (if b2 then 1 else 0) + (if b3 then 1 else 0) + (if b4 then 1 else 0))) (by walk_at "ev") fun H5 e5 => ?_
  walk_at "st"
  refine q_asg (v := .int (0 + (if b1 then 1 else 0) + (if b2 then 1 else 0) + (if b3 then 1 else 0) + (if b4 then 1 else 0) + (if b5 then 1 else 0))) (by walk_at "ev") fun H6 e6 => ?_
  walk_at "st"
  have e : (0 + (if b1 then 1 else 0) + (if b2 then 1 else 0) + (if b3 then 1 else 0) + (if b4 then 1 else 0) + (if b5 then 1 else 0) : Int) = 1 := by
    cases b1 <;> cases b2 <;> cases b3 <;> cases b4 <;> cases b5 <;> first | rfl | cases one
  rw [e]
  refine s_ret (v := .bl true) (ev_is (v := .bl (decide (V.int 1 = V.int 1) && (true && true))) (by walk_at "ev") (by simp)) fun H7 e7 => ⟨rfl, by walk_at "ex"⟩
abbrev s_law_refused : Stmt := topS 28
theorem sc_law_refused : FnScope ["_law_line", "_law_error"] ["_law_line"] (defScope s_law_refused) := ⟨rfl, rfl, rfl, by decide +kernel, rfl, by decide +kernel, by decide +kernel⟩

theorem ok_refused {f L N S T U HE : Addr} {fd : FuncData} (F : Fun K "_law_refused" "_law_refused" s_law_refused f fd) (X_NoLand : ExK K mg "NoLand" L) (X_HillError : ExK K mg "HillError" HE) (soleL : SoleK K L N S T U HE L)
    (C__law_sole : CalZ P w K mg base "_law_sole" 1 "_law_error" fun C v => SoleK K L N S T U HE C ∧ v = .bl true) (C_read : CalX P w K mg base "read" 3 ["line"] (spLX RRead (RNoRead L))) :
    FnOk P w K mg base CX0 5 f fd ["_law_line"] (spV RRef11) := by
  refine F.ok sc_law_refused (fun vs H Q E h => ?_) (fun cdv A outer s H vs Q E hr h => ?_)
  · obtain ⟨_, ⟨_, rfl, _⟩, _⟩ := h
    rfl
  · obtain ⟨v, ⟨x, rfl, hb, rfl⟩, q⟩ := h
    refine ⟨_, (pss_cons (ps_catch rfl rfl sc_law_refused.nd (fun W pn xe tk => (pss_one (ps_expr (pe_calX C_read hr tk (pa_cons (pv 0) pa_nil))))) (.cons (i := 1) rfl rfl ⟨rfl, by decide, Or.inl X_NoLand.g⟩ (fun a oe cls d pn hz hf => (pss_one (ps_ret (pe_calZ (j := 4) C__law_sole (L2H.RoomH.mk hr.dp hr.un) hz hf List.mem_cons_self (pa_cons (pv 1) pa_nil))))) (.bare ⟨rfl, by decide, Or.inl X_HillError.g⟩ .nil)))
      (pss_one (ps_ret pe_bl))), ?_⟩
    try dsimp only [cxOf, Cx.nox, Cx.wish]
    rw [show L2.start ["_law_line", "_law_error"] [x] = [some (x), none] from rfl]
    refine rx_calL (vs := [x]) (by walk_at "ea") (fun H2 e2 => ⟨x, rfl, hb.ex e2, rfl⟩) fun H2 e2 => ?_
    refine ⟨true, X_NoLand.te, fun _ a na => ?_, fun z => nomatch z⟩
    dsimp only
    walk_at "st"
    exact s_ret (v := .bl true) (ev_calZ (by walk_at "ea") ⟨soleL, rfl⟩) fun H3 e3 => q H3 (by walk_at "ex")
abbrev s_law_height_of : Stmt := topS 29
theorem sc_law_height_of : FnScope ["_law_word", "_law_figures", "_law_found", "_law_sign"] ["_law_word"] (defScope s_law_height_of) := ⟨rfl, rfl, rfl, by decide +kernel, rfl, by decide +kernel, by decide +kernel⟩

theorem ok_hei_of {f : Addr} {fd : FuncData} (F : Fun K "_law_height_of" "_law_height_of" s_law_height_of f fd) (B : Blt mg) : FnOk P w K mg base CX0 1 f fd ["_law_word"] (spV RHeiOf) := by
  refine F.ok sc_law_height_of (fun vs H Q E h => ?_) (fun cdv A outer s H vs Q E hr h => ?_)
  · obtain ⟨_, ⟨_, rfl, _⟩, _⟩ := h
    rfl
  · obtain ⟨v, ⟨u, rfl, hl, rfl⟩, q⟩ := h
    refine ⟨_, (pss_cons (ps_set (i := 1) sc_law_height_of.nd rfl (Or.inl rfl) (pv 0))
      (pss_cons (ps_if (pt_cmpR op_eq (pe_slice C8.sl_txt (pv 0) po_none (po_some pe_int)) pe_str (nomark _)) (pss_one (ps_set (i := 1) sc_law_height_of.nd rfl (Or.inl rfl) (pe_slice C8.sl_txt (pv 0) (po_some pe_int) po_none))) pss_nil)
      (pss_cons (ps_if (PW.pt (pw_or (pt_cmpR op_eq (pv 1) pe_str (nomark _)) (pw_or (pt_cmpR op_gt (pe_callB call_len_str (by rfl) B.m_len PySem.boot_len (pa_cons (pv 1) pa_nil)) pe_int (nomark _)) (pw_or1 (PW.pt (pw_and (pt_cmpR op_eq (pe_ix ix_str (pv 1) pe_int (fun _ _ => rfl)) pe_str (nomark _)) (pw_and1 (pt_cmpR op_ne (pv 0) pe_str (nomark _))))))))) (pss_one (ps_ret pe_non)) pss_nil)
      (pss_cons (ps_set (i := 2) sc_law_height_of.nd rfl (Or.inl rfl) pe_int)
      (pss_cons (ps_for PassesOwn.never rfl (pi_str (pv 1)) (pg_name (i := 3) sc_law_height_of.nd rfl (Or.inl rfl)) (pss_cons (ps_if (pt_cmpR op_notIn_sign (pv 3) pe_str rfl) (pss_one (ps_ret pe_non)) pss_nil)
      (pss_one (ps_set (i := 2) sc_law_height_of.nd rfl (Or.inl rfl) (pe_op op_add (pe_op op_mul (pv 2) pe_int) (pe_m1 PySem.F.slot_str_index PySem.F.type_str_index mt_sindex pe_str (pv 3)))))))
      (pss_cons (ps_if (pt_cmpR op_eq (pe_slice C8.sl_txt (pv 0) po_none (po_some pe_int)) pe_str (nomark _)) (pss_one (ps_set (i := 2) sc_law_height_of.nd rfl (Or.inl rfl) (pe_un un_neg (pv 2)))) pss_nil)
      (pss_cons (ps_if (pt_not (pt_chain op_le op_le (pe_un un_neg (pe_op op_pow pe_int pe_int)) (pv 2) (pe_op op_pow pe_int pe_int))) (pss_one (ps_ret pe_non)) pss_nil)
      (pss_one (ps_ret (pv 2)))))))))), ?_⟩
    try dsimp only [cxOf, Cx.nox, Cx.wish]
    rw [show L2.start ["_law_word", "_law_figures", "_law_found", "_law_sign"] [.str (SX.S u)] = [some (.str (SX.S u)), none, none, none] from rfl]
    have fl := figs_len u
    refine q_asg (v := .str (SX.S u)) (by walk_at "ev") fun H1 e1 => ?_
    walk_at "st"
    -- the figures
    have ts : ∀ {σ : L2.St} {H2 : Hp}, σ[0]? = some (some (.str (SX.S u))) → EvT (tTest (tOp rEq (tSl C8.rSlX (tVar 0) tNoPart (tPart (tC (.int 1)))) (tC (.str "-")))) σ H2 (decide (u.head? = some 45)) := fun {σ H2} hσ =>
      et_is (et_test (ev_op (ev_slTo (a := u) (i := 1) (ev_var hσ) ev_c (by decide) (by omega)) (ev_cS (l := [45]) (by decide +kernel)) rv_eqS)) (take_one u 45)
    have cut : ∀ {D : Ends} {tz : TS} {H2 : Hp}, (∀ H3, Ex H2 H3 → tz D [some (.str (SX.S u)), some (.str (SX.S (figs u))), none, none] H3) →
        tSeq (tIfS (tTest (tOp rEq (tSl C8.rSlX (tVar 0) tNoPart (tPart (tC (.int 1)))) (tC (.str "-")))) (tAsg (tSl C8.rSlX (tVar 0) (tPart (tC (.int 1))) tNoPart) (gName 1)) tNext) tz D [some (.str (SX.S u)), some (.str (SX.S u)), none, none] H2 := fun {D tz H2} k => by
      apply q_when (b := decide (u.head? = some 45))
      · exact ts rfl
      · intro z H3 e3
        have e : u.drop (1 : Int).toNat = figs u := by
          unfold figs
          rw [if_pos (of_decide_eq_true z)]
          exact List.drop_one ..
        refine s_asg (v := .str (SX.S (u.drop (1 : Int).toNat))) (ev_slFrom (by walk_at "ev") (by walk_at "ev") (by decide) (by omega)) fun H4 e4 => ?_
        rw [e]
        exact k H4 (by walk_at "ex")
      · intro z H3 e3
        have e : u = figs u := by
          unfold figs
          rw [if_neg (of_decide_eq_false z)]
        have k3 := k H3 e3
        rw [← e] at k3
        exact k3
    refine cut fun H2 e2 => ?_
    -- no figures, too many, a leading nought
    obtain ⟨b, hb⟩ : ∃ b, (decide (figs u = []) || (decide (19 < (figs u).length) || leadW u)) = b := ⟨_, rfl⟩
    apply q_when (b := b)
    · refine et_is (et_or (et_test (ev_op (by walk_at "ev") (ev_cS (l := []) (by decide +kernel)) rv_eqS)) fun z => et_or (et_test (ev_op (ev_cb (by walk_at "ea") (rc_lenS (by omega))) (by walk_at "ev") (by walk_at "rv"))) fun _ => et_is (b := leadW u) (et_and (et_test (ev_op (ev_op (by walk_at "ev") (by walk_at "ev") (rv_head (of_decide_eq_false z) (by omega))) (ev_cS (l := [48]) (by decide +kernel)) rv_eqS)) fun _ => et_test (ev_op (by walk_at "ev") (ev_cS (l := [48]) (by decide +kernel)) rv_neS)) (lead_head u (of_decide_eq_false z))) ?_
      rw [← hb, dec_natlt]
    · intro z H3 e3
      subst z
      have e : heiV u = .non := heiV_early hb
      rw [e] at q
      exact s_ret (v := .non) (by walk_at "ev") fun H4 e4 => q H4 (by walk_at "ex")
    intro z H3 e3
    subst z
    rw [Bool.or_eq_false_iff, Bool.or_eq_false_iff, decide_eq_false_iff_not, decide_eq_false_iff_not] at hb
    obtain ⟨ne, h19, hd⟩ := hb
    refine q_asg (v := .int 0) (by walk_at "ev") fun H4 e4 => ?_
    walk_at "st"
    refine q_forSt (w := figs u) (by walk_at "ev") (fun i σ' H' => Ex H H' ∧ ((figs u).take i).all dig = true ∧ ∃ v3, σ' = [some (.str (SX.S u)), some (.str (SX.S (figs u))), some (.int ((NumText.digitsVal ((figs u).take i) : Nat) : Int)), v3]) (fun H5 e5 => ⟨by walk_at "ex", rfl, none, rfl⟩) ?_ ?_
    · rintro i c σ' H5 hc ⟨e5, ad, v3, rfl⟩
      walk_at "st"
      have tk : (figs u).take (i + 1) = (figs u).take i ++ [c] := by rw [List.take_add_one, hc]; rfl
      have il := (List.getElem?_eq_some_iff.mp hc).1
      cases hg : dig c with
      | false =>
        apply q_when (b := true)
        · exact et_is (et_test (ev_op (by walk_at "ev") (ev_cS (l := ten) (by decide +kernel)) rv_notInS)) (by rw [show decide (c ∈ ten) = dig c from ten_dig c, hg]; rfl)
        · intro _ H6 e6
          have e : heiV u = .non := heiV_sign (List.mem_of_getElem? hc) hg
          rw [e] at q
          exact s_ret (v := .non) (by walk_at "ev") fun H7 e7 => q H7 (by walk_at "ex")
        intro z
        cases z
      | true =>
        apply q_when (b := false)
        · exact et_is (et_test (ev_op (by walk_at "ev") (ev_cS (l := ten) (by decide +kernel)) rv_notInS)) (by rw [show decide (c ∈ ten) = dig c from ten_dig c, hg]; rfl)
        · intro z
          cases z
        intro _ H6 e6
        have small := digits_small ((figs u).take i) (by rw [List.length_take]; omega) ad
        have ev2 : NumText.digitsVal ((figs u).take (i + 1)) = NumText.digitsVal ((figs u).take i) * 10 + (c - 48) := by rw [tk, NumText.digitsVal_snoc]
        refine s_asg (v := .int ((NumText.digitsVal ((figs u).take (i + 1)) : Nat) : Int)) (ev_int (ev_op (ev_op (by walk_at "ev") (by walk_at "ev") (rv_I (by refine .inr ⟨?_, ?_⟩ <;> omega))) (ev_index (ev_cS (by decide +kernel)) (by walk_at "ev") hg) (by walk_at "rv")) (by rw [ev2]; omega)) fun H7 e7 => ?_
        refine ⟨by walk_at "ex", ?_, _, rfl⟩
        rw [tk, List.all_append, ad]
        show ((true && (dig c && true)) = true)
        rw [hg]
        rfl
    · rintro σ' H5 ⟨e5, ad, v3, rfl⟩
      rw [List.take_length] at ad ⊢
      have small := digits_small (figs u) (by omega) ad
      have hg : goodW u = true := by
        unfold goodW plainW
        rw [ad, hd, decide_eq_true (p := (figs u).length ≤ 19) (by omega)]
        cases k : figs u with
        | nil => exact absurd k ne
        | cons _ _ => rfl
      have cut2 : ∀ {D : Ends} {tz : TS} {H2 : Hp}, (∀ H3, Ex H2 H3 → tz D [some (.str (SX.S u)), some (.str (SX.S (figs u))), some (.int (numW u)), v3] H3) →
          tSeq (tIfS (tTest (tOp rEq (tSl C8.rSlX (tVar 0) tNoPart (tPart (tC (.int 1)))) (tC (.str "-")))) (tAsg (tUn (rU fun i => .int (-i)) (tVar 2)) (gName 2)) tNext) tz D [some (.str (SX.S u)), some (.str (SX.S (figs u))), some (.int ((NumText.digitsVal (figs u) : Nat) : Int)), v3] H2 := fun {D tz H2} k => by
        apply q_when (b := decide (u.head? = some 45))
        · exact ts rfl
        · intro z H3 e3
          refine s_asg (v := .int (-((NumText.digitsVal (figs u) : Nat) : Int))) (by walk_at "ev") fun H4 e4 => ?_
          have k4 := k H4 (e3.trans e4)
          unfold numW at k4
          rw [if_pos (of_decide_eq_true z)] at k4
          exact k4
        · intro z H3 e3
          have k4 := k H3 e3
          unfold numW at k4
          rw [if_neg (of_decide_eq_false z)] at k4
          exact k4
      refine cut2 fun H6 e6 => ?_
      rw [heiV_good hg] at q
      apply q_when (b := !inB (numW u))
      · exact et_is (et_not (et_B (ev_chain (x := .int (-1000000000000000000)) (by walk_at "ev") (by walk_at "ev") (by walk_at "ev") (by walk_at "rv") (by walk_at "rv")))) rfl
      · intro z H7 e7
        rw [if_neg (by cases k : inB (numW u) <;> simp_all)] at q
        exact s_ret (v := .non) (by walk_at "ev") fun H8 e8 => q H8 (by walk_at "ex")
      · intro z H7 e7
        rw [if_pos (by cases k : inB (numW u) <;> simp_all)] at q
        exact s_ret (v := .int (numW u)) (by walk_at "ev") fun H8 e8 => q H8 (by walk_at "ex")
abbrev s_law_read_alike : Stmt := topS 30
theorem sc_law_read_alike : FnScope ["_law_line", "_law_due", "_law_word"] ["_law_line"] (defScope s_law_read_alike) := ⟨rfl, rfl, rfl, by decide +kernel, rfl, by decide +kernel, by decide +kernel⟩

theorem ok_alike {f N : Addr} {fd : FuncData} (F : Fun K "_law_read_alike" "_law_read_alike" s_law_read_alike f fd) (B : Blt mg) (X_NoLand : ExK K mg "NoLand" N) (C__law_height_of : Cal P w K mg base "_law_height_of" 1 ["_law_word"] (spV RHeiOf))
    (C__law_refused : Cal P w K mg base "_law_refused" 5 ["_law_line"] (spV RRef11)) (C_read : CalX P w K mg base "read" 3 ["line"] (spLX RRead (RNoRead N))) : FnOk P w K mg base CX0 6 f fd ["_law_line"] (spV RAlike) := by
  refine F.ok sc_law_read_alike (fun vs H Q E h => ?_) (fun cdv A outer s H vs Q E hr h => ?_)
  · obtain ⟨_, ⟨_, rfl, _⟩, _⟩ := h
    rfl
  · obtain ⟨v, ⟨l, rfl, hl, rfl⟩, q⟩ := h
    refine ⟨_, (pss_cons (ps_setLc (i := 1) (own := [("_law_word", 2)]) (g := gName 2) (tt := tYes) rfl sc_law_read_alike.nd rfl rfl (sw_true rfl rfl rfl (by decide +kernel)) (pi_list (pe_split (pv 0) pe_str)) (blkOk_by (N := ["_law_line", "_law_due", "_law_word"]) (sc := defScope s_law_read_alike) (by decide +kernel)) (fun _ _ _ _ _ => (pg_name (i := 2) sc_law_read_alike.nd rfl (Or.inl rfl))) (fun _ _ _ _ _ => pts_nil) (fun _ _ _ _ _ => (pe_cal C__law_height_of hr (pa_cons (pv 2) pa_nil))))
      (pss_cons (ps_if (PW.pt (pw_or (pt_cmpR op_in_seq pe_non (pv 1) rfl) (pw_or1 (pt_cmpR op_gt (pe_callB call_len_seq (by rfl) B.m_len PySem.boot_len (pa_cons (pv 1) pa_nil)) pe_int (nomark _))))) (pss_one (ps_ret (pe_cal C__law_refused hr (pa_cons (pv 0) pa_nil)))) pss_nil)
      (pss_one (ps_try_many rfl rfl takes_none5 (fun W pn xe tk po => (pss_one (ps_ret (pe_cmpR (op_eqK (K := K) rfl hr.units) (pe_calX C_read hr tk (pa_cons (pv 0) pa_nil)) (pv 1) (nomark _))))) (.cons ⟨rfl, by decide, Or.inl X_NoLand.g⟩ (fun a oe cls d pn hz hf => (pss_one (ps_ret pe_bl))) .nil))))), ?_⟩
    try dsimp only [cxOf, Cx.nox, Cx.wish]
    rw [show L2.start ["_law_line", "_law_due", "_law_word"] [.str (SX.S l)] = [some (.str (SX.S l)), none, none] from rfl]
    have wl := words_le l
    refine q_asgL (xs := (wordsOf l).map heiV) (el_lcMN (as := wordsOf l) (r := fun u => V.str (SX.S u)) heiV (el_split (by walk_at "ev") (ev_cS (by decide +kernel)) hl) (by omega) (fun _ => rfl) fun u H1 e1 hu => ?_) fun p H1 np e1 hp => ?_
    · have := words_short hu
      walk_at "wi"
      exact ev_cal (vs := [.str (SX.S u)]) (by walk_at "ea") fun H2 e2 => ⟨u, rfl, by omega, rfl⟩
    walk_at "st"
    have hll : ((wordsOf l).map heiV).length = (wordsOf l).length := List.length_map ..
    obtain ⟨b, hb⟩ : ∃ b, (badL l || decide (200 < (wordsOf l).length)) = b := ⟨_, rfl⟩
    apply q_when (b := b)
    · refine et_is (et_or (et_test (ev_op (by walk_at "ev") (by walk_at "ev") (rv_isL (by walk_at "sq") rfl (hei_flat _)))) fun _ => by walk_at "et") ?_
      rw [none_bad, ← hb, hll]
      congr 1
      by_cases k : 200 < (wordsOf l).length
      · rw [decide_eq_true k, decide_eq_true (by omega)]
      · rw [decide_eq_false k, decide_eq_false (by omega)]
    · intro z H2 e2
      subst z
      refine s_ret (v := .bl true) (ev_cal (vs := [.str (SX.S l)]) (by walk_at "ea") fun H3 e3 => ⟨.str (SX.S l), rfl, .inr ⟨l, rfl, hl, ?_⟩, rfl⟩) fun H3 e3 => q H3 (by walk_at "ex")
      rw [Bool.or_eq_true, decide_eq_true_eq] at hb
      exact hb
    · intro z H2 e2
      subst z
      rw [Bool.or_eq_false_iff, decide_eq_false_iff_not] at hb
      obtain ⟨g1, g2⟩ := good_line hb.1
      rw [g2] at hp
      have ln : ((wordsOf l).map numW).length = (wordsOf l).length := List.length_map ..
      generalize (wordsOf l).map numW = ns at g1 hp ln
      refine s_ret (v := .bl true) (ev_is (v := .bl (decide (ns = ns))) (ev_opL1 (xs := ns.map V.int) (el_calX (vs := [.str (SX.S l)]) (by walk_at "ea") fun H3 e3 => ⟨l, ns, rfl, hl, g1, by omega, rfl⟩) (fun H3 e3 => by walk_at "ev") fun r H3 hr3 e3 => rv_eqI (sq_of hr3) (sq_of (e3 _ _ (e2 _ _ hp)))) (by simp)) fun H3 e3 => q H3 (by walk_at "ex")
def spLaw (K : PySem.W.Frag) : Sp := fun vs H Q _ => ∃ (a : Addr) (ns : List Int), vs = [.ref a] ∧ SqL K H a (ns.map V.int) ∧ ns.length ≤ 63 ∧ ∀ H', Q (.bl true) H'
abbrev slaw : Stmt := topS 32
theorem sclaw : FnScope ["_law_script", "_law_land", "_law_handed", "_law_words", "_law_line", "_law_found", "_law_wrong", "_law_at", "_law_height", "_law_k"] ["_law_script"] (defScope slaw) := ⟨rfl, rfl, rfl, by decide +kernel, rfl, by decide +kernel, by decide +kernel⟩

theorem ok_law {f N : Addr} {fd : FuncData} (F : Fun K "law" "law" slaw f fd) (B : Blt mg) (C__law_cell_at : Cal P w K mg base "_law_cell_at" 1 ["_law_script", "_law_k"] (spV (RCel K)))
    (C__law_whole : Cal P w K mg base "_law_whole" 1 ["_law_found"] (spV RWhole)) (C__law_land_by : Cal P w K mg base "_law_land_by" 2 ["_law_script", "_law_most"] (spL (RLand K)))
    (C__law_longer : Cal P w K mg base "_law_longer" 2 ["_law_script", "_law_land", "_law_most", "_law_many"] (spL (RLonger K))) (C_shown : Cal P w K mg base "shown" 1 ["land"] (spV (RShown K)))
    (C_read : CalX P w K mg base "read" 3 ["line"] (spLX RRead (RNoRead N))) (C__law_figures_by : Cal P w K mg base "_law_figures_by" 1 ["_law_height"] (spV RFig)) (C__law_wrong_by : Cal P w K mg base "_law_wrong_by" 1 ["_law_words", "_law_cell"] (spV (RWrong K)))
    (C__law_refused : Cal P w K mg base "_law_refused" 5 ["_law_line"] (spV RRef11)) (C__law_read_alike : Cal P w K mg base "_law_read_alike" 6 ["_law_line"] (spV RAlike)) (C__law_changed : Cal P w K mg base "_law_changed" 1 ["_law_line", "_law_cell", "_law_more"] (spV RChanged)) :
    FnOk P w K mg base CX0 7 f fd ["_law_script"] (spLaw K) := by
  refine F.ok sclaw (fun vs H Q E h => ?_) (fun cdv A outer s H vs Q E hr h => ?_)
  · obtain ⟨_, _, rfl, _⟩ := h
    rfl
  · obtain ⟨l, ns, rfl, hs, hlen, q⟩ := h
    refine ⟨_, (pss_cons (ps_set (i := 1) sclaw.nd rfl (Or.inl rfl) (pe_cal C__law_land_by hr (pa_cons (pv 0) (pa_cons pe_int pa_nil))))
      (Evl.pss_cut (ps_if (pt_cmpR op_eq (pe_op op_mod (pe_cal C__law_cell_at hr (pa_cons (pv 0) (pa_cons pe_int pa_nil))) pe_int) pe_int (nomark _)) (pss_one (ps_set (i := 1) sclaw.nd rfl (Or.inl rfl) (pe_cal C__law_longer hr (pa_cons (pv 0) (pa_cons (pv 1) (pa_cons pe_int (pa_cons pe_int pa_nil))))))) pss_nil)
      (pss_cons (ps_set (i := 1) sclaw.nd rfl (Or.inl rfl) (pe_slice sl_list (pv 1) po_none (po_some pe_int)))
      (pss_cons (ps_set (i := 2) sclaw.nd rfl (Or.inl rfl) (pe_callTy call_list_of (by rfl) B.m_list (by decide +kernel) (pa_cons (pv 1) pa_nil)))
      (pss_cons (ps_setLc (i := 3) (own := [("_law_height", 8)]) (g := gName 8) (tt := tYes) rfl sclaw.nd rfl rfl (sw_true rfl rfl rfl (by decide +kernel)) (pi_list (pv 1)) (blkOk_by (N := ["_law_script", "_law_land", "_law_handed", "_law_words", "_law_line", "_law_found", "_law_wrong", "_law_at", "_law_height", "_law_k"]) (sc := defScope slaw) (by decide +kernel)) (fun _ _ _ _ _ => (pg_name (i := 8) sclaw.nd rfl (Or.inl rfl))) (fun _ _ _ _ _ => pts_nil) (fun _ _ _ _ _ => (pe_cal C__law_figures_by hr (pa_cons (pv 8) pa_nil))))
      (pss_cons (ps_set (i := 4) sclaw.nd rfl (Or.inl rfl) (pe_cal C_shown hr (pa_cons (pv 2) pa_nil)))
      (pss_cons (ps_if (PW.pt (pw_or (pt_not (pt_val (pe_callB call_isi (by rfl) B.m_isinstance (by decide +kernel) (pa_cons (pv 4) (pa_cons (pe_bltn (v := .ty "str") (by rfl) B.m_str (by decide +kernel) rfl) pa_nil))))) (pw_or (pt_cmpR op_ne (pv 4) (pe_join pe_str (pv 3)) (nomark _)) (pw_or1 (pt_cmpR (op_neD hr.units) (pv 2) (pv 1) (nomark _)))))) (pss_one (ps_ret pe_bl)) pss_nil)
      (pss_cons (ps_set (i := 5) sclaw.nd rfl (Or.inl rfl) (pe_cal0 C_read hr (pa_cons (pv 4) pa_nil)))
      (pss_cons (ps_if (PW.pt (pw_or (pt_not (pt_val (pe_callB call_isi (by rfl) B.m_isinstance (by decide +kernel) (pa_cons (pv 5) (pa_cons (pe_bltn (v := .ty "list") (by rfl) B.m_list (by decide +kernel) rfl) pa_nil))))) (pw_or (pt_not (pt_val (pe_callB (cr_all rfl) (by rfl) B.m_all (by decide +kernel) (pa_cons (pe_lc (own := [("_law_height", 8)]) (g := gName 8) (tt := tYes) rfl sclaw.nd (pi_list (pv 5)) (blkOk_by (N := ["_law_script", "_law_land", "_law_handed", "_law_words", "_law_line", "_law_found", "_law_wrong", "_law_at", "_law_height", "_law_k"]) (sc := defScope slaw) (by decide +kernel)) (fun _ _ _ _ _ => (pg_name (i := 8) sclaw.nd rfl (Or.inl rfl))) (fun _ _ _ _ _ => pts_nil) (fun _ _ _ _ _ => (pe_cal C__law_whole hr (pa_cons (pv 8) pa_nil)))) pa_nil)))) (pw_or1 (pt_cmpR (op_neD hr.units) (pv 5) (pv 1) (nomark _)))))) (pss_one (ps_ret pe_bl)) pss_nil)
      (pss_cons (ps_set (i := 6) sclaw.nd rfl (Or.inl rfl) (pe_cal C__law_wrong_by hr (pa_cons (pv 3) (pa_cons (pe_cal C__law_cell_at hr (pa_cons (pv 0) (pa_cons pe_int pa_nil))) pa_nil))))
      (pss_cons (ps_set (i := 7) sclaw.nd rfl (Or.inl rfl) (pe_op op_mod (pe_op op_fdiv (pe_cal C__law_cell_at hr (pa_cons (pv 0) (pa_cons pe_int pa_nil))) pe_int) (pe_callB call_len_seq (by rfl) B.m_len PySem.boot_len (pa_cons (pv 3) pa_nil))))
      (pss_cons (ps_if (PW.pt (pw_or (pt_not (pt_val (pe_cal C__law_refused hr (pa_cons (pv 6) pa_nil)))) (pw_or1 (pt_not (pt_val (pe_cal C__law_refused hr (pa_cons (pe_join pe_str (pe_op op_cat (pe_op op_cat (pe_slice sl_list (pv 3) po_none (po_some (pv 7))) (pe_lst (pa_cons (pv 6) pa_nil))) (pe_slice sl_list (pv 3) (po_some (pe_op op_add (pv 7) pe_int)) po_none))) pa_nil))))))) (pss_one (ps_ret pe_bl)) pss_nil)
      (pss_cons (ps_if (pt_not (pt_val (pe_cal C__law_refused hr (pa_cons (pe_ix ix_list (pe_lst (pa_cons pe_non (pa_cons pe_int (pa_cons (pe_lst (pa_cons pe_str pa_nil)) pa_nil)))) (pe_op op_mod (pe_cal C__law_cell_at hr (pa_cons (pv 0) (pa_cons pe_int pa_nil))) pe_int) (fun _ _ => rfl)) pa_nil)))) (pss_one (ps_ret pe_bl)) pss_nil)
      (pss_cons (ps_if (pt_not (pt_val (pe_cal C__law_read_alike hr (pa_cons (pe_cal C__law_changed hr (pa_cons (pv 4) (pa_cons (pe_cal C__law_cell_at hr (pa_cons (pv 0) (pa_cons pe_int pa_nil))) (pa_cons (pe_cal C__law_cell_at hr (pa_cons (pv 0) (pa_cons pe_int pa_nil))) pa_nil)))) pa_nil)))) (pss_one (ps_ret pe_bl)) pss_nil)
      (pss_one (ps_ret (pe_cal C__law_refused hr (pa_cons (pe_join pe_str (pe_lc (own := [("_law_k", 9)]) (g := gName 9) (tt := tYes) rfl sclaw.nd (pi_range1 (by rfl) B.m_range (pa_cons pe_int pa_nil)) (blkOk_by (N := ["_law_script", "_law_land", "_law_handed", "_law_words", "_law_line", "_law_found", "_law_wrong", "_law_at", "_law_height", "_law_k"]) (sc := defScope slaw) (by decide +kernel)) (fun _ _ _ _ _ => (pg_name (i := 9) sclaw.nd rfl (Or.inl rfl))) (fun _ _ _ _ _ => pts_nil) (fun _ _ _ _ _ => pe_str))) pa_nil)))))))))))))))))), ?_⟩
    try dsimp only [cxOf, Cx.nox, Cx.wish]
    rw [show L2.start ["_law_script", "_law_land", "_law_handed", "_law_words", "_law_line", "_law_found", "_law_wrong", "_law_at", "_law_height", "_law_k"] [.ref l] = [some (.ref l), none, none, none, none, none, none, none, none, none] from rfl]
    have ll : 1 ≤ (landOf ns 12).length ∧ (landOf ns 12).length ≤ 12 := by
      rw [landOf_len]
      omega
    have lb : ∀ i ∈ landOf ns 12, inB i = true := landOf_inB (by decide) (by decide)
    refine q_asgL (xs := (landOf ns 12).map V.int) (by walk_at "eu") fun p1 H1 n1 e1 h1 => ?_
    walk_at "st"
    refine q_cut (M := fun σ' H' => ∃ (lp : Addr) (land : List Int), σ' = [some (.ref l), some (.ref lp), none, none, none, none, none, none, none, none] ∧ Ex H H' ∧ H' lp = some (.lst (land.map V.int)) ∧ 1 ≤ land.length ∧ land.length ≤ 200 ∧ ∀ i ∈ land, inB i = true) ?_ ?_
    · apply s_when
      · walk_at "et"
      · intro _ H2 e2
        refine s_asgL (xs := (longerOf ns (landOf ns 12) 12 188).map V.int) (by walk_at "eu") fun p2 H3 n2 e3 h3 => ?_
        exact ⟨p2, _, rfl, by walk_at "ex", h3, by rw [longerOf_len]; omega, by rw [longerOf_len]; omega, longerOf_inB (by omega) lb⟩
      · intro _ H2 e2
        exact ⟨p1, _, rfl, by walk_at "ex", by walk_at "hp", by omega, by omega, lb⟩
    clear h1 n1 e1 ll lb
    clear H1 p1
    rintro σ' H1 ⟨lq, land, rfl, e1, hq, m1, m2, lb⟩
    have hll : (land.map V.int).length = land.length := List.length_map ..
    refine q_asgL (xs := land.map V.int) (el_eq (el_to 200 (by walk_at "ev") (ev_c (v := .int ((200 : Nat) : Int))) (by walk_at "sq")) (List.take_of_length_le (by rw [hll]; exact m2))) fun lp H2 nl e2 hl => ?_
    walk_at "st"
    clear hq
    refine q_asgL (xs := land.map V.int) (by walk_at "eu") fun hp H3 nh e3 hh => ?_
    walk_at "st"
    refine q_asgL (xs := (land.map wordOf).map fun u => V.str (SX.S u)) (el_eq (el_lcM (as := land) (r := V.int) (fun i => V.str (SX.S (wordOf i))) (by walk_at "ev") (by walk_at "sq") (by omega) (fun _ => rfl) fun i H4 e4 hi => ?_) (List.map_map (f := wordOf) (g := fun u => V.str (SX.S u))).symm) fun wp H4 nw e4 hw => ?_
    · walk_at "wi"
      exact ev_cal (vs := [.int i]) (by walk_at "ea") fun H5 e5 => ⟨i, rfl, lb i hi, rfl⟩
    walk_at "st"
    have lh := line_heights (List.ne_nil_of_length_pos (by omega)) lb
    have lln := line_len m2 lb
    obtain ⟨line, eline⟩ : ∃ line, TL.joinL [32] (land.map wordOf) = line := ⟨_, rfl⟩
    refine q_asg (v := .str (SX.S line)) (ev_cal (vs := [.ref hp]) (by walk_at "ea") fun H5 e5 => ⟨hp, land, rfl, by walk_at "sq", m2, lb, by rw [eline]⟩) fun H5 e5 => ?_
    walk_at "st"
    have wl : ∀ u ∈ land.map wordOf, u.length ≤ 1000 := fun u hu => by
      obtain ⟨i, hi, rfl⟩ := List.mem_map.mp hu
      have := word_len (lb i hi)
      omega
    apply q_when (b := false)
    · refine et_is (a := !true || (!decide (line = TL.joinL [32] (land.map wordOf)) || !decide (land = land))) (et_or (et_not (et_B (ev_cb (by walk_at "ea") (rc_isi_str kb_str_str)))) fun _ => et_or (et_test (ev_op (by walk_at "ev") (ev_join (ev_cS (by decide +kernel)) (by walk_at "ev") (by walk_at "sq") (by rw [List.length_map]; omega) wl) rv_neS)) fun _ => et_test (ev_op (by walk_at "ev") (by walk_at "ev") (rv_neI (by walk_at "sq") (by walk_at "sq")))) (by rw [eline]; simp)
    · intro z
      cases z
    intro _ H6 e6
    rw [eline] at lh lln
    refine q_asgL (xs := land.map V.int) (el_cal0 (vs := [.str (SX.S line)]) (by walk_at "ea") fun H7 e7 => ⟨line, land, rfl, by omega, lh, m2, rfl⟩) fun fp H7 nf e7 hf => ?_
    walk_at "st"
    apply q_when (b := false)
    · refine et_is (a := !true || (!true || !decide (land = land))) (et_or (et_not (et_B (ev_cb (by walk_at "ea") (rc_isi_lst (e := kb_list_list) (by walk_at "hp"))))) fun _ => et_or (et_not (et_B (ev_allWhole (ns := land) (by walk_at "ev") (by walk_at "sq") (by omega) (fun _ => rfl) (fun _ => rfl)))) fun _ => et_test (ev_op (by walk_at "ev") (by walk_at "ev") (rv_neI (by walk_at "sq") (by walk_at "sq")))) (by simp)
    · intro z
      cases z
    intro _ H8 e8
    have hw8 : H8 wp = some (.lst ((land.map wordOf).map fun u => V.str (SX.S u))) := by walk_at "hp"
    have hw8' : SqL K H8 wp (land.map fun i => V.str (SX.S (wordOf i))) := by
      have z := sq_of (K := K) hw8
      rw [List.map_map] at z
      exact z
    -- a text that writes no land
    have wm := wrongOf_mem land (cel ns 1)
    have wb := wrongs_bad _ wm
    have ks : cel ns 1 / 25 % (land.length : Int) < (land.length : Int) := Int.emod_lt_of_pos _ (by omega)
    have kn : 0 ≤ cel ns 1 / 25 % (land.length : Int) := Int.emod_nonneg _ (by omega)
    have ci : cel land (cel ns 1 / 25 % (land.length : Int)) ∈ land := by
      have z := cel_mem (ns := land) (k := (cel ns 1 / 25 % (land.length : Int)).toNat) (by omega)
      rwa [show ((cel ns 1 / 25 % (land.length : Int)).toNat : Int) = cel ns 1 / 25 % (land.length : Int) by omega] at z
    have ws := wrongs_short (lb _ ci) _ wm
    refine q_asg (v := .str (SX.S (wrongOf land (cel ns 1)))) (ev_cal (vs := [.ref wp, .int (cel ns 1)]) (by walk_at "ea") fun H9 e9 => ⟨wp, land, cel ns 1, rfl, ex_l e9 hw8', by omega, m2, lb, rfl⟩) fun H9 e9 => ?_
    walk_at "st"
    generalize wrongOf land (cel ns 1) = wr at wb ws
    clear wm ci ks kn
    obtain ⟨k, hk⟩ : ∃ k : Nat, cel ns 1 / 50 % (land.length : Int) = (k : Int) := ⟨(cel ns 1 / 50 % (land.length : Int)).toNat, by have := Int.emod_nonneg (cel ns 1 / 50) (b := (land.length : Int)) (by omega); omega⟩
    have klt : (k : Int) < (land.length : Int) := hk ▸ Int.emod_lt_of_pos _ (by omega)
    have hwl : ((land.map wordOf).map fun u => V.str (SX.S u)).length = land.length := by rw [List.length_map, List.length_map]
    have hw9 := e9 _ _ hw8
    refine q_asg (v := .int (k : Int)) (ev_int (i := cel ns 1 / 50 % (((land.map wordOf).map fun u => V.str (SX.S u)).length : Nat)) (ev_op (by walk_at "ev") (ev_cb (by walk_at "ea") (rc_len (sq_of hw9))) (rv_I (by rw [hwl]; omega))) (by rw [hwl]; exact hk)) fun H10 e10 => ?_
    walk_at "st"
    have hw10 := e10 _ _ hw9
    obtain ⟨x1, x2, x3⟩ := mix_len (k := k) (by omega) m2 lb ws
    have em : ((land.map wordOf).map fun u => V.str (SX.S u)).take k ++ [V.str (SX.S wr)] ++ ((land.map wordOf).map fun u => V.str (SX.S u)).drop (k + 1) = ((land.map wordOf).take k ++ [wr] ++ (land.map wordOf).drop (k + 1)).map fun u => V.str (SX.S u) := by
      rw [List.map_append, List.map_append, List.map_take, List.map_drop]
      rfl
    apply q_when (b := false)
    · refine et_is (a := !true || !true) (et_or (et_not (et_B (ev_cal (vs := [.str (SX.S wr)]) (by walk_at "ea") fun H11 e11 => ⟨_, rfl, .inr ⟨wr, rfl, by omega, .inl wb⟩, rfl⟩))) fun _ => et_not (et_B (ev_cal (vs := [.str (SX.S (TL.joinL [32] ((land.map wordOf).take k ++ [wr] ++ (land.map wordOf).drop (k + 1))))]) (ea_cons (ev_joinN (ev_cS (by decide +kernel)) (el_eq (el_catN (xs := ((land.map wordOf).map fun u => V.str (SX.S u)).take k ++ [V.str (SX.S wr)]) (ys := ((land.map wordOf).map fun u => V.str (SX.S u)).drop (k + 1)) (el_catN (xs := ((land.map wordOf).map fun u => V.str (SX.S u)).take k) (ys := [V.str (SX.S wr)]) (el_to k (by walk_at "ev") (by walk_at "ev") (sq_of hw10)) (by walk_at "eu") rfl ?_)
        (el_fromV (k + 1) (by walk_at "ev") (ev_int (i := (k : Int) + 1) (by walk_at "ev") (by omega)) (sq_of hw10)) rfl ?_) em) (by omega) (fun x hx => by have := x3 x hx; omega)) ea_nil) fun H11 e11 => ⟨_, rfl, .inr ⟨_, rfl, by omega, .inl (mix_bad wb)⟩, rfl⟩))) rfl
      · rw [List.length_take, hwl, List.length_cons, List.length_nil]
        omega
      · rw [List.length_append, List.length_take, List.length_drop, hwl, List.length_cons, List.length_nil]
        omega
    · intro z
      cases z
    intro _ H11 e11
    clear hw9 hw10 em x1 x2 x3 hw8 hw8' wb ws hw
    -- what is no text
    apply q_when (b := false)
    · refine et_is (a := !true) (et_not (et_B (ev_refIx (i := cel ns 1 % 3) (eax_cons (x := .non) (by walk_at "ev") (eax_cons (x := .int 5) (by walk_at "ev") (eax_consL (xs := [.str (SX.S [49])]) (el_lst (ea_cons (ev_cS (by decide +kernel)) ea_nil) (Nat.le_of_ble_eq_true rfl)) eax_nil))) (fun vs H2 p => ?_) (by walk_at "ev") (fun vs H2 p => ?_)))) rfl
      · obtain ⟨_, rfl, _, rfl, _, _, _, rfl, _, _, rfl⟩ := p
        exact Nat.le_of_ble_eq_true rfl
      · obtain ⟨_, rfl, _, rfl, tp, _, _, rfl, ht, et, rfl⟩ := p
        have : cel ns 1 % 3 = 0 ∨ cel ns 1 % 3 = 1 ∨ cel ns 1 % 3 = 2 := by omega
        rcases this with z | z | z
        · exact ⟨.non, by rw [z]; rfl, .inl .non⟩
        · exact ⟨.int 5, by rw [z]; rfl, .inl (.int 5)⟩
        · exact ⟨.ref tp, by rw [z]; rfl, .inl (.lst tp _ (et _ _ ht))⟩
    · intro z
      cases z
    intro _ H12 e12
    have cl := changed_len line (cel ns 24) (cel ns 25)
    apply q_when (b := false)
    · exact et_is (a := !true) (et_not (et_B (ev_cal (vs := [.str (SX.S (changedL line (cel ns 24) (cel ns 25)))]) (ea_cons (ev_cal (vs := [.str (SX.S line), .int (cel ns 24), .int (cel ns 25)]) (by walk_at "ea") fun H13 e13 => ⟨line, cel ns 24, cel ns 25, rfl, by omega, rfl⟩) ea_nil) fun H13 e13 => ⟨_, rfl, by omega, rfl⟩))) rfl
    · intro z
      cases z
    intro _ H13 e13
    obtain ⟨s1, s2⟩ := sevens
    refine s_ret (v := .bl true) (ev_cal (vs := [.str (SX.S (TL.joinL [32] (List.replicate 201 [55])))]) (ea_cons (ev_joinN (ev_cS (by decide +kernel)) (el_eq (el_lcR1 (n := 201) (fun _ => true) (fun _ => .str (SX.S [55])) (by walk_at "ea") (by decide) (fun _ => rfl) (fun _ _ _ _ => et_yes) fun i H14 e14 hi _ => ev_cS (by decide +kernel)) ?_) (by rw [List.length_replicate]; decide) (fun x hx => by rw [List.eq_of_mem_replicate hx]; decide)) ea_nil) fun H14 e14 => ⟨_, rfl, .inr ⟨_, rfl, s1, .inr s2⟩, rfl⟩) fun H14 _ => q H14
    rw [given_const, List.map_replicate]
    rfl
end
section
theorem all_mk {l : PySem.W.OpenLaw} {w : World} {K : PySem.W.Frag} {h : Heap} {mg : Str → Option Value} {fa : Addr} {f__law_cell_at f__law_whole f__law_height_by f__law_land_by f__law_longer f_is_whole f__is_in_bound f_checked f_shown f__height f_read f__law_figures_by f__law_wrong_by f__law_changed f__law_sole f__law_refused f__law_height_of f__law_read_alike f_law : Addr} {N_HillError : Addr} {N_NoLand : Addr} {N_NoHill : Addr} {N_SameHill : Addr} {N_TooHigh : Addr} {N_NothingDone : Addr} {t_BOUND : _} {t_MOST_HILLS : _} {t_MOST_FIGURES : _} (X : K.In h) (G : h.Ns mainGlobals mg) (hfa : mg "law" = some (.ref fa))
    {od__law_cell_at an__law_cell_at : Option Addr} {sl__law_cell_at : Array (Option Value)} {oc__law_cell_at kV__law_cell_at dc__law_cell_at pm__law_cell_at cd__law_cell_at ct__law_cell_at : Value}
    (a__law_cell_at : PySem.W.nsIn K mainGlobals "_law_cell_at" = some (some (.ref f__law_cell_at)))
    (l__law_cell_at : K.lookup f__law_cell_at = some ⟨oc__law_cell_at, od__law_cell_at, .func (PySem.W.fnOf "_law_cell_at" "_law_cell_at" (defArgs s_law_cell_at) (defBody s_law_cell_at) (defScope s_law_cell_at) .none kV__law_cell_at dc__law_cell_at pm__law_cell_at an__law_cell_at cd__law_cell_at ct__law_cell_at), sl__law_cell_at⟩)
    (c__law_cell_at : PySem.W.codeIn K cd__law_cell_at "_law_cell_at" = true) (k__law_cell_at : PySem.W.keepIn K (.ref f__law_cell_at) = true)
    {od__law_whole an__law_whole : Option Addr} {sl__law_whole : Array (Option Value)} {oc__law_whole kV__law_whole dc__law_whole pm__law_whole cd__law_whole ct__law_whole : Value}
    (a__law_whole : PySem.W.nsIn K mainGlobals "_law_whole" = some (some (.ref f__law_whole)))
    (l__law_whole : K.lookup f__law_whole = some ⟨oc__law_whole, od__law_whole, .func (PySem.W.fnOf "_law_whole" "_law_whole" (defArgs s_law_whole) (defBody s_law_whole) (defScope s_law_whole) .none kV__law_whole dc__law_whole pm__law_whole an__law_whole cd__law_whole ct__law_whole), sl__law_whole⟩)
    (c__law_whole : PySem.W.codeIn K cd__law_whole "_law_whole" = true) (k__law_whole : PySem.W.keepIn K (.ref f__law_whole) = true)
    {od__law_height_by an__law_height_by : Option Addr} {sl__law_height_by : Array (Option Value)} {oc__law_height_by kV__law_height_by dc__law_height_by pm__law_height_by cd__law_height_by ct__law_height_by : Value}
    (a__law_height_by : PySem.W.nsIn K mainGlobals "_law_height_by" = some (some (.ref f__law_height_by)))
    (l__law_height_by : K.lookup f__law_height_by = some ⟨oc__law_height_by, od__law_height_by, .func (PySem.W.fnOf "_law_height_by" "_law_height_by" (defArgs s_law_height_by) (defBody s_law_height_by) (defScope s_law_height_by) .none kV__law_height_by dc__law_height_by pm__law_height_by an__law_height_by cd__law_height_by ct__law_height_by), sl__law_height_by⟩)
    (c__law_height_by : PySem.W.codeIn K cd__law_height_by "_law_height_by" = true) (k__law_height_by : PySem.W.keepIn K (.ref f__law_height_by) = true)
    {od__law_land_by an__law_land_by : Option Addr} {sl__law_land_by : Array (Option Value)} {oc__law_land_by kV__law_land_by dc__law_land_by pm__law_land_by cd__law_land_by ct__law_land_by : Value}
    (a__law_land_by : PySem.W.nsIn K mainGlobals "_law_land_by" = some (some (.ref f__law_land_by)))
    (l__law_land_by : K.lookup f__law_land_by = some ⟨oc__law_land_by, od__law_land_by, .func (PySem.W.fnOf "_law_land_by" "_law_land_by" (defArgs s_law_land_by) (defBody s_law_land_by) (defScope s_law_land_by) .none kV__law_land_by dc__law_land_by pm__law_land_by an__law_land_by cd__law_land_by ct__law_land_by), sl__law_land_by⟩)
    (c__law_land_by : PySem.W.codeIn K cd__law_land_by "_law_land_by" = true) (k__law_land_by : PySem.W.keepIn K (.ref f__law_land_by) = true)
    {od__law_longer an__law_longer : Option Addr} {sl__law_longer : Array (Option Value)} {oc__law_longer kV__law_longer dc__law_longer pm__law_longer cd__law_longer ct__law_longer : Value}
    (a__law_longer : PySem.W.nsIn K mainGlobals "_law_longer" = some (some (.ref f__law_longer)))
    (l__law_longer : K.lookup f__law_longer = some ⟨oc__law_longer, od__law_longer, .func (PySem.W.fnOf "_law_longer" "_law_longer" (defArgs s_law_longer) (defBody s_law_longer) (defScope s_law_longer) .none kV__law_longer dc__law_longer pm__law_longer an__law_longer cd__law_longer ct__law_longer), sl__law_longer⟩)
    (c__law_longer : PySem.W.codeIn K cd__law_longer "_law_longer" = true) (k__law_longer : PySem.W.keepIn K (.ref f__law_longer) = true)
    {od_is_whole an_is_whole : Option Addr} {sl_is_whole : Array (Option Value)} {oc_is_whole kV_is_whole dc_is_whole pm_is_whole cd_is_whole ct_is_whole : Value}
    (a_is_whole : PySem.W.nsIn K mainGlobals "is_whole" = some (some (.ref f_is_whole)))
    (l_is_whole : K.lookup f_is_whole = some ⟨oc_is_whole, od_is_whole, .func (PySem.W.fnOf "is_whole" "is_whole" (defArgs sis_whole) (defBody sis_whole) (defScope sis_whole) .none kV_is_whole dc_is_whole pm_is_whole an_is_whole cd_is_whole ct_is_whole), sl_is_whole⟩)
    (c_is_whole : PySem.W.codeIn K cd_is_whole "is_whole" = true) (k_is_whole : PySem.W.keepIn K (.ref f_is_whole) = true)
    {od__is_in_bound an__is_in_bound : Option Addr} {sl__is_in_bound : Array (Option Value)} {oc__is_in_bound kV__is_in_bound dc__is_in_bound pm__is_in_bound cd__is_in_bound ct__is_in_bound : Value}
    (a__is_in_bound : PySem.W.nsIn K mainGlobals "_is_in_bound" = some (some (.ref f__is_in_bound)))
    (l__is_in_bound : K.lookup f__is_in_bound = some ⟨oc__is_in_bound, od__is_in_bound, .func (PySem.W.fnOf "_is_in_bound" "_is_in_bound" (defArgs s_is_in_bound) (defBody s_is_in_bound) (defScope s_is_in_bound) .none kV__is_in_bound dc__is_in_bound pm__is_in_bound an__is_in_bound cd__is_in_bound ct__is_in_bound), sl__is_in_bound⟩)
    (c__is_in_bound : PySem.W.codeIn K cd__is_in_bound "_is_in_bound" = true) (k__is_in_bound : PySem.W.keepIn K (.ref f__is_in_bound) = true)
    {od_checked an_checked : Option Addr} {sl_checked : Array (Option Value)} {oc_checked kV_checked dc_checked pm_checked cd_checked ct_checked : Value}
    (a_checked : PySem.W.nsIn K mainGlobals "checked" = some (some (.ref f_checked)))
    (l_checked : K.lookup f_checked = some ⟨oc_checked, od_checked, .func (PySem.W.fnOf "checked" "checked" (defArgs schecked) (defBody schecked) (defScope schecked) .none kV_checked dc_checked pm_checked an_checked cd_checked ct_checked), sl_checked⟩)
    (c_checked : PySem.W.codeIn K cd_checked "checked" = true) (k_checked : PySem.W.keepIn K (.ref f_checked) = true)
    {od_shown an_shown : Option Addr} {sl_shown : Array (Option Value)} {oc_shown kV_shown dc_shown pm_shown cd_shown ct_shown : Value}
    (a_shown : PySem.W.nsIn K mainGlobals "shown" = some (some (.ref f_shown)))
    (l_shown : K.lookup f_shown = some ⟨oc_shown, od_shown, .func (PySem.W.fnOf "shown" "shown" (defArgs sshown) (defBody sshown) (defScope sshown) .none kV_shown dc_shown pm_shown an_shown cd_shown ct_shown), sl_shown⟩)
    (c_shown : PySem.W.codeIn K cd_shown "shown" = true) (k_shown : PySem.W.keepIn K (.ref f_shown) = true)
    {od__height an__height : Option Addr} {sl__height : Array (Option Value)} {oc__height kV__height dc__height pm__height cd__height ct__height : Value}
    (a__height : PySem.W.nsIn K mainGlobals "_height" = some (some (.ref f__height)))
    (l__height : K.lookup f__height = some ⟨oc__height, od__height, .func (PySem.W.fnOf "_height" "_height" (defArgs s_height) (defBody s_height) (defScope s_height) .none kV__height dc__height pm__height an__height cd__height ct__height), sl__height⟩)
    (c__height : PySem.W.codeIn K cd__height "_height" = true) (k__height : PySem.W.keepIn K (.ref f__height) = true)
    {od_read an_read : Option Addr} {sl_read : Array (Option Value)} {oc_read kV_read dc_read pm_read cd_read ct_read : Value}
    (a_read : PySem.W.nsIn K mainGlobals "read" = some (some (.ref f_read)))
    (l_read : K.lookup f_read = some ⟨oc_read, od_read, .func (PySem.W.fnOf "read" "read" (defArgs sread) (defBody sread) (defScope sread) .none kV_read dc_read pm_read an_read cd_read ct_read), sl_read⟩)
    (c_read : PySem.W.codeIn K cd_read "read" = true) (k_read : PySem.W.keepIn K (.ref f_read) = true)
    {od__law_figures_by an__law_figures_by : Option Addr} {sl__law_figures_by : Array (Option Value)} {oc__law_figures_by kV__law_figures_by dc__law_figures_by pm__law_figures_by cd__law_figures_by ct__law_figures_by : Value}
    (a__law_figures_by : PySem.W.nsIn K mainGlobals "_law_figures_by" = some (some (.ref f__law_figures_by)))
    (l__law_figures_by : K.lookup f__law_figures_by = some ⟨oc__law_figures_by, od__law_figures_by, .func (PySem.W.fnOf "_law_figures_by" "_law_figures_by" (defArgs s_law_figures_by) (defBody s_law_figures_by) (defScope s_law_figures_by) .none kV__law_figures_by dc__law_figures_by pm__law_figures_by an__law_figures_by cd__law_figures_by ct__law_figures_by), sl__law_figures_by⟩)
    (c__law_figures_by : PySem.W.codeIn K cd__law_figures_by "_law_figures_by" = true) (k__law_figures_by : PySem.W.keepIn K (.ref f__law_figures_by) = true)
    {od__law_wrong_by an__law_wrong_by : Option Addr} {sl__law_wrong_by : Array (Option Value)} {oc__law_wrong_by kV__law_wrong_by dc__law_wrong_by pm__law_wrong_by cd__law_wrong_by ct__law_wrong_by : Value}
    (a__law_wrong_by : PySem.W.nsIn K mainGlobals "_law_wrong_by" = some (some (.ref f__law_wrong_by)))
    (l__law_wrong_by : K.lookup f__law_wrong_by = some ⟨oc__law_wrong_by, od__law_wrong_by, .func (PySem.W.fnOf "_law_wrong_by" "_law_wrong_by" (defArgs s_law_wrong_by) (defBody s_law_wrong_by) (defScope s_law_wrong_by) .none kV__law_wrong_by dc__law_wrong_by pm__law_wrong_by an__law_wrong_by cd__law_wrong_by ct__law_wrong_by), sl__law_wrong_by⟩)
    (c__law_wrong_by : PySem.W.codeIn K cd__law_wrong_by "_law_wrong_by" = true) (k__law_wrong_by : PySem.W.keepIn K (.ref f__law_wrong_by) = true)
    {od__law_changed an__law_changed : Option Addr} {sl__law_changed : Array (Option Value)} {oc__law_changed kV__law_changed dc__law_changed pm__law_changed cd__law_changed ct__law_changed : Value}
    (a__law_changed : PySem.W.nsIn K mainGlobals "_law_changed" = some (some (.ref f__law_changed)))
    (l__law_changed : K.lookup f__law_changed = some ⟨oc__law_changed, od__law_changed, .func (PySem.W.fnOf "_law_changed" "_law_changed" (defArgs s_law_changed) (defBody s_law_changed) (defScope s_law_changed) .none kV__law_changed dc__law_changed pm__law_changed an__law_changed cd__law_changed ct__law_changed), sl__law_changed⟩)
    (c__law_changed : PySem.W.codeIn K cd__law_changed "_law_changed" = true) (k__law_changed : PySem.W.keepIn K (.ref f__law_changed) = true)
    {od__law_sole an__law_sole : Option Addr} {sl__law_sole : Array (Option Value)} {oc__law_sole kV__law_sole dc__law_sole pm__law_sole cd__law_sole ct__law_sole : Value}
    (a__law_sole : PySem.W.nsIn K mainGlobals "_law_sole" = some (some (.ref f__law_sole)))
    (l__law_sole : K.lookup f__law_sole = some ⟨oc__law_sole, od__law_sole, .func (PySem.W.fnOf "_law_sole" "_law_sole" (defArgs s_law_sole) (defBody s_law_sole) (defScope s_law_sole) .none kV__law_sole dc__law_sole pm__law_sole an__law_sole cd__law_sole ct__law_sole), sl__law_sole⟩)
    (c__law_sole : PySem.W.codeIn K cd__law_sole "_law_sole" = true) (k__law_sole : PySem.W.keepIn K (.ref f__law_sole) = true)
    {od__law_refused an__law_refused : Option Addr} {sl__law_refused : Array (Option Value)} {oc__law_refused kV__law_refused dc__law_refused pm__law_refused cd__law_refused ct__law_refused : Value}
    (a__law_refused : PySem.W.nsIn K mainGlobals "_law_refused" = some (some (.ref f__law_refused)))
    (l__law_refused : K.lookup f__law_refused = some ⟨oc__law_refused, od__law_refused, .func (PySem.W.fnOf "_law_refused" "_law_refused" (defArgs s_law_refused) (defBody s_law_refused) (defScope s_law_refused) .none kV__law_refused dc__law_refused pm__law_refused an__law_refused cd__law_refused ct__law_refused), sl__law_refused⟩)
    (c__law_refused : PySem.W.codeIn K cd__law_refused "_law_refused" = true) (k__law_refused : PySem.W.keepIn K (.ref f__law_refused) = true)
    {od__law_height_of an__law_height_of : Option Addr} {sl__law_height_of : Array (Option Value)} {oc__law_height_of kV__law_height_of dc__law_height_of pm__law_height_of cd__law_height_of ct__law_height_of : Value}
    (a__law_height_of : PySem.W.nsIn K mainGlobals "_law_height_of" = some (some (.ref f__law_height_of)))
    (l__law_height_of : K.lookup f__law_height_of = some ⟨oc__law_height_of, od__law_height_of, .func (PySem.W.fnOf "_law_height_of" "_law_height_of" (defArgs s_law_height_of) (defBody s_law_height_of) (defScope s_law_height_of) .none kV__law_height_of dc__law_height_of pm__law_height_of an__law_height_of cd__law_height_of ct__law_height_of), sl__law_height_of⟩)
    (c__law_height_of : PySem.W.codeIn K cd__law_height_of "_law_height_of" = true) (k__law_height_of : PySem.W.keepIn K (.ref f__law_height_of) = true)
    {od__law_read_alike an__law_read_alike : Option Addr} {sl__law_read_alike : Array (Option Value)} {oc__law_read_alike kV__law_read_alike dc__law_read_alike pm__law_read_alike cd__law_read_alike ct__law_read_alike : Value}
    (a__law_read_alike : PySem.W.nsIn K mainGlobals "_law_read_alike" = some (some (.ref f__law_read_alike)))
    (l__law_read_alike : K.lookup f__law_read_alike = some ⟨oc__law_read_alike, od__law_read_alike, .func (PySem.W.fnOf "_law_read_alike" "_law_read_alike" (defArgs s_law_read_alike) (defBody s_law_read_alike) (defScope s_law_read_alike) .none kV__law_read_alike dc__law_read_alike pm__law_read_alike an__law_read_alike cd__law_read_alike ct__law_read_alike), sl__law_read_alike⟩)
    (c__law_read_alike : PySem.W.codeIn K cd__law_read_alike "_law_read_alike" = true) (k__law_read_alike : PySem.W.keepIn K (.ref f__law_read_alike) = true)
    {od_law an_law : Option Addr} {sl_law : Array (Option Value)} {oc_law kV_law dc_law pm_law cd_law ct_law : Value}
    (a_law : PySem.W.nsIn K mainGlobals "law" = some (some (.ref f_law)))
    (l_law : K.lookup f_law = some ⟨oc_law, od_law, .func (PySem.W.fnOf "law" "law" (defArgs slaw) (defBody slaw) (defScope slaw) .none kV_law dc_law pm_law an_law cd_law ct_law), sl_law⟩)
    (c_law : PySem.W.codeIn K cd_law "law" = true) (k_law : PySem.W.keepIn K (.ref f_law) = true)
    (z_len : PySem.W.nsIn K mainGlobals "len" = some none)
    (z_range : PySem.W.nsIn K mainGlobals "range" = some none)
    (z_isinstance : PySem.W.nsIn K mainGlobals "isinstance" = some none)
    (z_int : PySem.W.nsIn K mainGlobals "int" = some none)
    (z_bool : PySem.W.nsIn K mainGlobals "bool" = some none)
    (z_list : PySem.W.nsIn K mainGlobals "list" = some none)
    (z_tuple : PySem.W.nsIn K mainGlobals "tuple" = some none)
    (z_min : PySem.W.nsIn K mainGlobals "min" = some none)
    (z_max : PySem.W.nsIn K mainGlobals "max" = some none)
    (z_all : PySem.W.nsIn K mainGlobals "all" = some none)
    (z_sorted : PySem.W.nsIn K mainGlobals "sorted" = some none)
    (z_zip : PySem.W.nsIn K mainGlobals "zip" = some none)
    (z_abs : PySem.W.nsIn K mainGlobals "abs" = some none)
    (z_any : PySem.W.nsIn K mainGlobals "any" = some none)
    (z_set : PySem.W.nsIn K mainGlobals "set" = some none)
    (z_str : PySem.W.nsIn K mainGlobals "str" = some none)
    (z_ValueError : PySem.W.nsIn K mainGlobals "ValueError" = some none)
    (g_HillError : PySem.W.nsIn K mainGlobals "HillError" = some (some (.ref N_HillError)))
    (x_HillError : PySem.W.excIn K N_HillError [.type "ValueError", .type "Exception", .type "BaseException", .type "object"] "ValueError.__new__" = true)
    (k_HillError : PySem.W.keepIn K (.ref N_HillError) = true)
    (b_HillError : PySem.W.subIn K (.ref N_HillError) (.type "BaseException") = some true)
    (t_HillError : PySem.W.typeIn K (.ref N_HillError) = some (.type "type"))
    (d_HillError : PySem.W.hasDictIn K N_HillError = true)
    (s_HillError : PySem.W.subIn K (.ref N_HillError) (.ref N_HillError) = some true)
    (g_NoLand : PySem.W.nsIn K mainGlobals "NoLand" = some (some (.ref N_NoLand)))
    (x_NoLand : PySem.W.excIn K N_NoLand [.type "ValueError", .type "Exception", .type "BaseException", .type "object"] "ValueError.__new__" = true)
    (k_NoLand : PySem.W.keepIn K (.ref N_NoLand) = true)
    (b_NoLand : PySem.W.subIn K (.ref N_NoLand) (.type "BaseException") = some true)
    (t_NoLand : PySem.W.typeIn K (.ref N_NoLand) = some (.type "type"))
    (d_NoLand : PySem.W.hasDictIn K N_NoLand = true)
    (s_NoLand : PySem.W.subIn K (.ref N_NoLand) (.ref N_NoLand) = some true)
    (g_NoHill : PySem.W.nsIn K mainGlobals "NoHill" = some (some (.ref N_NoHill)))
    (x_NoHill : PySem.W.excIn K N_NoHill [.type "ValueError", .type "Exception", .type "BaseException", .type "object"] "ValueError.__new__" = true)
    (k_NoHill : PySem.W.keepIn K (.ref N_NoHill) = true)
    (b_NoHill : PySem.W.subIn K (.ref N_NoHill) (.type "BaseException") = some true)
    (t_NoHill : PySem.W.typeIn K (.ref N_NoHill) = some (.type "type"))
    (d_NoHill : PySem.W.hasDictIn K N_NoHill = true)
    (s_NoHill : PySem.W.subIn K (.ref N_NoHill) (.ref N_NoHill) = some true)
    (g_SameHill : PySem.W.nsIn K mainGlobals "SameHill" = some (some (.ref N_SameHill)))
    (x_SameHill : PySem.W.excIn K N_SameHill [.type "ValueError", .type "Exception", .type "BaseException", .type "object"] "ValueError.__new__" = true)
    (k_SameHill : PySem.W.keepIn K (.ref N_SameHill) = true)
    (b_SameHill : PySem.W.subIn K (.ref N_SameHill) (.type "BaseException") = some true)
    (t_SameHill : PySem.W.typeIn K (.ref N_SameHill) = some (.type "type"))
    (d_SameHill : PySem.W.hasDictIn K N_SameHill = true)
    (s_SameHill : PySem.W.subIn K (.ref N_SameHill) (.ref N_SameHill) = some true)
    (g_TooHigh : PySem.W.nsIn K mainGlobals "TooHigh" = some (some (.ref N_TooHigh)))
    (x_TooHigh : PySem.W.excIn K N_TooHigh [.type "ValueError", .type "Exception", .type "BaseException", .type "object"] "ValueError.__new__" = true)
    (k_TooHigh : PySem.W.keepIn K (.ref N_TooHigh) = true)
    (b_TooHigh : PySem.W.subIn K (.ref N_TooHigh) (.type "BaseException") = some true)
    (t_TooHigh : PySem.W.typeIn K (.ref N_TooHigh) = some (.type "type"))
    (d_TooHigh : PySem.W.hasDictIn K N_TooHigh = true)
    (s_TooHigh : PySem.W.subIn K (.ref N_TooHigh) (.ref N_TooHigh) = some true)
    (g_NothingDone : PySem.W.nsIn K mainGlobals "NothingDone" = some (some (.ref N_NothingDone)))
    (x_NothingDone : PySem.W.excIn K N_NothingDone [.type "ValueError", .type "Exception", .type "BaseException", .type "object"] "ValueError.__new__" = true)
    (k_NothingDone : PySem.W.keepIn K (.ref N_NothingDone) = true)
    (b_NothingDone : PySem.W.subIn K (.ref N_NothingDone) (.type "BaseException") = some true)
    (t_NothingDone : PySem.W.typeIn K (.ref N_NothingDone) = some (.type "type"))
    (d_NothingDone : PySem.W.hasDictIn K N_NothingDone = true)
    (s_NothingDone : PySem.W.subIn K (.ref N_NothingDone) (.ref N_NothingDone) = some true)
    (hg_NoLand : PySem.W.findIn K (.ref N_NoLand) "__getattribute__" = some (some (.builtin "BaseException.__getattribute__")))
    (hk_NoLand : PySem.W.findIn K (.ref N_NoLand) "__getattr__" = some none)
    (ha_NoLand : PySem.W.findIn K (.ref N_NoLand) "__class__" = some (some (.builtin "object.__class__")))
    (hm_NoLand : PySem.W.mroIn K N_NoLand (.type "object") = some true)
    (kv_NoLand : PySem.W.subIn K (.ref N_NoLand) (.type "ValueError") = some true)
    (kc_NoLand_NoHill : PySem.W.subIn K (.ref N_NoLand) (.ref N_NoHill) = some false)
    (kc_NoLand_SameHill : PySem.W.subIn K (.ref N_NoLand) (.ref N_SameHill) = some false)
    (kc_NoLand_TooHigh : PySem.W.subIn K (.ref N_NoLand) (.ref N_TooHigh) = some false)
    (kc_NoLand_NothingDone : PySem.W.subIn K (.ref N_NoLand) (.ref N_NothingDone) = some false)
    (kc_NoLand_HillError : PySem.W.subIn K (.ref N_NoLand) (.ref N_HillError) = some true)
    (hn_cls : PySem.W.specialIn K (.builtin "object.__class__") "__get__" = some (some (.builtin "getset_descriptor.__get__")))
    (ht_cls : PySem.W.takesIn K (.builtin "object.__class__") = some true)
    (gc_BOUND : PySem.W.nsIn K mainGlobals "BOUND" = some (some (.int 1000000000000000000 t_BOUND)))
    (gc_MOST_HILLS : PySem.W.nsIn K mainGlobals "MOST_HILLS" = some (some (.int 200 t_MOST_HILLS)))
    (gc_MOST_FIGURES : PySem.W.nsIn K mainGlobals "MOST_FIGURES" = some (some (.int 19 t_MOST_FIGURES)))
    : ∃ fd : FuncData, (∀ (s : Shared) (v : Value), BindsTo s fd ⟨[v], []⟩ [("_law_script", v)]) ∧ ∀ base : Heap, K.In base → base.Ns mainGlobals mg → FnOk l.prog w K mg base CX0 7 fa fd ["_law_script"] (spLaw K) := by
  have e := hfa.symm.trans (PySem.W.mg_of X G a_law)
  cases e
  have F__law_cell_at := fun_mk (st := s_law_cell_at) l__law_cell_at c__law_cell_at k__law_cell_at
  have F__law_whole := fun_mk (st := s_law_whole) l__law_whole c__law_whole k__law_whole
  have F__law_height_by := fun_mk (st := s_law_height_by) l__law_height_by c__law_height_by k__law_height_by
  have F__law_land_by := fun_mk (st := s_law_land_by) l__law_land_by c__law_land_by k__law_land_by
  have F__law_longer := fun_mk (st := s_law_longer) l__law_longer c__law_longer k__law_longer
  have F_is_whole := fun_mk (st := sis_whole) l_is_whole c_is_whole k_is_whole
  have F__is_in_bound := fun_mk (st := s_is_in_bound) l__is_in_bound c__is_in_bound k__is_in_bound
  have F_checked := fun_mk (st := schecked) l_checked c_checked k_checked
  have F_shown := fun_mk (st := sshown) l_shown c_shown k_shown
  have F__height := fun_mk (st := s_height) l__height c__height k__height
  have F_read := fun_mk (st := sread) l_read c_read k_read
  have F__law_figures_by := fun_mk (st := s_law_figures_by) l__law_figures_by c__law_figures_by k__law_figures_by
  have F__law_wrong_by := fun_mk (st := s_law_wrong_by) l__law_wrong_by c__law_wrong_by k__law_wrong_by
  have F__law_changed := fun_mk (st := s_law_changed) l__law_changed c__law_changed k__law_changed
  have F__law_sole := fun_mk (st := s_law_sole) l__law_sole c__law_sole k__law_sole
  have F__law_refused := fun_mk (st := s_law_refused) l__law_refused c__law_refused k__law_refused
  have F__law_height_of := fun_mk (st := s_law_height_of) l__law_height_of c__law_height_of k__law_height_of
  have F__law_read_alike := fun_mk (st := s_law_read_alike) l__law_read_alike c__law_read_alike k__law_read_alike
  have F_law := fun_mk (st := slaw) l_law c_law k_law
  have B : Blt mg := ⟨PySem.W.mg_none_of X G z_len, PySem.W.mg_none_of X G z_range, PySem.W.mg_none_of X G z_isinstance, PySem.W.mg_none_of X G z_int, PySem.W.mg_none_of X G z_bool, PySem.W.mg_none_of X G z_list, PySem.W.mg_none_of X G z_tuple, PySem.W.mg_none_of X G z_min, PySem.W.mg_none_of X G z_max, PySem.W.mg_none_of X G z_all, PySem.W.mg_none_of X G z_sorted, PySem.W.mg_none_of X G z_zip, PySem.W.mg_none_of X G z_abs, PySem.W.mg_none_of X G z_any, PySem.W.mg_none_of X G z_set, PySem.W.mg_none_of X G z_str, PySem.W.mg_none_of X G z_ValueError⟩
  refine ⟨PySem.W.fnOf "law" "law" (defArgs slaw) (defBody slaw) (defScope slaw) .none kV_law dc_law pm_law an_law cd_law ct_law, fun s v => .of_eq rfl, fun base _ _ => ?_⟩
  have X_HillError : ExK K mg "HillError" N_HillError := ⟨PySem.W.mg_of X G g_HillError, x_HillError, k_HillError, b_HillError, t_HillError, d_HillError, s_HillError⟩
  have X_NoLand : ExK K mg "NoLand" N_NoLand := ⟨PySem.W.mg_of X G g_NoLand, x_NoLand, k_NoLand, b_NoLand, t_NoLand, d_NoLand, s_NoLand⟩
  have X_NoHill : ExK K mg "NoHill" N_NoHill := ⟨PySem.W.mg_of X G g_NoHill, x_NoHill, k_NoHill, b_NoHill, t_NoHill, d_NoHill, s_NoHill⟩
  have X_SameHill : ExK K mg "SameHill" N_SameHill := ⟨PySem.W.mg_of X G g_SameHill, x_SameHill, k_SameHill, b_SameHill, t_SameHill, d_SameHill, s_SameHill⟩
  have X_TooHigh : ExK K mg "TooHigh" N_TooHigh := ⟨PySem.W.mg_of X G g_TooHigh, x_TooHigh, k_TooHigh, b_TooHigh, t_TooHigh, d_TooHigh, s_TooHigh⟩
  have X_NothingDone : ExK K mg "NothingDone" N_NothingDone := ⟨PySem.W.mg_of X G g_NothingDone, x_NothingDone, k_NothingDone, b_NothingDone, t_NothingDone, d_NothingDone, s_NothingDone⟩
  have sole_NoLand : SoleK K N_NoLand N_NoHill N_SameHill N_TooHigh N_NothingDone N_HillError N_NoLand := ⟨⟨hg_NoLand, hk_NoLand, b_NoLand, d_NoLand, ha_NoLand, hn_cls, ht_cls, hm_NoLand⟩, ⟨_, _, _, _, _, X_NoLand.kit X_NoLand.s, X_NoHill.kit kc_NoLand_NoHill, X_SameHill.kit kc_NoLand_SameHill, X_TooHigh.kit kc_NoLand_TooHigh, X_NothingDone.kit kc_NoLand_NothingDone, rfl⟩, X_HillError.kit kc_NoLand_HillError, kit_top (by decide +kernel) kv_NoLand⟩
  have T : Csts mg := ⟨⟨t_BOUND, PySem.W.mg_of X G gc_BOUND⟩, ⟨t_MOST_HILLS, PySem.W.mg_of X G gc_MOST_HILLS⟩⟩
  have TC_MOST_FIGURES : ∃ t, mg "MOST_FIGURES" = some (.int 19 t) := ⟨t_MOST_FIGURES, PySem.W.mg_of X G gc_MOST_FIGURES⟩
  have C__law_cell_at : Cal l.prog w K mg base "_law_cell_at" 1 ["_law_script", "_law_k"] (spV (RCel K)) := ⟨f__law_cell_at, _, ok_cel F__law_cell_at B, PySem.W.mg_of X G a__law_cell_at, F__law_cell_at.kp, F__law_cell_at.binds (ps := ["_law_script", "_law_k"]) fun _ _ _ _ _ _ us hl => match us, hl with | [_, _], _ => rfl⟩
  have C__law_whole : Cal l.prog w K mg base "_law_whole" 1 ["_law_found"] (spV RWhole) := ⟨f__law_whole, _, ok_whole F__law_whole B, PySem.W.mg_of X G a__law_whole, F__law_whole.kp, F__law_whole.binds (ps := ["_law_found"]) fun _ _ _ _ _ _ us hl => match us, hl with | [_], _ => rfl⟩
  have C__law_height_by : Cal l.prog w K mg base "_law_height_by" 1 ["_law_cell", "_law_k", "_law_kind", "_law_tilt"] (spV RHeight) := ⟨f__law_height_by, _, ok_height F__law_height_by, PySem.W.mg_of X G a__law_height_by, F__law_height_by.kp, F__law_height_by.binds (ps := ["_law_cell", "_law_k", "_law_kind", "_law_tilt"]) fun _ _ _ _ _ _ us hl => match us, hl with | [_, _, _, _], _ => rfl⟩
  have C__law_land_by : Cal l.prog w K mg base "_law_land_by" 2 ["_law_script", "_law_most"] (spL (RLand K)) := ⟨f__law_land_by, _, ok_land_by F__law_land_by B C__law_cell_at C__law_height_by, PySem.W.mg_of X G a__law_land_by, F__law_land_by.kp, F__law_land_by.binds (ps := ["_law_script", "_law_most"]) fun _ _ _ _ _ _ us hl => match us, hl with | [_, _], _ => rfl⟩
  have C__law_longer : Cal l.prog w K mg base "_law_longer" 2 ["_law_script", "_law_land", "_law_most", "_law_many"] (spL (RLonger K)) := ⟨f__law_longer, _, ok_longer F__law_longer B C__law_cell_at C__law_height_by, PySem.W.mg_of X G a__law_longer, F__law_longer.kp, F__law_longer.binds (ps := ["_law_script", "_law_land", "_law_most", "_law_many"]) fun _ _ _ _ _ _ us hl => match us, hl with | [_, _, _, _], _ => rfl⟩
  have C_is_whole : Cal l.prog w K mg base "is_whole" 1 ["number"] (spV RWholeV) := ⟨f_is_whole, _, ok_is_whole F_is_whole B, PySem.W.mg_of X G a_is_whole, F_is_whole.kp, F_is_whole.binds (ps := ["number"]) fun _ _ _ _ _ _ us hl => match us, hl with | [_], _ => rfl⟩
  have C__is_in_bound : Cal l.prog w K mg base "_is_in_bound" 1 ["height"] (spV RInB) := ⟨f__is_in_bound, _, ok_inB F__is_in_bound T, PySem.W.mg_of X G a__is_in_bound, F__is_in_bound.kp, F__is_in_bound.binds (ps := ["height"]) fun _ _ _ _ _ _ us hl => match us, hl with | [_], _ => rfl⟩
  have C_checked : CalX l.prog w K mg base "checked" 2 ["land"] (spLX (RChecked K) (RNoLand N_NoLand)) := ⟨f_checked, _, ok_checked F_checked B T X_NoLand C_is_whole C__is_in_bound, PySem.W.mg_of X G a_checked, F_checked.kp, F_checked.binds (ps := ["land"]) fun _ _ _ _ _ _ us hl => match us, hl with | [_], _ => rfl⟩
  have C_shown : Cal l.prog w K mg base "shown" 1 ["land"] (spV (RShown K)) := ⟨f_shown, _, ok_shown F_shown B, PySem.W.mg_of X G a_shown, F_shown.kp, F_shown.binds (ps := ["land"]) fun _ _ _ _ _ _ us hl => match us, hl with | [_], _ => rfl⟩
  have C__height : CalX l.prog w K mg base "_height" 1 ["word"] (spVX RHei (RNoHei N_NoLand)) := ⟨f__height, _, ok_hei F__height B TC_MOST_FIGURES X_NoLand, PySem.W.mg_of X G a__height, F__height.kp, F__height.binds (ps := ["word"]) fun _ _ _ _ _ _ us hl => match us, hl with | [_], _ => rfl⟩
  have C_read : CalX l.prog w K mg base "read" 3 ["line"] (spLX RRead (RNoRead N_NoLand)) := ⟨f_read, _, ok_read F_read B X_NoLand C__height C_checked, PySem.W.mg_of X G a_read, F_read.kp, F_read.binds (ps := ["line"]) fun _ _ _ _ _ _ us hl => match us, hl with | [_], _ => rfl⟩
  have C__law_figures_by : Cal l.prog w K mg base "_law_figures_by" 1 ["_law_height"] (spV RFig) := ⟨f__law_figures_by, _, ok_fig F__law_figures_by B, PySem.W.mg_of X G a__law_figures_by, F__law_figures_by.kp, F__law_figures_by.binds (ps := ["_law_height"]) fun _ _ _ _ _ _ us hl => match us, hl with | [_], _ => rfl⟩
  have C__law_wrong_by : Cal l.prog w K mg base "_law_wrong_by" 1 ["_law_words", "_law_cell"] (spV (RWrong K)) := ⟨f__law_wrong_by, _, ok_wrong F__law_wrong_by B, PySem.W.mg_of X G a__law_wrong_by, F__law_wrong_by.kp, F__law_wrong_by.binds (ps := ["_law_words", "_law_cell"]) fun _ _ _ _ _ _ us hl => match us, hl with | [_, _], _ => rfl⟩
  have C__law_changed : Cal l.prog w K mg base "_law_changed" 1 ["_law_line", "_law_cell", "_law_more"] (spV RChanged) := ⟨f__law_changed, _, ok_changed F__law_changed B, PySem.W.mg_of X G a__law_changed, F__law_changed.kp, F__law_changed.binds (ps := ["_law_line", "_law_cell", "_law_more"]) fun _ _ _ _ _ _ us hl => match us, hl with | [_, _, _], _ => rfl⟩
  have C__law_sole : CalZ l.prog w K mg base "_law_sole" 1 "_law_error" (fun C v => SoleK K N_NoLand N_NoHill N_SameHill N_TooHigh N_NothingDone N_HillError C ∧ v = .bl true) := ⟨f__law_sole, _, fun C v h => by obtain ⟨h, rfl⟩ := h; exact ok_sole F__law_sole B X_NoLand X_NoHill X_SameHill X_TooHigh X_NothingDone X_HillError h, PySem.W.mg_of X G a__law_sole, F__law_sole.kp, F__law_sole.binds (ps := ["_law_error"]) fun _ _ _ _ _ _ us hl => match us, hl with | [_], _ => rfl⟩
  have C__law_refused : Cal l.prog w K mg base "_law_refused" 5 ["_law_line"] (spV RRef11) := ⟨f__law_refused, _, ok_refused F__law_refused X_NoLand X_HillError sole_NoLand C__law_sole C_read, PySem.W.mg_of X G a__law_refused, F__law_refused.kp, F__law_refused.binds (ps := ["_law_line"]) fun _ _ _ _ _ _ us hl => match us, hl with | [_], _ => rfl⟩
  have C__law_height_of : Cal l.prog w K mg base "_law_height_of" 1 ["_law_word"] (spV RHeiOf) := ⟨f__law_height_of, _, ok_hei_of F__law_height_of B, PySem.W.mg_of X G a__law_height_of, F__law_height_of.kp, F__law_height_of.binds (ps := ["_law_word"]) fun _ _ _ _ _ _ us hl => match us, hl with | [_], _ => rfl⟩
  have C__law_read_alike : Cal l.prog w K mg base "_law_read_alike" 6 ["_law_line"] (spV RAlike) := ⟨f__law_read_alike, _, ok_alike F__law_read_alike B X_NoLand C__law_height_of C__law_refused C_read, PySem.W.mg_of X G a__law_read_alike, F__law_read_alike.kp, F__law_read_alike.binds (ps := ["_law_line"]) fun _ _ _ _ _ _ us hl => match us, hl with | [_], _ => rfl⟩
  exact ok_law F_law B C__law_cell_at C__law_whole C__law_land_by C__law_longer C_shown C_read C__law_figures_by C__law_wrong_by C__law_refused C__law_read_alike C__law_changed
end
end Hx
open PySem PySem.W PyProof.Rows
set_option maxHeartbeats 0 in
set_option maxRecDepth 100000 in
theorem PySem.Challenge.cw_hillsight_k11_texts_holds : PySem.Challenge.rw_hillsight_k11_texts.Holds := by
  w_on; o_law; k_head; (case hw => w_witness2)
  k_fill
  refine L2.walk_of (l := PySem.Challenge.rw_hillsight_k11_texts) (n := 63) (k := 7) (x := "_law_script") (CX := fun _ => L2.CX0) (sp := fun w => Hx.spLaw _) rfl (by decide) rfl ⟨rfl, by decide, by decide⟩ (fun w h Y => PySem.W.kIn_of Y) ?F (fun _ _ a ns hl _ hS => ⟨a, ns, rfl, hS, hl, fun _ => rfl⟩) (fun _ _ _ _ _ h => h)
  case F =>
    intro w mg fa h KX G hmg
    refine' Hx.all_mk KX G hmg ?a__law_cell_at ?l__law_cell_at ?c__law_cell_at ?k__law_cell_at ?a__law_whole ?l__law_whole ?c__law_whole ?k__law_whole ?a__law_height_by ?l__law_height_by ?c__law_height_by ?k__law_height_by ?a__law_land_by ?l__law_land_by ?c__law_land_by ?k__law_land_by ?a__law_longer ?l__law_longer ?c__law_longer ?k__law_longer ?a_is_whole ?l_is_whole ?c_is_whole ?k_is_whole ?a__is_in_bound ?l__is_in_bound ?c__is_in_bound ?k__is_in_bound ?a_checked ?l_checked ?c_checked ?k_checked ?a_shown ?l_shown ?c_shown ?k_shown ?a__height ?l__height ?c__height ?k__height ?a_read ?l_read ?c_read ?k_read ?a__law_figures_by ?l__law_figures_by ?c__law_figures_by ?k__law_figures_by ?a__law_wrong_by ?l__law_wrong_by ?c__law_wrong_by ?k__law_wrong_by ?a__law_changed ?l__law_changed ?c__law_changed ?k__law_changed ?a__law_sole ?l__law_sole ?c__law_sole ?k__law_sole ?a__law_refused ?l__law_refused ?c__law_refused ?k__law_refused ?a__law_height_of ?l__law_height_of ?c__law_height_of ?k__law_height_of ?a__law_read_alike ?l__law_read_alike ?c__law_read_alike ?k__law_read_alike ?a_law ?l_law ?c_law ?k_law ?z_len ?z_range ?z_isinstance ?z_int ?z_bool ?z_list ?z_tuple ?z_min ?z_max ?z_all ?z_sorted ?z_zip ?z_abs ?z_any ?z_set ?z_str ?z_ValueError ?g_HillError ?x_HillError ?k_HillError ?b_HillError ?t_HillError ?d_HillError ?s_HillError ?g_NoLand ?x_NoLand ?k_NoLand ?b_NoLand ?t_NoLand ?d_NoLand ?s_NoLand ?g_NoHill ?x_NoHill ?k_NoHill ?b_NoHill ?t_NoHill ?d_NoHill ?s_NoHill ?g_SameHill ?x_SameHill ?k_SameHill ?b_SameHill ?t_SameHill ?d_SameHill ?s_SameHill ?g_TooHigh ?x_TooHigh ?k_TooHigh ?b_TooHigh ?t_TooHigh ?d_TooHigh ?s_TooHigh ?g_NothingDone ?x_NothingDone ?k_NothingDone ?b_NothingDone ?t_NothingDone ?d_NothingDone ?s_NothingDone ?hg_NoLand ?hk_NoLand ?ha_NoLand ?hm_NoLand ?kv_NoLand ?kc_NoLand_NoHill ?kc_NoLand_SameHill ?kc_NoLand_TooHigh ?kc_NoLand_NothingDone ?kc_NoLand_HillError ?hn_cls ?ht_cls ?gc_BOUND ?gc_MOST_HILLS ?gc_MOST_FIGURES
    (case a__law_cell_at => k_is)
    (case l__law_cell_at => k_is)
    (case c__law_cell_at => k_is)
    (case k__law_cell_at => k_is)
    (case a__law_whole => k_is)
    (case l__law_whole => k_is)
    (case c__law_whole => k_is)
    (case k__law_whole => k_is)
    (case a__law_height_by => k_is)
    (case l__law_height_by => k_is)
    (case c__law_height_by => k_is)
    (case k__law_height_by => k_is)
    (case a__law_land_by => k_is)
    (case l__law_land_by => k_is)
    (case c__law_land_by => k_is)
    (case k__law_land_by => k_is)
    (case a__law_longer => k_is)
    (case l__law_longer => k_is)
    (case c__law_longer => k_is)
    (case k__law_longer => k_is)
    (case a_is_whole => k_is)
    (case l_is_whole => k_is)
    (case c_is_whole => k_is)
    (case k_is_whole => k_is)
    (case a__is_in_bound => k_is)
    (case l__is_in_bound => k_is)
    (case c__is_in_bound => k_is)
    (case k__is_in_bound => k_is)
    (case a_checked => k_is)
    (case l_checked => k_is)
    (case c_checked => k_is)
    (case k_checked => k_is)
    (case a_shown => k_is)
    (case l_shown => k_is)
    (case c_shown => k_is)
    (case k_shown => k_is)
    (case a__height => k_is)
    (case l__height => k_is)
    (case c__height => k_is)
    (case k__height => k_is)
    (case a_read => k_is)
    (case l_read => k_is)
    (case c_read => k_is)
    (case k_read => k_is)
    (case a__law_figures_by => k_is)
    (case l__law_figures_by => k_is)
    (case c__law_figures_by => k_is)
    (case k__law_figures_by => k_is)
    (case a__law_wrong_by => k_is)
    (case l__law_wrong_by => k_is)
    (case c__law_wrong_by => k_is)
    (case k__law_wrong_by => k_is)
    (case a__law_changed => k_is)
    (case l__law_changed => k_is)
    (case c__law_changed => k_is)
    (case k__law_changed => k_is)
    (case a__law_sole => k_is)
    (case l__law_sole => k_is)
    (case c__law_sole => k_is)
    (case k__law_sole => k_is)
    (case a__law_refused => k_is)
    (case l__law_refused => k_is)
    (case c__law_refused => k_is)
    (case k__law_refused => k_is)
    (case a__law_height_of => k_is)
    (case l__law_height_of => k_is)
    (case c__law_height_of => k_is)
    (case k__law_height_of => k_is)
    (case a__law_read_alike => k_is)
    (case l__law_read_alike => k_is)
    (case c__law_read_alike => k_is)
    (case k__law_read_alike => k_is)
    (case a_law => k_is)
    (case l_law => k_is)
    (case c_law => k_is)
    (case k_law => k_is)
    (case z_len => k_is)
    (case z_range => k_is)
    (case z_isinstance => k_is)
    (case z_int => k_is)
    (case z_bool => k_is)
    (case z_list => k_is)
    (case z_tuple => k_is)
    (case z_min => k_is)
    (case z_max => k_is)
    (case z_all => k_is)
    (case z_sorted => k_is)
    (case z_zip => k_is)
    (case z_abs => k_is)
    (case z_any => k_is)
    (case z_set => k_is)
    (case z_str => k_is)
    (case z_ValueError => k_is)
    (case g_HillError => k_is)
    (case x_HillError => k_exc)
    (case k_HillError => k_is)
    (case b_HillError => k_is)
    (case t_HillError => k_is)
    (case d_HillError => k_is)
    (case s_HillError => first | rfl | k_is)
    (case g_NoLand => k_is)
    (case x_NoLand => k_exc)
    (case k_NoLand => k_is)
    (case b_NoLand => k_is)
    (case t_NoLand => k_is)
    (case d_NoLand => k_is)
    (case s_NoLand => first | rfl | k_is)
    (case g_NoHill => k_is)
    (case x_NoHill => k_exc)
    (case k_NoHill => k_is)
    (case b_NoHill => k_is)
    (case t_NoHill => k_is)
    (case d_NoHill => k_is)
    (case s_NoHill => first | rfl | k_is)
    (case g_SameHill => k_is)
    (case x_SameHill => k_exc)
    (case k_SameHill => k_is)
    (case b_SameHill => k_is)
    (case t_SameHill => k_is)
    (case d_SameHill => k_is)
    (case s_SameHill => first | rfl | k_is)
    (case g_TooHigh => k_is)
    (case x_TooHigh => k_exc)
    (case k_TooHigh => k_is)
    (case b_TooHigh => k_is)
    (case t_TooHigh => k_is)
    (case d_TooHigh => k_is)
    (case s_TooHigh => first | rfl | k_is)
    (case g_NothingDone => k_is)
    (case x_NothingDone => k_exc)
    (case k_NothingDone => k_is)
    (case b_NothingDone => k_is)
    (case t_NothingDone => k_is)
    (case d_NothingDone => k_is)
    (case s_NothingDone => first | rfl | k_is)
    (case hg_NoLand => k_is)
    (case hk_NoLand => k_is)
    (case ha_NoLand => k_is)
    (case hm_NoLand => k_is)
    (case kv_NoLand => k_is)
    (case kc_NoLand_NoHill => k_is)
    (case kc_NoLand_SameHill => k_is)
    (case kc_NoLand_TooHigh => k_is)
    (case kc_NoLand_NothingDone => k_is)
    (case kc_NoLand_HillError => k_is)
    (case hn_cls => k_is)
    (case ht_cls => k_is)
    (case gc_BOUND => k_is)
    (case gc_MOST_HILLS => k_is)
    (case gc_MOST_FIGURES => k_is)
