import PyProof.Rows.All
import Wide.All
import OpenK.AllK
import Wide.FinOn
import HandS.ForMost
import HandS.Wide
import HandS.WideBits
import HandS.IsInst
import HandS.Flow
import HandS.Defaults
import HandS.OwnEq
import HandS.MakeKw
import HandS.DictEq
import HandS.Deep
import PySem.Challenge.RW_branchdues_k04_dues_changed
import KE.KDictPairs
import HandS.DeepEq
import HandS.SlotsOwn
import PyProof.InstNe
import PyProof.Rows.EqNone
import HandS.Walk
import HandS.Style
import HandS.ForExc
import HandS.WordsExc
import HandS.SetFor
import HandS.ExcIs
import HandS.Lambda
import HandS.EndTab
import KE.KNestM
set_option Elab.async false
set_option linter.unusedVariables false
set_option maxRecDepth 100000
set_option maxHeartbeats 1000000
section
namespace Bd
open PySem L2
def top (i : Nat) : Stmt := PySem.Challenge.pw_branchdues_k04_dues_changed.main.body.getD i (.Pass ⟨0, 0, 0, 0⟩)
/-- a def as its callers see it -/
structure Cal (P : Program) (w : World) (K : PySem.W.Frag) (mg : Str → Option Value) (base : Heap) (x : Str) (ps : List Str) (k : Nat) (sp : Sp) (f : Addr) (fd : FuncData) : Prop where
  ok : FnOk P w K mg base CX0 k f fd ps sp
  mg : mg x = some (.ref f)
  kp : PySem.W.keepIn K (.ref f) = true
  bd : Binds K fd ps []
/-- all but p stays as it was -/
def Kept (p : Addr) (H H' : Hp) : Prop := ∀ b o, b ≠ p → H b = some o → H' b = some o
theorem Kept.refl (p : Addr) (H : Hp) : Kept p H H := fun _ _ _ h => h
theorem Kept.trans {p : Addr} {H H1 H2 : Hp} (a : Kept p H H1) (b : Kept p H1 H2) : Kept p H H2 := fun c o h e => b c o h (a c o h e)
theorem Kept.of {p : Addr} {H H1 : Hp} (a : Same H H1) : Kept p H H1 := fun c o _ e => a c o e
theorem Kept.upd {p : Addr} {H H1 : Hp} (a : Kept p H H1) (o : HO) : Kept p H (L2.upd H1 p o) := fun c u h e => by rw [upd_ne h]; exact a c u h e
theorem Kept.new {p q : Addr} {H H1 : Hp} (a : Kept p H H1) (h : H1 q = none) (o : HO) : Kept p H (L2.upd H1 q o) := fun c u hc e => by
  have := a c u hc e
  rw [upd_ne (ne_of_none this h)]; exact this
theorem Kept.free {p l : Addr} {H H' : Hp} (e : Kept p H H') (hl : l ≠ p) (h : H' l = none) : H l = none := by
  cases q : H l with
  | none => rfl
  | some o => rw [e l o hl q] at h; cases h
theorem Same.new {H H1 : Hp} {q : Addr} (a : Same H H1) (h : H1 q = none) (o : HO) : Same H (upd H1 q o) := fun c u e => by
  have := a c u e
  rw [upd_ne (ne_of_none this h)]; exact this
theorem Kept.seq {K : PySem.W.Frag} {p : Addr} {H H' : Hp} {a : Addr} {xs : List V} (e : Kept p H H') (hp : a ≠ p) (h : SqL K H a xs) : SqL K H' a xs := by
  rcases h with (h | ⟨o, h⟩) | h
  · exact .inl (.inl (e _ _ hp h))
  · exact .inl (.inr ⟨o, e _ _ hp h⟩)
  · exact .inr h
theorem fm0 {x m : Int} (h : 0 < m) : 0 ≤ x.fmod m := Int.fmod_nonneg_of_pos x h
theorem fm1 {x m : Int} (h : 0 < m) : x.fmod m < m := Int.fmod_lt_of_pos x h
theorem fm_in {x m : Int} (h : 0 < m) (h2 : m ≤ 2 ^ 63) : -(2 ^ 64) < x.fmod m ∧ x.fmod m < 2 ^ 64 := by
  have := fm0 (x := x) h
  have := fm1 (x := x) h
  omega
theorem fm_nat {x : Int} {m : Nat} (h : 0 < m) : ∃ v : Nat, x.fmod (m : Int) = (v : Int) ∧ v < m := by
  have h1 := fm0 (x := x) (m := (m : Int)) (by omega)
  have h2 := fm1 (x := x) (m := (m : Int)) (by omega)
  exact ⟨(x.fmod (m : Int)).toNat, by omega, by omega⟩
theorem small {n : Nat} (h : n ≤ 1000) : n ≤ sizeLine := Nat.le_of_lt (small1000 h)
/-- an amount as the law draws it: in lowest terms, not too long -/
def AmtOk (n d : Nat) : Prop := 0 < d ∧ Nat.gcd n d = 1 ∧ n ≤ 10 ^ 13 ∧ d ≤ 10 ^ 13

/-- what the text needs of the top, one built-in name each -/
structure TA (mg : Str → Option Value) : Prop where
  z_len : mg "len" = none
  z_int : mg "int" = none
  z_range : mg "range" = none
  z_abs : mg "abs" = none
  z_tuple : mg "tuple" = none
  z_list : mg "list" = none
  z_enumerate : mg "enumerate" = none
abbrev sCellAt : Stmt := (top 37)
theorem scCellAt : FnScope ["_law_script", "_law_k"] ["_law_script", "_law_k"] (defScope sCellAt) := ⟨rfl, rfl, rfl, by decide +kernel, rfl, by decide +kernel, by decide +kernel⟩
abbrev sMixed : Stmt := (top 38)
theorem scMixed : FnScope ["_law_cell", "_law_k", "_law_low"] ["_law_cell", "_law_k"] (defScope sMixed) := ⟨rfl, rfl, rfl, by decide +kernel, rfl, by decide +kernel, by decide +kernel⟩
abbrev sSource : Stmt := (top 39)
theorem scSource : FnScope ["_law_script", "_law_k", "_law_cell"] ["_law_script", "_law_k"] (defScope sSource) := ⟨rfl, rfl, rfl, by decide +kernel, rfl, by decide +kernel, by decide +kernel⟩
abbrev sNext : Stmt := (top 40)
theorem scNext : FnScope ["_law_source_here", "_law_many", "_law_found"] ["_law_source_here", "_law_many"] (defScope sNext) := ⟨rfl, rfl, rfl, by decide +kernel, rfl, by decide +kernel, by decide +kernel⟩
abbrev sOne : Stmt := (top 41)
theorem scOne : FnScope ["_law_source_here", "_law_things"] ["_law_source_here", "_law_things"] (defScope sOne) := ⟨rfl, rfl, rfl, by decide +kernel, rfl, by decide +kernel, by decide +kernel⟩

/-- a source of draws -/
def Src (H : Hp) (p : Addr) : Prop := ∃ x y z : Int, H p = some (.lst [.int x, .int y, .int z])
def spCellAt (K : PySem.W.Frag) : Sp := fun vs H Q _ => ∃ (a : Addr) (ns : List Int) (k : Nat), vs = [.ref a, .int (k : Int)] ∧ SqL K H a (ns.map V.int) ∧ ∀ v : Int, Q (.int v) H
def spMixed : Sp := fun vs H Q _ => ∃ (c k : Int), vs = [.int c, .int k] ∧ ∀ v : Int, 0 ≤ v → Q (.int v) H
def spSource (K : PySem.W.Frag) : Sp := fun vs H Q _ => ∃ (a : Addr) (ns : List Int) (k : Nat), vs = [.ref a, .int (k : Int)] ∧ SqL K H a (ns.map V.int) ∧ ∀ p H', H p = none → Same H H' → Src H' p → Q (.ref p) H'
def spNext : Sp := fun vs H Q _ => ∃ (p : Addr) (m : Nat), vs = [.ref p, .int (m : Int)] ∧ Src H p ∧ 0 < m ∧ m ≤ 1000000 ∧ ∀ (v : Nat) H', v < m → Src H' p → Kept p H H' → Q (.int (v : Int)) H'
/-- one of some things: a list or a tuple that is not the source -/
def spOne (K : PySem.W.Frag) : Sp := fun vs H Q _ => ∃ (p a : Addr) (xs : List V), vs = [.ref p, .ref a] ∧ Src H p ∧ SqL K H a xs ∧ a ≠ p ∧ xs ≠ [] ∧ xs.length ≤ 1000 ∧ ∀ (v : V) H', v ∈ xs → Src H' p → Kept p H H' → Q v H'
section
variable {P : Program} {w : World} {K : PySem.W.Frag} {mg : Str → Option Value} {base : Heap}
theorem cell_at {ns : List Int} {k : Nat} (h : k < ns.length) : ∃ v : Int, atI (ns.map V.int) (k : Int) = some (.int v) :=
  ⟨ns[k], atI_nat (by rw [List.getElem?_map, List.getElem?_eq_getElem h]; rfl)⟩
theorem ok_cellAt {f : Addr} {fd : FuncData} (F : Fun K "_law_cell_at" "_law_cell_at" sCellAt f fd) (T : TA mg) : FnOk P w K mg base CX0 1 f fd ["_law_script", "_law_k"] (spCellAt K) := by
  refine F.ok scCellAt (fun vs H Q E h => ?_) (fun cdv A outer s H vs Q E hr h => ?_)
  · obtain ⟨a, ns, k, rfl, _⟩ := h
    rfl
  obtain ⟨a, ns, k, rfl, hS, q⟩ := h
  refine ⟨_, (pss_cons (ps_if (pt_cmpR op_lt (pv 1) (pe_callB call_len_seq (by rfl) T.z_len PySem.boot_len (pa_cons (pv 0) pa_nil)) (nomark _)) (pss_one (ps_ret (pe_ix ix_list (pv 0) (pv 1) (fun _ _ => rfl)))) pss_nil) (pss_one (ps_ret pe_int))), ?_⟩
  refine ⟨_, rfl, _, rfl, a, _, rfl, .inl hS, _, _, rfl, rfl, _, rfl, ?_⟩
  refine ite2 (fun c => ?_) (fun c => ?_)
  · have c' := of_decide_eq_true c
    rw [List.length_map] at c'
    obtain ⟨v, hv⟩ := cell_at (ns := ns) (k := k) (by omega)
    refine ⟨_, rfl, _, rfl, a, _, _, _, rfl, rfl, hS, hv, ?_⟩
    exact q v
  · exact q 0

theorem ok_mixed {f : Addr} {fd : FuncData} (F : Fun K "_law_mixed" "_law_mixed" sMixed f fd) (T : TA mg) : FnOk P w K mg base CX0 1 f fd ["_law_cell", "_law_k"] spMixed := by
  refine F.ok scMixed (fun vs H Q E h => ?_) (fun cdv A outer s H vs Q E hr h => ?_)
  · obtain ⟨c, k, rfl, _⟩ := h
    rfl
  obtain ⟨c, k, rfl, q⟩ := h
  refine ⟨_, (pss_cons (ps_set (i := 2) scMixed.nd rfl (Or.inl rfl) (pe_op op_add (pe_op op_modN (pe_callTy call_int1 (by rfl) T.z_int (by decide +kernel) (pa_cons (pv 0) pa_nil)) pe_int) (pe_op op_mul (pe_op op_fdivW (pv 0) pe_int) pe_int))) (pss_cons (ps_set (i := 2) scMixed.nd rfl (Or.inl rfl) (pe_op op_modN (pe_callTy call_int1 (by rfl) T.z_int (by decide +kernel) (pa_cons (pe_op op_mul (pe_op op_add (pe_op op_add (pv 2) (pe_op op_mul pe_int (pv 1))) pe_int) pe_int) pa_nil)) pe_int)) (pss_cons (ps_set (i := 2) scMixed.nd rfl (Or.inl rfl) (pe_op op_modN (pe_callTy call_int1 (by rfl) T.z_int (by decide +kernel) (pa_cons (pe_op op_mul (pv 2) (pe_op op_add (pe_op op_add (pe_op op_fdivN (pv 2) pe_int) pe_int) (pv 1))) pa_nil)) pe_int)) (pss_one (ps_ret (pe_op op_modN (pe_callTy call_int1 (by rfl) T.z_int (by decide +kernel) (pa_cons (pe_op op_mul (pv 2) (pe_op op_add (pe_op op_fdivN (pv 2) pe_int) pe_int)) pa_nil)) pe_int)))))), ?_⟩
  refine ⟨_, rfl, .inl ⟨_, rfl, _, _, rfl, rfl, by show (2147483629 : Int) ≠ 0; decide, _, rfl, _, _, rfl, rfl, ⟨by decide, by decide +kernel⟩, _, _, rfl, rfl, .inr ⟨by decide, by decide⟩, _, _, rfl, rfl, ?_⟩⟩
  refine ⟨_, rfl, _, rfl, _, _, rfl, rfl, .inl ⟨by decide, by decide⟩, _, _, rfl, rfl, _, _, rfl, rfl, _, _, rfl, rfl, .inr ⟨by decide, by decide⟩, .inl ⟨_, rfl, _, _, rfl, rfl, by show (2147483629 : Int) ≠ 0; decide, ?_⟩⟩
  refine ⟨_, rfl, _, rfl, _, _, rfl, rfl, ⟨by decide, by decide⟩, _, _, rfl, rfl, _, rfl, _, _, rfl, rfl, _, _, rfl, rfl, .inl (fm_in (by decide) (by decide)), .inl ⟨_, rfl, _, _, rfl, rfl, by show (2147483587 : Int) ≠ 0; decide, ?_⟩⟩
  refine ⟨_, rfl, _, rfl, _, _, rfl, rfl, ⟨by decide, by decide⟩, _, _, rfl, rfl, _, _, rfl, rfl, .inl (fm_in (by decide) (by decide)), .inl ⟨_, rfl, _, _, rfl, rfl, by show (2147483563 : Int) ≠ 0; decide, ?_⟩⟩
  exact q _ (fm0 (by decide))

theorem ok_next {f g : Addr} {fd gd : FuncData} (F : Fun K "_law_next" "_law_next" sNext f fd) (T : TA mg) (cM : Cal P w K mg base "_law_mixed" ["_law_cell", "_law_k"] 1 spMixed g gd) : FnOk P w K mg base CX0 2 f fd ["_law_source_here", "_law_many"] spNext := by
  refine F.ok scNext (fun vs H Q E h => ?_) (fun cdv A outer s H vs Q E hr h => ?_)
  · obtain ⟨p, m, rfl, _⟩ := h
    rfl
  obtain ⟨p, m, rfl, ⟨x, y, z, hp⟩, h0, h1, q⟩ := h
  refine ⟨_, (pss_cons (ps_if (pt_cmpR op_ge (pe_ix ix_list (pv 0) pe_int (fun _ _ => rfl)) (pe_op op_pow pe_int pe_int) (nomark _)) (pss_cons (ps_set (i := 2) scNext.nd rfl (Or.inl rfl) (pe_op op_modN (pe_callTy call_int1 (by rfl) T.z_int (by decide +kernel) (pa_cons (pe_ix ix_list (pv 0) pe_int (fun _ _ => rfl)) pa_nil)) (pv 1))) (pss_cons (ps_asg (pe_op op_fdivN (pe_ix ix_list (pv 0) pe_int (fun _ _ => rfl)) (pv 1)) (pg_sub (pv 0) pe_int set_list)) (pss_one (ps_ret (pv 2))))) pss_nil) (pss_cons (ps_asg (pe_op op_add (pe_ix ix_list (pv 0) pe_int (fun _ _ => rfl)) pe_int) (pg_sub (pv 0) pe_int set_list)) (pss_one (ps_ret (pe_op op_modN (pe_callTy call_int1 (by rfl) T.z_int (by decide +kernel) (pa_cons (pe_call cM.ok (hr.mono (by decide)) rfl cM.mg cM.kp cM.bd .nil pass0 (pa_cons (pe_ix ix_list (pv 0) pe_int (fun _ _ => rfl)) (pa_cons (pe_ix ix_list (pv 0) pe_int (fun _ _ => rfl)) pa_nil))) pa_nil)) (pv 1)))))), ?_⟩
  refine ⟨_, rfl, p, _, _, _, rfl, rfl, SqL.of hp, rfl, _, _, rfl, rfl, ⟨by decide, by decide, by decide⟩, _, _, rfl, rfl, _, rfl, ?_⟩
  refine ite2 (fun c => ?_) (fun c => ?_)
  · obtain ⟨v, ev, hv⟩ := fm_nat (x := x) (m := m) h0
    refine ⟨_, rfl, p, _, _, _, rfl, rfl, SqL.of hp, rfl, .inl ⟨_, rfl, _, rfl, _, _, rfl, rfl, by show (m : Int) ≠ 0; omega, ?_⟩⟩
    refine ⟨_, rfl, p, _, _, _, rfl, rfl, SqL.of hp, rfl, _, rfl, _, _, rfl, rfl, ⟨by show (m : Int) ≠ 0; omega, by omega⟩, _, rfl, p, _, _, _, rfl, rfl, hp, rfl, ?_⟩
    refine ⟨_, rfl, ?_⟩
    show Q (.int (x.fmod (m : Int))) _
    rw [ev]
    exact q v _ hv ⟨_, _, _, upd_same⟩ ((Kept.refl p H).upd _)
  · refine ⟨_, rfl, p, _, _, _, rfl, rfl, SqL.of hp, rfl, _, _, rfl, rfl, _, rfl, p, _, _, _, rfl, rfl, hp, rfl, ?_⟩
    refine ⟨_, rfl, p, _, _, _, rfl, rfl, SqL.of upd_same, rfl, _, rfl, p, _, _, _, rfl, rfl, SqL.of upd_same, rfl, _, _, rfl, fun u hu => .inl ⟨_, rfl, _, rfl, _, _, rfl, rfl, by show (m : Int) ≠ 0; omega, ?_⟩⟩
    obtain ⟨v, ev, hv⟩ := fm_nat (x := u) (m := m) h0
    show Q (.int (u.fmod (m : Int))) _
    rw [ev]
    exact q v _ hv ⟨_, _, _, upd_same⟩ ((Kept.refl p H).upd _)

theorem ok_source {f g e : Addr} {fd gd ed : FuncData} (F : Fun K "_law_source" "_law_source" sSource f fd) (T : TA mg) (cM : Cal P w K mg base "_law_mixed" ["_law_cell", "_law_k"] 1 spMixed g gd) (cC : Cal P w K mg base "_law_cell_at" ["_law_script", "_law_k"] 1 (spCellAt K) e ed) : FnOk P w K mg base CX0 2 f fd ["_law_script", "_law_k"] (spSource K) := by
  refine F.ok scSource (fun vs H Q E h => ?_) (fun cdv A outer s H vs Q E hr h => ?_)
  · obtain ⟨a, ns, k, rfl, _⟩ := h
    rfl
  obtain ⟨a, ns, k, rfl, hS, q⟩ := h
  refine ⟨_, (pss_cons (ps_if (pt_cmpR op_lt (pv 1) (pe_callB call_len_seq (by rfl) T.z_len PySem.boot_len (pa_cons (pv 0) pa_nil)) (nomark _)) (pss_one (ps_ret (pe_lst (pa_cons (pe_ix ix_list (pv 0) (pv 1) (fun _ _ => rfl)) (pa_cons (pe_ix ix_list (pv 0) (pv 1) (fun _ _ => rfl)) (pa_cons pe_int pa_nil)))))) pss_nil) (pss_cons (ps_set (i := 2) scSource.nd rfl (Or.inl rfl) (pe_call cM.ok (hr.mono (by decide)) rfl cM.mg cM.kp cM.bd .nil pass0 (pa_cons (pe_call cC.ok (hr.mono (by decide)) rfl cC.mg cC.kp cC.bd .nil pass0 (pa_cons (pv 0) (pa_cons pe_int pa_nil))) (pa_cons (pe_op op_add pe_int (pv 1)) pa_nil)))) (pss_one (ps_ret (pe_lst (pa_cons (pv 2) (pa_cons (pv 2) (pa_cons pe_int pa_nil)))))))), ?_⟩
  refine ⟨_, rfl, _, rfl, a, _, rfl, .inl hS, _, _, rfl, rfl, _, rfl, ?_⟩
  refine ite2 (fun c => ?_) (fun c => ?_)
  · have c' := of_decide_eq_true c
    rw [List.length_map] at c'
    obtain ⟨v, hv⟩ := cell_at (ns := ns) (k := k) (by omega)
    refine ⟨_, rfl, _, rfl, a, _, _, _, rfl, rfl, hS, hv, _, rfl, _, rfl, a, _, _, _, rfl, rfl, hS, hv, by show 3 ≤ sizeLine; decide, fun p hp => ?_⟩
    exact q p _ hp (Same.new (Same.refl H) hp _) ⟨_, _, _, upd_same⟩
  · refine ⟨_, rfl, a, ns, 0, rfl, hS, fun v => ?_⟩
    refine ⟨_, rfl, _, _, rfl, rfl, _, _, rfl, fun u hu => ?_⟩
    refine ⟨_, rfl, _, rfl, by show 3 ≤ sizeLine; decide, fun p hp => ?_⟩
    exact q p _ hp (Same.new (Same.refl H) hp _) ⟨_, _, _, upd_same⟩

theorem ok_one {f g : Addr} {fd gd : FuncData} (F : Fun K "_law_one" "_law_one" sOne f fd) (T : TA mg) (cN : Cal P w K mg base "_law_next" ["_law_source_here", "_law_many"] 2 spNext g gd) : FnOk P w K mg base CX0 3 f fd ["_law_source_here", "_law_things"] (spOne K) := by
  refine F.ok scOne (fun vs H Q E h => ?_) (fun cdv A outer s H vs Q E hr h => ?_)
  · obtain ⟨p, a, xs, rfl, _⟩ := h
    rfl
  obtain ⟨p, a, xs, rfl, hp, hS, hne, h0, h1, q⟩ := h
  refine ⟨_, (pss_one (ps_ret (pe_ix ix_list (pv 1) (pe_call cN.ok (hr.mono (by decide)) rfl cN.mg cN.kp cN.bd .nil pass0 (pa_cons (pv 0) (pa_cons (pe_callB call_len_seq (by rfl) T.z_len PySem.boot_len (pa_cons (pv 1) pa_nil)) pa_nil))) (fun _ _ => rfl)))), ?_⟩
  refine ⟨_, rfl, _, rfl, _, rfl, a, _, rfl, .inl hS, p, xs.length, rfl, hp, List.length_pos_iff.mpr h0, by omega, fun v H1 hv hp1 k1 => ?_⟩
  refine ⟨a, _, _, _, rfl, rfl, k1.seq hne hS, atI_nat (List.getElem?_eq_getElem hv), ?_⟩
  exact q _ H1 (List.getElem_mem hv) hp1 k1

end
end Bd
end

section
namespace Bd
open PySem L2
abbrev sCommon : Stmt := (top 42)
theorem scCommon : FnScope ["_law_one_here", "_law_other"] ["_law_one_here", "_law_other"] (defScope sCommon) := ⟨rfl, rfl, rfl, by decide +kernel, rfl, by decide +kernel, by decide +kernel⟩
abbrev sFraction : Stmt := (top 43)
theorem scFraction : FnScope ["_law_top", "_law_bottom", "_law_measure"] ["_law_top", "_law_bottom"] (defScope sFraction) := ⟨rfl, rfl, rfl, by decide +kernel, rfl, by decide +kernel, by decide +kernel⟩
abbrev sAmount : Stmt := (top 44)
theorem scAmount : FnScope ["_law_source_here", "_law_way"] ["_law_source_here"] (defScope sAmount) := ⟨rfl, rfl, rfl, by decide +kernel, rfl, by decide +kernel, by decide +kernel⟩

def spCommon : Sp := fun vs H Q _ => ∃ (a b : Nat), vs = [.int (a : Int), .int (b : Int)] ∧ Q (.int (Nat.gcd a b : Nat)) H
/-- a pair in lowest terms at p -/
def AmtAt (H : Hp) (v : V) (n d : Nat) : Prop := ∃ p, v = .ref p ∧ H p = some (.tup [.int (n : Int), .int (d : Int)])
def spFraction : Sp := fun vs H Q _ => ∃ (a b : Nat), vs = [.int (a : Int), .int (b : Int)] ∧ a ≤ 10 ^ 13 ∧ 0 < b ∧ b ≤ 1000 ∧
  ∀ p n d, H p = none → AmtOk n d → Q (.ref p) (upd H p (.tup [.int (n : Nat), .int (d : Nat)]))
def spAmount : Sp := fun vs H Q _ => ∃ (s : Addr), vs = [.ref s] ∧ Src H s ∧
  ∀ v n d H', AmtOk n d → AmtAt H' v n d → Src H' s → Kept s H H' → Q v H'
section
variable {P : Program} {w : World} {K : PySem.W.Frag} {mg : Str → Option Value} {base : Heap}
def mu1 : St → Hp → Nat := fun σ _ => match σ[1]? with
  | some (some (V.int b)) => b.toNat
  | _ => 0
theorem ok_common {f : Addr} {fd : FuncData} (F : Fun K "_law_common" "_law_common" sCommon f fd) (T : TA mg) : FnOk P w K mg base CX0 1 f fd ["_law_one_here", "_law_other"] spCommon := by
  refine F.ok scCommon (fun vs H Q E h => ?_) (fun cdv A outer s H vs Q E hr h => ?_)
  · obtain ⟨a, b, rfl, _⟩ := h
    rfl
  obtain ⟨a, b, rfl, q⟩ := h
  refine ⟨_, (pss_cons (ps_while PassesOwn.never (pt_cmpR op_gt (pv 1) pe_int (nomark _)) (pss_one (ps_par (i := 0) (j := 1) (by rfl) scCommon.nd rfl rfl (by decide) rfl rfl (pa_cons (pv 1) (pa_cons (pe_op op_modN (pe_callTy call_int1 (by rfl) T.z_int (by decide +kernel) (pa_cons (pv 0) pa_nil)) (pv 1)) pa_nil)) (by rfl)))) (pss_one (ps_ret (pe_callB call_abs (by rfl) T.z_abs (by decide +kernel) (pa_cons (pv 0) pa_nil))))), ?_⟩
  refine while_by (fun σ H' => H' = H ∧ ∃ x y : Nat, σ = [some (.int (x : Int)), some (.int (y : Int))] ∧ Nat.gcd x y = Nat.gcd a b) mu1 ⟨rfl, a, b, rfl, rfl⟩ ?_ ?_
  · rintro σ H' ⟨rfl, x, y, rfl, e⟩
    refine ⟨_, rfl, _, _, rfl, rfl, _, rfl, ?_⟩
    refine ite2 (fun c => ?_) (fun c => ?_)
    · have c' : (0 : Int) < (y : Int) := of_decide_eq_true c
      refine ⟨_, rfl, _, rfl, .inl ⟨_, rfl, _, rfl, _, _, rfl, rfl, by show (y : Int) ≠ 0; omega, _, _, rfl, ?_⟩⟩
      have em : (x : Int).fmod (y : Int) = ((x % y : Nat) : Int) := by
        rw [Int.fmod_eq_emod_of_nonneg _ (by omega)]
        exact (Int.natCast_emod x y).symm
      refine ⟨⟨rfl, y, x % y, ?_, ?_⟩, ?_⟩
      · show [some (V.int (y : Int)), some (V.int ((x : Int).fmod (y : Int)))] = _
        rw [em]
      · rw [← e, Nat.gcd_comm x y, Nat.gcd_rec y x, Nat.gcd_comm]
      · show ((x : Int).fmod (y : Int)).toNat < (y : Int).toNat
        rw [em]
        have := Nat.mod_lt x (show 0 < y by omega)
        omega
    · have c' : ¬ (0 : Int) < (y : Int) := of_decide_eq_false (Bool.eq_false_iff.mpr c)
      have y0 : y = 0 := by omega
      subst y0
      refine ⟨_, rfl, _, rfl, ?_⟩
      rw [Nat.gcd_zero_right] at e
      rw [if_neg (show ¬ (x : Int) < 0 by omega), e]
      exact q
  · rintro σ H' Q Q' f ⟨v, h1, i, j, h2, h3, k, h4, q⟩
    exact ⟨v, h1, i, j, h2, h3, k, h4, f _ _ q⟩

theorem gcd_low {a b : Nat} (hb : 0 < b) : Nat.gcd (a / Nat.gcd a b) (b / Nat.gcd a b) = 1 := by
  rw [Nat.gcd_div (Nat.gcd_dvd_left a b) (Nat.gcd_dvd_right a b)]
  exact Nat.div_self (Nat.gcd_pos_of_pos_right a hb)
theorem ok_fraction {f g : Addr} {fd gd : FuncData} (F : Fun K "_law_fraction" "_law_fraction" sFraction f fd) (T : TA mg) (cC : Cal P w K mg base "_law_common" ["_law_one_here", "_law_other"] 1 spCommon g gd) : FnOk P w K mg base CX0 2 f fd ["_law_top", "_law_bottom"] spFraction := by
  refine F.ok scFraction (fun vs H Q E h => ?_) (fun cdv A outer s H vs Q E hr h => ?_)
  · obtain ⟨a, b, rfl, _⟩ := h
    rfl
  obtain ⟨a, b, rfl, ha, h0, h1, q⟩ := h
  have hg : 0 < Nat.gcd a b := Nat.gcd_pos_of_pos_right a h0
  have hl : Nat.gcd a b ≤ b := Nat.gcd_le_right a h0
  have e1 : ∀ x : Nat, (x : Int).fdiv (Nat.gcd a b : Nat) = ((x / Nat.gcd a b : Nat) : Int) := fun x => by
    rw [Int.fdiv_eq_ediv_of_nonneg _ (by omega)]
    exact (Int.natCast_ediv x _).symm
  refine ⟨_, (pss_cons (ps_set (i := 2) scFraction.nd rfl (Or.inl rfl) (pe_call cC.ok (hr.mono (by decide)) rfl cC.mg cC.kp cC.bd .nil pass0 (pa_cons (pv 0) (pa_cons (pv 1) pa_nil)))) (pss_one (ps_ret (pe_tup (pa_cons (pe_op op_fdivN (pv 0) (pv 2)) (pa_cons (pe_op op_fdivN (pv 1) (pv 2)) pa_nil)))))), ?_⟩
  refine ⟨_, rfl, _, rfl, a, b, rfl, ?_⟩
  refine ⟨_, rfl, _, rfl, _, _, rfl, rfl, ⟨by show ((Nat.gcd a b : Nat) : Int) ≠ 0; omega, by omega⟩, _, rfl, _, rfl, _, _, rfl, rfl, ⟨by show ((Nat.gcd a b : Nat) : Int) ≠ 0; omega, by omega⟩, by show 2 ≤ sizeLine; decide, fun p hp => ?_⟩
  have := q p (a / Nat.gcd a b) (b / Nat.gcd a b) hp ⟨Nat.div_pos hl hg, gcd_low h0, Nat.le_trans (Nat.div_le_self _ _) ha, Nat.le_trans (Nat.div_le_self _ _) (Nat.le_trans h1 (by decide))⟩
  show Q (.ref p) (upd H p (.tup [.int ((a : Int).fdiv (Nat.gcd a b : Nat)), .int ((b : Int).fdiv (Nat.gcd a b : Nat))]))
  rw [e1, e1]
  exact this

theorem ok_amount {f g e : Addr} {fd gd ed : FuncData} (F : Fun K "_law_amount" "_law_amount" sAmount f fd) (T : TA mg) (cN : Cal P w K mg base "_law_next" ["_law_source_here", "_law_many"] 2 spNext g gd) (cF : Cal P w K mg base "_law_fraction" ["_law_top", "_law_bottom"] 2 spFraction e ed) : FnOk P w K mg base CX0 3 f fd ["_law_source_here"] spAmount := by
  refine F.ok scAmount (fun vs H Q E h => ?_) (fun cdv A outer s H vs Q E hr h => ?_)
  · obtain ⟨p, rfl, _⟩ := h
    rfl
  obtain ⟨p, rfl, hp, q⟩ := h
  have np : ∀ {H1 : Hp} {r : Addr}, Src H1 p → H1 r = none → p ≠ r := fun h hr => by
    obtain ⟨_, _, _, h⟩ := h
    exact ne_of_none h hr
  have sr : ∀ {H1 : Hp} {r : Addr} {o : HO}, Src H1 p → H1 r = none → Src (upd H1 r o) p := fun h hr => by
    have n := np h hr
    obtain ⟨x, y, z, h⟩ := h
    exact ⟨x, y, z, by rw [upd_ne n]; exact h⟩
  refine ⟨_, (pss_cons (ps_set (i := 1) scAmount.nd rfl (Or.inl rfl) (pe_call cN.ok (hr.mono (by decide)) rfl cN.mg cN.kp cN.bd .nil pass0 (pa_cons (pv 0) (pa_cons pe_int pa_nil)))) (pss_cons (ps_if (pt_cmpR op_eq (pv 1) pe_int (nomark _)) (pss_one (ps_ret (pe_tup (pa_cons pe_int (pa_cons pe_int pa_nil))))) pss_nil) (pss_cons (ps_if (pt_cmpR op_eq (pv 1) pe_int (nomark _)) (pss_one (ps_ret (pe_call cF.ok (hr.mono (by decide)) rfl cF.mg cF.kp cF.bd .nil pass0 (pa_cons (pe_op op_add pe_int (pe_call cN.ok (hr.mono (by decide)) rfl cN.mg cN.kp cN.bd .nil pass0 (pa_cons (pv 0) (pa_cons pe_int pa_nil)))) (pa_cons (pe_op op_add pe_int (pe_call cN.ok (hr.mono (by decide)) rfl cN.mg cN.kp cN.bd .nil pass0 (pa_cons (pv 0) (pa_cons pe_int pa_nil)))) pa_nil))))) pss_nil) (pss_cons (ps_if (pt_cmpR op_eq (pv 1) pe_int (nomark _)) (pss_one (ps_ret (pe_tup (pa_cons (pe_op op_mul (pe_op op_pow pe_int pe_int) (pe_op op_add pe_int (pe_call cN.ok (hr.mono (by decide)) rfl cN.mg cN.kp cN.bd .nil pass0 (pa_cons (pv 0) (pa_cons pe_int pa_nil))))) (pa_cons pe_int pa_nil))))) pss_nil) (pss_one (ps_ret (pe_tup (pa_cons (pe_op op_add pe_int (pe_call cN.ok (hr.mono (by decide)) rfl cN.mg cN.kp cN.bd .nil pass0 (pa_cons (pv 0) (pa_cons pe_int pa_nil)))) (pa_cons pe_int pa_nil))))))))), ?_⟩
  refine ⟨_, rfl, p, 12, rfl, hp, by decide, by decide, fun v H1 hv hp1 k1 => ?_⟩
  refine ⟨_, rfl, rfl, _, rfl, ?_⟩
  refine ite2 (fun c => ?_) (fun c => ?_)
  · refine ⟨by show 2 ≤ sizeLine; decide, fun r hr' => ?_⟩
    exact q _ 0 1 _ ⟨by decide, by decide, by decide, by decide⟩ ⟨r, rfl, upd_same⟩ (sr hp1 hr') (k1.new hr' _)
  refine ⟨_, rfl, rfl, _, rfl, ?_⟩
  refine ite2 (fun c => ?_) (fun c => ?_)
  · refine ⟨_, rfl, p, 40, rfl, hp1, by decide, by decide, fun a H2 ha hp2 k2 => ?_⟩
    refine ⟨_, _, rfl, rfl, _, rfl, p, 9, rfl, hp2, by decide, by decide, fun b H3 hb hp3 k3 => ?_⟩
    refine ⟨_, _, rfl, rfl, 1 + a, 1 + b, rfl, by omega, by omega, by omega, fun r n d hr' hk => ?_⟩
    exact q _ n d _ hk ⟨r, rfl, upd_same⟩ (sr hp3 hr') (((k1.trans k2).trans k3).new hr' _)
  refine ⟨_, rfl, rfl, _, rfl, ?_⟩
  refine ite2 (fun c => ?_) (fun c => ?_)
  · refine ⟨_, _, rfl, rfl, ⟨by decide, by decide, by decide⟩, _, rfl, p, 9, rfl, hp1, by decide, by decide, fun b H3 hb hp3 k3 => ?_⟩
    refine ⟨_, _, rfl, rfl, _, _, rfl, rfl, .inl ⟨by decide, by decide⟩, by show 2 ≤ sizeLine; decide, fun r hr' => ?_⟩
    refine q _ (10 ^ 12 * (1 + b)) 1 _ ⟨by decide, Nat.gcd_one_right _, by omega, by decide⟩ ⟨r, rfl, ?_⟩ (sr hp3 hr') ((k1.trans k3).new hr' _)
    rw [upd_same]
    have : (10 : Int) ^ Int.toNat 12 * (1 + (b : Int)) = ((10 ^ 12 * (1 + b) : Nat) : Int) := by
      show (1000000000000 : Int) * (1 + (b : Int)) = ((1000000000000 * (1 + b) : Nat) : Int)
      omega
    exact congrArg (fun z => some (HO.tup [V.int z, V.int 1])) this
  · refine ⟨_, rfl, p, 20, rfl, hp1, by decide, by decide, fun b H3 hb hp3 k3 => ?_⟩
    refine ⟨_, _, rfl, rfl, by show 2 ≤ sizeLine; decide, fun r hr' => ?_⟩
    refine q _ (1 + b) 1 _ ⟨by decide, Nat.gcd_one_right _, by omega, by decide⟩ ⟨r, rfl, ?_⟩ (sr hp3 hr') ((k1.trans k3).new hr' _)
    rw [upd_same]
    have : (1 + (b : Int)) = ((1 + b : Nat) : Int) := by omega
    exact congrArg (fun z => some (HO.tup [V.int z, V.int 1])) this

end
end Bd
end

section
namespace Bd
open PySem L2 PySem.Spec PyProof.Rows
section
variable {prog : Program} {w : World} {K : Type} [DecidableEq K] {knd : KeyKind prog w K} {A : Around} {E : Value → Shared → Prop} {s : Shared}
theorem put_pairs {d : Addr} {kvs : List (K × Value)} {k : K} {key v : Value} {Q : Unit → Shared → Prop} (hkey : knd.is k key = true) (hm : s.heap.DictOf knd d kvs) (hsz : kvs.length ≤ sizeLine)
    (hQ : ∀ h', h'.DictOf knd d (stored kvs k v) → Heap.SameBut d s.heap h' → Q () { s with heap := h' }) :
    wpAny (model prog w) A (dictPut d (knd.hash k) key v) Q E s := by
  obtain ⟨o, es, ep, ho, hc, hd, hk, hp, hn⟩ := hm
  have hes : es.size ≤ sizeLine := by
    have e1 := hp.length
    have e2 : es.toList.length = es.size := by simp
    omega
  unfold dictPut
  refine wpAny_bind (wpAny_dictFind_of hkey ho hd hk ?_)
  have hidx : (es.findIdx? fun e => knd.is k e.key) = kvs.findIdx? fun kv => decide (kv.1 = k) := by
    rw [← hp.findIdx k]; obtain ⟨l⟩ := es
    simp
  cases hi : es.findIdx? fun e => knd.is k e.key with
  | some i =>
    have ha := any_of_findIdx_some (hidx ▸ hi)
    refine wpAny_updateDict ho hd ?_
    refine hQ _ ⟨_, _, ep, Heap.get?_update_self _ ho (Obj.isFreed_of_dict (Obj.data_mapDict hd _)), hc.mapDict _, Obj.data_mapDict hd _, hk.modify _ _, ?_, ?_⟩ (Heap.SameBut.update ..)
    · rw [stored, if_pos ha]
      have hl : (es.toList.findIdx? fun e => knd.is k e.key) = some i := by
        rw [← hi]; obtain ⟨l⟩ := es
        simp
      have := hp.modify hn hl v
      obtain ⟨l⟩ := es
      simpa using this
    · rw [stored, if_pos ha, keys_map_store]; exact hn
  | none =>
    have hnot : k ∉ kvs.map (·.1) := not_mem_of_findIdx_none (hidx ▸ hi)
    have hany : ¬ (kvs.any fun kv => decide (kv.1 = k)) = true := by
      rw [List.any_eq_true]
      rintro ⟨kv, hkv, he⟩
      exact hnot (List.mem_map.mpr ⟨kv, hkv, of_decide_eq_true he⟩)
    refine wpAny_updateDictKeys (hz := hes) ho hd ?_
    refine hQ _ ⟨_, _, ep + 1, Heap.get?_update_self _ ho (Obj.isFreed_of_dict (Obj.data_mapDictKeys hd _)), hc.mapDictKeys _, Obj.data_mapDictKeys hd _, hk.push hkey _, ?_, ?_⟩ (Heap.SameBut.update ..)
    · rw [stored, if_neg hany]
      have := hp.append hkey (knd.hash k) v
      obtain ⟨l⟩ := es
      simpa using this
    · rw [stored, if_neg hany, List.map_append, List.nodup_append]
      refine ⟨hn, by simp, ?_⟩
      intro a ha b hb
      simp only [List.map_cons, List.map_nil, List.mem_singleton] at hb
      subst hb
      exact fun e => hnot (e ▸ ha)
theorem merge_dict {d o : Addr} {kvs more : List (K × Value)} {Q : Unit → Shared → Prop} (hdo : d ≠ o) (hoS : (o == sysModules) = false)
    (hd : s.heap.DictOf knd d kvs) (ho : s.heap.DictOf knd o more) (hstr : ∀ e : DictEntry, (∃ k, knd.is k e.key = true) → ∀ a, e.key ≠ .ref a)
    (hsz : kvs.length + more.length ≤ sizeLine)
    (hQ : ∀ h', h'.DictOf knd d (merged kvs more) → Heap.SameBut d s.heap h' → Q () { s with heap := h' }) :
    wpAny (model prog w) A (mergeMapping d (.ref o) false) Q E s := by
  obtain ⟨od, esd, epd, hod, hcd, hdd, hkd, hpd, hnd⟩ := id hd
  obtain ⟨oo, eso, epo, hoo, hco, hdo', hko, hpo, hno⟩ := id ho
  have hlen : more.length = eso.size := by rw [← hpo.length]; simp
  unfold mergeMapping
  refine wpAny_bind (wpAny_isInstance ho.typeIs isSubtype_dict_dict ?_)
  rw [if_pos rfl]
  refine wpAny_bind (wpAny_specialOf ho.typeIs PySem.F.slot_dict_iter.lookup (wpAny_bind (wpAny_pure ?_)))
  simp only [beq_self_eq_true]
  rw [if_neg (by rw [hoS]; exact Bool.false_ne_true)]
  have loop : wpAny (model prog w) A (do
      let __do_lift ← dictEntries o
      have size : Nat := __do_lift.size
      let epoch ← dictEpoch o
      forIn (List.range size) PUnit.unit fun i __s => do
        let __do_lift ← dictEntries o
        match __do_lift[i]? with
          | some e => do
            holding [e.key, e.val]
              (have __do_jp := fun (_ : Unit) => dictPut d e.hash e.key e.val;
              if false = true then do
                let __do_lift ← dictFind d e.key e.hash
                if __do_lift.isSome = true then do
                  rule "dict.merge.duplicate-key"
                  let __do_lift ← newExc (Value.type "KeyError") [e.key]
                  let __r ← raiseNew __do_lift
                  __do_jp __r
                else __do_jp ()
              else __do_jp ())
            let __do_lift ← dictEpoch o
            if (__do_lift != epoch) = true then do
              (unsupported "dict.changed-during-merge" : Sem PUnit)
              pure (ForInStep.yield PUnit.unit)
            else pure (ForInStep.yield PUnit.unit)
          | x => do
            (unsupported "dict.changed-during-merge" : Sem PUnit)
            pure (ForInStep.yield PUnit.unit)
      pure ()) Q E s := by
    refine wpAny_bind (wpAny_dictEntries hoo hdo' ?_)
    refine wpAny_bind (wpAny_dictEpoch hoo hdo' ?_)
    refine wpAny_bind ?_
    have er : List.range eso.size = List.range' 0 eso.size := List.range_eq_range'
    rw [er]
    refine wpAny_forIn_list _
      (fun rest _ s' => ∃ g i, s' = { s with heap := g } ∧ rest = List.range' i (eso.size - i) ∧ i ≤ eso.size ∧ g.DictOf knd d (merged kvs (more.take i)) ∧ g.get? o = some oo ∧ Heap.SameBut d s.heap g)
      _ ?_ ?_ _ _ ⟨s.heap, 0, rfl, by simp, Nat.zero_le _, by simpa [merged] using hd, hoo, Heap.SameBut.refl _ _⟩
    · rintro x rest b s' ⟨g, i, rfl, hr, hi, gd, goo, gs⟩
      have hlt : i < eso.size := by
        rcases Nat.lt_or_ge i eso.size with z | z
        · exact z
        · rw [Nat.sub_eq_zero_of_le z] at hr
          simp at hr
      obtain ⟨rfl, hrest⟩ : x = i ∧ rest = List.range' (i + 1) (eso.size - (i + 1)) := by
        have z : eso.size - i = (eso.size - (i + 1)) + 1 := by omega
        rw [z, List.range'_succ] at hr
        injection hr with z1 z2
        exact ⟨z1, z2⟩
      refine wpAny_bind (wpAny_dictEntries goo hdo' ?_)
      rw [Array.getElem?_eq_getElem hlt]
      obtain ⟨kv, hkv⟩ : ∃ kv, more[x]? = some kv := ⟨more[x]'(by omega), List.getElem?_eq_getElem _⟩
      obtain ⟨k, v⟩ := kv
      obtain ⟨hkey, hval⟩ := hpo.get? (e := eso[x]) (by simp [hlt]) hkv
      obtain ⟨k1, hkey1, hhash⟩ := hko eso[x] (Array.getElem_mem hlt)
      obtain rfl : k1 = k := knd.inj _ _ _ hkey1 hkey
      show wpAny _ _ (holding [eso[x].key, eso[x].val] (dictPut d eso[x].hash eso[x].key eso[x].val) >>= _) _ _ _
      rw [hhash, hval]
      have hmx : (merged kvs (more.take x)).length ≤ sizeLine := by
        have z1 := merged_length_le kvs (more.take x)
        have z2 : (more.take x).length ≤ more.length := by
          rw [List.length_take]; omega
        omega
      refine wpAny_bind (wpAny_holding (put_pairs hkey gd hmx fun g2 gd2 gs2 => ?_))
      have goo2 : g2.get? o = some oo := (gs2.2 o (Ne.symm hdo)).trans goo
      refine wpAny_bind (wpAny_dictEpoch goo2 hdo' ?_)
      rw [if_neg (by simp)]
      exact wpAny_pure ⟨g2, x + 1, rfl, hrest, hlt, by rw [merged_take_succ kvs more x (k1, v) hkv]; exact gd2, goo2, gs.trans gs2⟩
    · rintro b s' ⟨g, i, rfl, hr, hi, gd, goo, gs⟩
      have hin : i = eso.size := by
        rcases Nat.lt_or_ge i eso.size with z | z
        · have z1 : eso.size - i = (eso.size - (i + 1)) + 1 := by omega
          rw [z1, List.range'_succ] at hr
          exact nomatch hr
        · exact Nat.le_antisymm hi z
      refine wpAny_pure (hQ g ?_ gs)
      rw [hin, ← hlen, List.take_length] at gd
      exact gd
  refine wpAny_bind (wpAny_dictEntries hod hdd ?_)
  split
  · refine wpAny_bind (wpAny_dictEntries hoo hdo' ?_)
    refine wpAny_bind ?_
    refine wpAny_forIn_array' _ (fun rest _ s' => s' = s ∧ ∀ e ∈ rest, e ∈ eso) _ ?_ ?_ _ _ ⟨rfl, fun e he => Array.mem_toList_iff.mp he⟩
    · rintro x rest b s' ⟨rfl, hm⟩
      obtain ⟨k1, hkey1, _⟩ := hko x (hm x List.mem_cons_self)
      have hx := hstr x ⟨k1, hkey1⟩
      have hrest : ∀ e ∈ rest, e ∈ eso := fun e he => hm e (List.mem_cons_of_mem _ he)
      split
      · rename_i a ea
        exact absurd ea (hx a)
      · exact wpAny_pure ⟨rfl, hrest⟩
    · rintro b s' ⟨rfl, _⟩
      exact loop
  · exact loop
def MergeAt (knd : KeyKind prog w K) (p : Addr) (Z : Shared → Prop) : Value → Shared → Prop := fun u s1 => ∃ (o : Addr) (acc more : List (K × Value)), u = .ref o ∧ p ≠ o ∧ (o == sysModules) = false ∧
  s1.heap.DictOf knd p acc ∧ s1.heap.DictOf knd o more ∧ acc.length + more.length ≤ sizeLine ∧ ∀ g, g.DictOf knd p (merged acc more) → Heap.SameBut p s1.heap g → Z { s1 with heap := g }
theorem display_two {v1 v2 : Sem Value} {Q : Value → Shared → Prop} (hstr : ∀ e : DictEntry, (∃ k, knd.is k e.key = true) → ∀ a, e.key ≠ .ref a)
    (h : wpAny (model prog w) A v1 (MergeAt knd s.heap.objs.size fun s1 => wpAny (model prog w) A v2 (MergeAt knd s.heap.objs.size fun s2 => Q (.ref s.heap.objs.size) s2) E s1) E { s with heap := s.heap.push { cls := .type "dict", data := .dict #[] } }) :
    wpAny (model prog w) A (dictDisplay [(none, v1), (none, v2)]) Q E s := by
  unfold dictDisplay
  simp only [List.forIn_cons, List.forIn_nil, List.isEmpty_nil, if_true, pure_bind, bind_assoc]
  refine wpAny_bind (wpAny_alloc ?_)
  refine wpAny_bind (wpAny_holding (wpAny_mono h (fun u s1 h1 => ?_) fun _ _ e => e))
  obtain ⟨o, acc, more, rfl, ne, lo, da, db, hz, q⟩ := h1
  refine wpAny_bind (wpAny_onRaise (wpAny_tryCatch (wpAny_onRaise (wpAny_holding (merge_dict ne lo da db hstr hz fun g dg sg => ?_)))))
  refine wpAny_bind (wpAny_holding (wpAny_mono (q g dg sg) (fun u2 s2 h2 => ?_) fun _ _ e => e))
  obtain ⟨o2, acc2, more2, rfl, ne2, lo2, da2, db2, hz2, q2⟩ := h2
  refine wpAny_bind (wpAny_onRaise (wpAny_tryCatch (wpAny_onRaise (wpAny_holding (merge_dict ne2 lo2 da2 db2 hstr hz2 fun g2 dg2 sg2 => ?_)))))
  exact wpAny_pure (q2 g2 dg2 sg2)
end
/-- {**a, **b}, both dicts with keys ints and texts, each evaluated while the new dict holds what is ahead -/
def tBoth (ta tb : TE) : TE := fun σ H Q => ∀ p, H p = none → ta σ (upd H p (.dK [])) fun x H1 => ∃ a ka, x = .ref a ∧ H1 p = some (.dK []) ∧ H1 a = some (.dK ka) ∧ p ≠ a ∧
  tb σ (upd H1 p (.dK (mergeK [] ka))) fun y H2 => ∃ b kb, y = .ref b ∧ H2 p = some (.dK (mergeK [] ka)) ∧ H2 b = some (.dK kb) ∧ p ≠ b ∧ ka.length + kb.length ≤ 1000 ∧ Q (.ref p) (upd H2 p (.dK (mergeK (mergeK [] ka) kb)))
theorem mix_noref {P : Program} {w : World} (e : DictEntry) (h : ∃ k, (mixKind P w).is k e.key = true) (a : Addr) : e.key ≠ .ref a := by
  obtain ⟨k, hk⟩ := h
  intro z
  rcases keyIs_shape (show keyIs k e.key = true from hk) with ⟨i, t, _, e1⟩ | ⟨i, t, _, e1⟩
  · rw [z] at e1; cases e1
  · rw [z] at e1; cases e1
theorem pe_both {X : Cx} {pos : Pos} {e1 e2 : Expr} {ta tb : TE} (ha : PE X e1 ta) (hb : PE X e2 tb) : PE X (.Dict [none, none] [e1, e2] pos) (tBoth ta tb) := by
  refine ⟨fun pins s σ H Q I q => ?_⟩
  have hn := I.hok.fresh (Nat.le_refl s.heap.objs.size)
  rw [arm_eval_Dict]
  refine wpAny_bind (wpAny_standAt ?_)
  show wpAny _ _ (dictDisplay [(none, do let x ← eval e1 X.env; standAt pos; pure x), (none, do let x ← eval e2 X.env; standAt pos; pure x)]) _ _ _
  refine display_two (knd := mixKind X.prog X.w) (fun e h => mix_noref e h) ?_
  have I1 := I.laid (a := s.heap.objs.size) (o := .dK []) (h' := s.heap.push { cls := .type "dict", data := .dict #[] }) (t' := s.toks) (fun _ _ q => Heap.get?_push_of_some _ q) (Nat.le_refl _) (dk_empty s.heap I.big)
  refine wpAny_bind (thn (ha.run pins _ σ _ _ I1 (q _ hn)) fun u s1 ⟨x, H1, I2, rx, a, ka, ex, hp, hka, ne, q1⟩ => ?_)
  subst ex
  obtain rfl : u = Value.ref a := rx
  refine wpAny_bind (wpAny_standAt (wpAny_pure ?_))
  obtain ⟨z1, lo1, vs1, r1, d1⟩ := dk_of I2.hok hka
  obtain ⟨z0, lo0, vs0, r0, d0⟩ := dk_of I2.hok hp
  cases r0
  have hz1 : (mergeK [] ka).length ≤ sizeLine := by
    have := length_mergeK ka []
    rw [List.length_nil] at this
    omega
  refine ⟨a, [], vs1, rfl, ne, lo1, d0, d1, by rw [List.length_nil, Nat.zero_add, ← r1.length]; exact z1, fun g dg sg => ?_⟩
  have he : ∃ q, g.get? s.heap.objs.size = some q := let ⟨q, _, _, hq, _⟩ := dg; ⟨q, hq⟩
  have I3 := d_write (t' := s1.toks) I2 (by rw [hp]; exact True.intro) sg he (dk_new (H' := upd H1 s.heap.objs.size (.dK (mergeK [] ka))) hz1 lo0 (r1.merge .nil) dg)
  refine wpAny_bind (thn (hb.run pins _ σ _ _ I3 q1) fun u2 s2 ⟨y, H2, I4, ry, b, kb, ey, hp2, hkb, ne2, hsz, q2⟩ => ?_)
  subst ey
  obtain rfl : u2 = Value.ref b := ry
  refine wpAny_bind (wpAny_standAt (wpAny_pure ?_))
  obtain ⟨z2, lo2, vs2, r2, d2⟩ := dk_of I4.hok hkb
  obtain ⟨z3, lo3, vs3, r3, d3⟩ := dk_of I4.hok hp2
  have hm : (mergeK [] ka).length ≤ ka.length := by
    have := length_mergeK ka []
    rw [List.length_nil] at this
    omega
  have hz2 : (mergeK (mergeK [] ka) kb).length ≤ sizeLine := by
    have := length_mergeK kb (mergeK [] ka)
    exact small (by omega)
  refine ⟨b, vs3, vs2, rfl, ne2, lo2, d3, d2, small (by rw [← r3.length, ← r2.length]; omega), fun g2 dg2 sg2 => ?_⟩
  have he2 : ∃ q, g2.get? s.heap.objs.size = some q := let ⟨q, _, _, hq, _⟩ := dg2; ⟨q, hq⟩
  exact ⟨.ref s.heap.objs.size, _, d_write (t' := s2.toks) I4 (by rw [hp2]; exact True.intro) sg2 he2 (dk_new (H' := upd H2 s.heap.objs.size (.dK (mergeK (mergeK [] ka) kb))) hz2 lo0 (r2.merge r3) dg2), rfl, q2⟩

/-- a tuple whose object is known to have no dict of its own -/
def FrT (H : Hp) (a : Addr) (xs : List V) : Prop := ∃ o : Obj, o.dict = none ∧ H a = some (.frz o (.tup xs))
theorem FrT.seq {K : PySem.W.Frag} {H : Hp} {a : Addr} {xs : List V} (h : FrT H a xs) : SqT K H a xs := by
  obtain ⟨o, _, e⟩ := h
  exact .inl (.inr ⟨o, e⟩)
section
variable {X : Cx}
theorem call_tupleF : CallR X (.type "tuple") (fun xs H Q => ∃ p ys, xs = [.ref p] ∧ SqL X.K H p ys ∧ ∀ l o, H l = none → o.dict = none → Q (.ref l) (upd H l (.frz o (.tup ys)))) := by
  intro pins s σ H xs us Q I r h
  obtain ⟨p, ys, rfl, hq, q⟩ := h
  obtain ⟨u, rfl, rx⟩ := vals1 r
  cases rx
  obtain ⟨its, r', pl, hz⟩ := I.list hq
  have hlen := r'.length
  refine call_tuple_list pl.isList (fun g kp => ?_) (by simp only [List.size_toArray] <;> omega)
  have I1 : Inv X pins σ H { s with heap := g } := I.kept (t' := s.toks) kp
  have I2 : Inv X pins σ (upd H g.objs.size (.frz { cls := .type "tuple", data := .seq its.toArray } (.tup ys))) { s with heap := g.push { cls := .type "tuple", data := .seq its.toArray } } :=
    I1.laid (t' := s.toks) (fun b o e => Heap.get?_push_of_some _ e) (Nat.le_refl _) (show ObjOk X.prog X.w _ _ _ (.frz _ (.tup ys)) from ⟨Heap.get?_push_size _ rfl, hz, its, r', IsTup.new _ _⟩)
  exact ⟨.ref g.objs.size, _, I2, rfl, q _ _ (I1.hok.fresh (Nat.le_refl _)) rfl⟩
theorem pairs_vv {pins : List (Addr × Obj)} {σ : L2.St} {H : Hp} {s : Shared} (I : Inv X pins σ H s) : ∀ {ps : List Addr} {kvs : List (Key × V)}, Paired (fun p kv => SqT X.K H p [kV kv.1, kv.2]) ps kvs →
    ∃ (pr : List (Value × Value)) (prs : List (Key × Value)), KV kvs prs ∧ pr.length = ps.length ∧ prs.length = ps.length ∧ ∀ (j : Nat) (k v : Value), pr[j]? = some (k, v) → ∃ (b : Addr) (key : Key), ps[j]? = some b ∧ IsTup s.heap b #[k, v] ∧ prs[j]? = some (key, v) ∧ keyIs key k = true
  | _, _, .nil => ⟨[], [], .nil, rfl, rfl, fun j k v e => by simp at e⟩
  | _, _, .cons (a := p) (b := kv) h t => by
    obtain ⟨pr, prs, r, hl, hl2, hp⟩ := pairs_vv I t
    obtain ⟨its, rv, ht, _⟩ := I.tuple h
    obtain ⟨u, y, rfl, ru, ry⟩ := vals2 rv
    refine ⟨(u, y) :: pr, (kv.1, y) :: prs, .cons ⟨rfl, ry⟩ r, by rw [List.length_cons, List.length_cons, hl], by rw [List.length_cons, List.length_cons, hl2], fun j k v e => ?_⟩
    cases j with
    | zero =>
      have z : (u, y) = (k, v) := Option.some.inj e
      cases z
      exact ⟨p, kv.1, rfl, ht, rfl, kV_is (P := X.prog) (w := X.w) ru⟩
    | succ j =>
      obtain ⟨b, key, z1, z2, z3, z4⟩ := hp j k v (by simpa using e)
      exact ⟨b, key, by simpa using z1, z2, by simpa using z3, z4⟩
theorem call_dictT (hcalm : X.calm = true) : CallR X (.type "dict") (fun xs H Q => ∃ (a : Addr) (ps : List Addr) (kvs : List (Key × V)), xs = [.ref a] ∧ FrT H a (ps.map V.ref) ∧ Paired (fun p kv => SqT X.K H p [kV kv.1, kv.2]) ps kvs ∧
    ∀ p, H p = none → Q (.ref p) (upd H p (.dK (mergeK [] kvs)))) := by
  intro pins s σ H xs us Q I r q
  obtain ⟨a, ps, kvs, rfl, ⟨o, ho, hq⟩, hp, q⟩ := q
  obtain ⟨u, rfl, rx⟩ := vals1 r
  cases rx
  obtain ⟨og, hz, its, rv, ot, hot, hc, n, hd⟩ := I.hok a _ hq
  rw [og] at hot
  cases hot
  have ei := refs_at rv
  subst ei
  obtain ⟨pr, prs, rel, hl, hl2, hpr⟩ := pairs_vv I hp
  rw [List.length_map] at hz
  have hitem : PairItems s.heap (ps.map Value.ref).toArray (fun j => ps.getD j 0) pr := by
    refine ⟨by simp [hl], fun j k v e => ?_⟩
    obtain ⟨b, key, z1, z2, z3, z4⟩ := hpr j k v e
    have zb : ps.getD j 0 = b := by
      rw [List.getD_eq_getElem?_getD, z1]
      rfl
    refine ⟨?_, .inl ?_⟩
    · show (List.map Value.ref ps).toArray[j]? = some (Value.ref (ps.getD j 0))
      rw [zb]
      simp [z1]
    · show s.heap.IsTuple (ps.getD j 0) #[k, v]
      rw [zb]
      obtain ⟨ob, y1, y2, y3, y4⟩ := z2
      exact ⟨ob, y1, y2, y3, y4⟩
  refine PySem.call_dict_pairs (knd := mixKind X.prog X.w) (kvs := prs) (PairArg.tuple a (ps.map Value.ref).toArray (fun j => ps.getD j 0) pr) (I.ok.hd hcalm) ⟨⟨o, n, og, hc, ho, hd⟩, hitem⟩ ⟨by rw [hl2, hl], fun i key v e => ?_⟩ (by rw [hl]; exact hz) fun h' tk hd' k => ?_
  · obtain ⟨b, k2, z1, z2, z3, z4⟩ := hpr i key v e
    exact ⟨k2, z3, z4⟩
  · have hm : (s.heap.objs.size == sysModules) = false := beq_eq_false_iff_ne.mpr (Nat.ne_of_gt I.big)
    have hlen : (mergeK [] kvs).length ≤ sizeLine := by
      refine Nat.le_trans (length_mergeK kvs []) ?_
      rw [List.length_nil, Nat.zero_add, rel.length, hl2]
      exact hz
    exact ⟨.ref s.heap.objs.size, upd H s.heap.objs.size (.dK (mergeK [] kvs)), I.laid (t' := tk) (fun b u z => k b u (fun y => nomatch y) z) (Nat.le_refl _) (show ObjOk X.prog X.w _ _ _ (.dK (mergeK [] kvs)) from ⟨hlen, hm, merged [] prs, KV.merge rel .nil, hd'⟩), rfl, q _ (I.hok.fresh (Nat.le_refl _))⟩
/-- a dict of the module's top, as it stands in the written part -/
structure KTab (P : Program) (w : World) (K : PySem.W.Frag) (a : Addr) (kvs : List (Key × V)) : Prop where
  lo : (a == sysModules) = false
  dd : ∃ vs, KV kvs vs ∧ ∀ h : Heap, K.In h → h.DictOf (mixKind P w) a vs
  sz : kvs.length ≤ 1000
theorem call_dictK : CallR X (.type "dict") (fun xs H Q => ∃ (a : Addr) (kvs : List (Key × V)), xs = [.ref a] ∧ KTab X.prog X.w X.K a kvs ∧ ∀ p, H p = none → Q (.ref p) (upd H p (.dK kvs))) := by
  intro pins s σ H xs us Q I r q
  obtain ⟨a, kvs, rfl, ⟨lo, ⟨vs, rel, dd⟩, z⟩, q⟩ := q
  obtain ⟨u, rfl, rx⟩ := vals1 r
  cases rx
  refine kt_call_dict lo (dd _ I.kIn) (by rw [← rel.length]; exact small z) fun h' d' hs => ?_
  have hm : (s.heap.objs.size == sysModules) = false := beq_eq_false_iff_ne.mpr (Nat.ne_of_gt I.big)
  exact ⟨.ref s.heap.objs.size, upd H s.heap.objs.size (.dK kvs), I.laid (t' := s.toks) (fun b u e => (hs.2 b (Nat.ne_of_lt (Heap.lt_size e))).trans (Heap.get?_push_of_some _ e)) (Nat.le_refl _)
    (show ObjOk X.prog X.w _ _ _ (.dK kvs) from ⟨small z, hm, vs, rel, d'⟩), rfl, q _ (I.hok.fresh (Nat.le_refl _))⟩
theorem op_inT : OpR X (compareOp .In) (fun x y H Q => ∃ (a : Addr) (kvs : List (Key × V)) (k : Key), x = kV k ∧ y = .ref a ∧ KTab X.prog X.w X.K a kvs ∧ Q (.bl (valV kvs k).isSome) H) := by
  intro pins s σ H x y v u Q I rx ry h
  obtain ⟨a, kvs, k, rfl, rfl, ⟨lo, ⟨vs, rel, dd⟩, z⟩, q⟩ := h
  cases ry
  refine wpAny_in_of (kV_is (P := X.prog) (w := X.w) rx) lo (dd _ I.kIn).mapOf ?_
  rw [← (rel.val k).isSome_eq]
  exact ⟨.bl (valV kvs k).isSome, H, I.tok _, rfl, q⟩
end
end Bd
end

section
namespace Bd
open PySem L2 PySem.Spec PyProof.Rows
/-- the answer of looking up each pair of one dict in another, by the answers at the values -/
inductive HitsV (F : V → V → Bool → Prop) (ls : List (Key × V)) : List (Key × V) → Bool → Prop
  | nil : HitsV F ls [] true
  | miss {k : Key} {v : V} {r : List (Key × V)} : valV ls k = none → HitsV F ls ((k, v) :: r) false
  | hit {k : Key} {v y : V} {r : List (Key × V)} {e b : Bool} : valV ls k = some y → F v y e → HitsV F ls r b → HitsV F ls ((k, v) :: r) (e && b)
/-- x == y is r: data, or dicts of such, n deep -/
def EqF (K : PySem.W.Frag) (H : Hp) : Nat → V → V → Bool → Prop
  | 0 => fun x y r => ∃ d e, Dp K H x d ∧ Dp K H y e ∧ SeqAt.shaped d = true ∧ SeqAt.shaped e = true ∧ r = PyData.eqv d e
  | n + 1 => fun x y r => ∃ (a b : Addr), x = .ref a ∧ y = .ref b ∧ ((a = b ∧ r = true) ∨ (a ≠ b ∧ ∃ ks ls q, H a = some (.dK ks) ∧ H b = some (.dK ls) ∧ (ks.length = ls.length → HitsV (EqF K H n) ls ks q) ∧ r = (ks.length == ls.length && q)))
theorem hits_runV {P : Program} {w : World} {A : Around} {s : Shared} {F : V → V → Bool → Prop} (ih : ∀ x y v u r, F x y r → RelV x v → RelV y u → SeqAt.EqP P w A s v u r) {ls : List (Key × V)} {vb : List (Key × Value)} (rb : KV ls vb) {ks : List (Key × V)} {b : Bool} (h : HitsV F ls ks b) :
    ∀ {va : List (Key × Value)}, KV ks va → PySem.W.KeqHitsP P w A s vb va b := by
  induction h with
  | nil =>
    intro va ra
    cases ra
    exact .nil
  | @miss k v r hn =>
    intro va ra
    cases ra with
    | cons h1 t =>
      rename_i q qs
      obtain ⟨h1, h2⟩ := h1
      obtain ⟨k2, v2⟩ := q
      have h1 : k = k2 := h1
      subst h1
      have rr := rb.val k
      rw [hn] at rr
      refine .miss ?_
      cases z : valueAt vb k with
      | none => rfl
      | some y =>
        rw [z] at rr
        exact (show False from rr).elim
  | @hit k v y r e b hy hf hr k3 =>
    intro va ra
    cases ra with
    | cons h1 t =>
      rename_i q qs
      obtain ⟨h1, h2⟩ := h1
      obtain ⟨k2, v2⟩ := q
      have h1 : k = k2 := h1
      subst h1
      have rr := rb.val k
      rw [hy] at rr
      obtain ⟨z, hz, rz⟩ := rr.some_of
      exact .hit hz (ih _ _ _ _ _ hf h2 rz) (k3 t)
section
variable {X : Cx} {pins : List (Addr × Obj)} {σ : L2.St} {H : Hp} {s : Shared}
theorem eqF_run (I : Inv X pins σ H s) : ∀ (n : Nat) (A : Around), A.units + n + 65 < cLine → ∀ (x y : V) (v u : Value) (r : Bool), EqF X.K H n x y r → RelV x v → RelV y u → SeqAt.EqP X.prog X.w A s v u r
  | 0, A, hu, x, y, v, u, r, h, rx, ry => by
    obtain ⟨d, e, hd, he, sd, se, rfl⟩ := h
    obtain ⟨as, r1⟩ := Dp.reads I d x v hd rx
    obtain ⟨bs, r2⟩ := Dp.reads I e y u he ry
    exact (SeqAt.eqAt_reads d e A s v u as bs r1 r2 (SeqAt.canLay_of_shaped sd) (SeqAt.canLay_of_shaped se) (SeqAt.room_of_shaped sd (by omega))).eqP
  | n + 1, A, hu, x, y, v, u, r, h, rx, ry => by
    obtain ⟨a, b, rfl, rfl, h⟩ := h
    cases (show v = Value.ref a from rx)
    cases (show u = Value.ref b from ry)
    rcases h with ⟨rfl, rfl⟩ | ⟨hab, ks, ls, q, ha, hb, hits, rfl⟩
    · exact (SeqAt.EqAt.same _).eqP
    · refine SeqAt.eqP_refs hab fun E Q hq => ?_
      obtain ⟨_, ya, va, ra, da⟩ := (show ObjOk X.prog X.w H s.heap a (.dK ks) from I.hok a _ ha)
      obtain ⟨_, yb, vb, rb, db⟩ := (show ObjOk X.prog X.w H s.heap b (.dK ls) from I.hok b _ hb)
      refine PySem.W.rcP_dicts (knd := mixKind X.prog X.w) (r := q) ya yb da db (by omega) (fun hl => hits_runV (eqF_run I n A.in1 (by show A.units + 1 + n + 65 < cLine; omega)) rb (hits (by rw [ra.length, rb.length]; exact hl)) ra) E Q ?_
      rw [← ra.length, ← rb.length]
      exact hq
end
section
variable {X : Cx}
theorem op_eqF (hu : X.A.units + 100 < cLine) : OpR X (compareOp .Eq) (fun x y H Q => ∃ (a b : Addr) (ks ls : List (Key × V)) (q : Bool) (n : Nat), n ≤ 10 ∧ x = .ref a ∧ y = .ref b ∧ H a = some (.dK ks) ∧ H b = some (.dK ls) ∧ (ks.length = ls.length → HitsV (EqF X.K H n) ls ks q) ∧ Q (.bl (ks.length == ls.length && q)) H) := by
  intro pins s σ H x y v u Q I rx ry h
  obtain ⟨a, b, ks, ls, q, n, hn, rfl, rfl, ha, hb, hits, hq⟩ := h
  cases (show v = Value.ref a from rx)
  cases (show u = Value.ref b from ry)
  obtain ⟨_, ya, va, ra, da⟩ := (show ObjOk X.prog X.w H s.heap a (.dK ks) from I.hok a _ ha)
  obtain ⟨_, yb, vb, rb, db⟩ := (show ObjOk X.prog X.w H s.heap b (.dK ls) from I.hok b _ hb)
  refine PySem.W.rcP_dicts (knd := mixKind X.prog X.w) (r := q) ya yb da db (by omega) (fun hl => hits_runV (eqF_run I n X.A.in1 (by show X.A.units + 1 + n + 65 < cLine; omega)) rb (hits (by rw [ra.length, rb.length]; exact hl)) ra) _ _ ?_
  rw [← ra.length, ← rb.length]
  exact ⟨.bl _, H, I, rfl, hq⟩
end
end Bd
end

section
namespace Bd
open PySem L2 PySem.Spec PyProof.Rows
section
variable {prog : Program} {w : World} {A : Around} {E : Value → Shared → Prop} {s : Shared} {K : PySem.W.Frag} {x C f : Addr} {ox : Obj} {od : Option Obj} {b tb : Value}
theorem ne_bound {M : Model} {Q : Option Value → Shared → Prop} (X : K.In s.heap) (I : PySem.W.InstAt s.heap x ox C od) (hne : PySem.W.findIn K (.ref C) "__ne__" = some (some (.builtin "object.__ne__")))
    (h : wpAny M A (call (.builtin "object.__ne__") [.ref x, b]) (fun v => Q (some v)) E s) : wpAny M A (callSpecialIfBound? (.ref x) "__ne__" [b]) Q E s := by
  simp only [callSpecialIfBound?, bindSpecialIfBound?]
  refine wpAny_holding (wpAny_bind (wpAny_bind (wpAny_bind (I.type.here ((PySem.W.looks_findIn X hne).here ?_)))))
  simp only [PySem.F.cmp_object.ne.bind]
  refine wpAny_bind (wpAny_askSetting (wpAny_ite ?_))
  have fin : wpAny M A (call (.builtin "object.__ne__") ([.ref x] ++ [b]) >>= fun v => pure (some v)) Q E s := wpAny_bind (wpAny_mono h (fun v s' h' => wpAny_pure h') fun _ _ h' => h')
  split
  · exact wpAny_bind (wpAny_pure (wpAny_pure fin))
  · exact wpAny_tryCatch (wpAny_bind (wpAny_pure (wpAny_pure fin)))
theorem ne_check {M : Model} {Q : Unit → Shared → Prop} (X : K.In s.heap) (I : PySem.W.InstAt s.heap x ox C od) (hob : PySem.W.subIn K (.ref C) (.type "object") = some true) (q : Q () s) :
    wpAny M A (checkBuiltinCall "object.__ne__" ⟨[.ref x, b], []⟩) Q E s := by
  simp only [checkBuiltinCall, PySem.F.cmpKind_ne, PySem.F.cmpSplit_ne]
  refine wpAny_bind ?_
  unfold isInstance
  refine wpAny_bind (I.type.here ((PySem.W.looks_subIn X hob).here ?_))
  have ha : argsOk "object.__ne__" ⟨[.ref x, b], []⟩ := PySem.F.cmpArgs_ne _ _
  rw [if_neg (by decide)]
  cases hsig : Manifest.signature? "object.__ne__" with
  | none => exact wpAny_pure q
  | some sig =>
    simp only [argsOk, hsig] at ha
    have h2 : Bind.checkArgs "object.__ne__" sig ⟨[.ref x, b], []⟩ = pure () := ha
    show wpAny M A (Bind.checkArgs "object.__ne__" sig ⟨[.ref x, b], []⟩) Q E _
    rw [h2]
    exact wpAny_pure q
theorem ne_run {Q : Fin → Shared → Prop} (hu : A.units < cLine) (X : K.In s.heap) (I : PySem.W.InstAt s.heap x ox C od) (hs : PySem.W.findIn K (.ref C) "__eq__" = some (some (.ref f))) (hf : PySem.W.isFn K (.ref f) = true)
    (h : wpAny (model prog w) A (call (.ref f) [.ref x, b]) (fun v s' => ∃ r, v = .bool r ∧ Q (.done (.ret (.bool (!r)))) s') E s) :
    wpAny (model prog w) A (Builtin.«object.__ne__» ⟨[.ref x, b], []⟩) Q E s := by
  obtain ⟨hp, g, d, t, os⟩ := s
  unfold Builtin.«object.__ne__»
  repeat (first
    | with_reducible refine wpAny_cRoomFor hu ?_
    | (refine wpAny_bind (m := callSpecialIfBound? (.ref x) (Str.ofString "__eq__") [b])
        (PySem.W.ifBound_K X I hs hf (wpAny_mono h (fun v s' hr => by
          obtain ⟨r, rfl, hq⟩ := hr
          repeat (first | exact hq | exact wpAny_pure hq | exact wpAny_truthy_bool hq | (refine wpAny_bind (m := truthy (.bool _)) (wpAny_truthy_bool ?_)) | wp_step)) fun _ _ e => e)))
    | wp_step)
theorem ne_K {Q : Value → Shared → Prop} (hu : A.units + 1 < cLine) (X : K.In s.heap) (I : PySem.W.InstAt s.heap x ox C od) (hb : PySem.W.Looks (model prog w) s.heap (typeOf b) tb) (hn : PySem.W.notFirst K C tb = true)
    (hne : PySem.W.findIn K (.ref C) "__ne__" = some (some (.builtin "object.__ne__"))) (hob : PySem.W.subIn K (.ref C) (.type "object") = some true)
    (hs : PySem.W.findIn K (.ref C) "__eq__" = some (some (.ref f))) (hf : PySem.W.isFn K (.ref f) = true)
    (h : wpAny (model prog w) A.in1 (call (.ref f) [.ref x, b]) (fun v s' => ∃ r, v = .bool r ∧ Q (.bool (!r)) s') E s) : wpAny (model prog w) A (richCompare .NotEq (.ref x) b) Q E s := by
  have one : wpAny (model prog w) A (tryCompare (.ref x) "__ne__" b) (fun r s' => ∃ v, r = some v ∧ Q v s') E s := by
    simp only [tryCompare]
    refine wpAny_bind (ne_bound X I hne (wpAny_call (codeAny_call_builtin PySem.F.cmp_object.ne.plain PySem.F.cmpEntry_ne (ne_check X I hob (ne_run (A := A.in1) (by show A.units + 1 < cLine; exact hu) X I hs hf (wpAny_mono h (fun v s' hv => ?_) fun _ _ e => e))))))
    obtain ⟨r, rfl, hq⟩ := hv
    first | exact ⟨r, rfl, wpAny_pure ⟨_, rfl, hq⟩⟩ | exact ⟨r, rfl, wpAny_pure (wpAny_pure ⟨_, rfl, hq⟩)⟩ | exact ⟨r, rfl, _, rfl, hq⟩
  unfold richCompare
  simp only [oneThing_ref]
  refine wpAny_holding (wpAny_bind (wpAny_cRoomFor (Nat.lt_of_succ_lt hu) ?_))
  rw [cmpInfo_NotEq]
  dsimp only
  refine wpAny_bind (I.type.here (wpAny_bind (hb.here ?_)))
  split
  · rename_i q
    have e : PySem.W.subIn K tb (.ref C) = some false := by
      rcases Bool.or_eq_true_iff.mp hn with e | e
      · rw [beq_iff_eq.mp e] at q
        simp at q
      · exact beq_iff_eq.mp e
    refine wpAny_bind ((PySem.W.looks_subIn X e).here ?_)
    simp only [Bool.false_eq_true, if_false]
    refine wpAny_bind (wpAny_mono one (fun r s' z => ?_) fun _ _ e => e)
    obtain ⟨v, rfl, hq⟩ := z
    exact wpAny_pure hq
  · refine wpAny_bind (wpAny_pure ?_)
    simp only [Bool.false_eq_true, if_false]
    refine wpAny_bind (wpAny_mono one (fun r s' z => ?_) fun _ _ e => e)
    obtain ⟨v, rfl, hq⟩ := z
    exact wpAny_pure hq
end
end Bd
end

section
namespace Bd
open PySem L2 PySem.Spec PyProof.Rows
section
variable {prog : Program} {w : World} {A : Around} {E : Value → Shared → Prop} {s : Shared} {K : PySem.W.Frag} {x C dx f : Addr} {ox : Obj} {od : Option Obj} {b tb : Value}
theorem dec_none : wpAny (model prog w) A (call (.builtin "NoneType.__eq__") [.none, .ref x]) (fun v s1 => v = .notImplemented ∧ s1 = s) E s := by
  refine wpAny_call_entry PySem.F.slot_NoneType_eq rfl PySem.F.entry_NoneType_eq ?_ (PySem.F.args_NoneType_eq_2 _ _)
  obtain ⟨hp, g, d, tk, os⟩ := s
  wp_walk
  exact ⟨_, rfl, rfl, rfl⟩
theorem dec_int {i : Int} {t : Tok} (hx : s.heap.get? x = some (PySem.W.instObj C dx)) : wpAny (model prog w) A (call (.builtin "int.__eq__") [.int i t, .ref x]) (fun v s1 => v = .notImplemented ∧ s1 = s) E s := by
  refine wpAny_call_entry PySem.F.slot_int_eq (typeIs_int s i t) PySem.F.entry_int_eq ?_ (PySem.F.args_int_eq_2 _ _)
  obtain ⟨hp, g, d, tk, os⟩ := s
  wp_walk using AutoSeq1.wpAny_loadPart' hx
  exact ⟨_, rfl, rfl, rfl⟩
theorem dec_str {i : Str} {t : Tok} (hx : s.heap.get? x = some (PySem.W.instObj C dx)) : wpAny (model prog w) A (call (.builtin "str.__eq__") [.str i t, .ref x]) (fun v s1 => v = .notImplemented ∧ s1 = s) E s := by
  refine wpAny_call_entry PySem.F.slot_str_eq (typeIs_str s i t) PySem.F.entry_str_eq ?_ (PySem.F.args_str_eq_2 _ _)
  obtain ⟨hp, g, d, tk, os⟩ := s
  wp_walk using AutoSeq1.wpAny_loadPart' hx
  exact ⟨_, rfl, rfl, rfl⟩
theorem not_inst {M : Model} {T : String} {Q : Bool → Shared → Prop} (X : K.In s.heap) (I : PySem.W.InstAt s.heap x ox C od) (hsub : PySem.W.subIn K (.ref C) (.type T) = some false) (q : Q false s) : wpAny M A (isInstance (.ref x) (.type T)) Q E s := by
  unfold isInstance
  exact wpAny_bind (I.type.here ((PySem.W.looks_subIn X hsub).here q))
theorem dec_list {l : Addr} (hl : s.TypeIs (.ref l) "list") (X : K.In s.heap) (I : PySem.W.InstAt s.heap x ox C od) (hsub : PySem.W.subIn K (.ref C) (.type "list") = some false) :
    wpAny (model prog w) A (call (.builtin "list.__eq__") [.ref l, .ref x]) (fun v s1 => v = .notImplemented ∧ s1 = s) E s := by
  refine wpAny_call_entry PySem.F.slot_list_eq hl PySem.F.entry_list_eq ?_ (PySem.F.args_list_eq_2 _ _)
  obtain ⟨hp, g, d, tk, os⟩ := s
  unfold Builtin.«list.__eq__»
  repeat (first
    | (refine wpAny_bind (m := isInstance (.ref x) (.type "list")) (not_inst X I hsub ?_))
    | wp_step)
  exact ⟨_, rfl, rfl, rfl⟩
theorem dec_tup {l : Addr} (hl : s.TypeIs (.ref l) "tuple") (X : K.In s.heap) (I : PySem.W.InstAt s.heap x ox C od) (hsub : PySem.W.subIn K (.ref C) (.type "tuple") = some false) :
    wpAny (model prog w) A (call (.builtin "tuple.__eq__") [.ref l, .ref x]) (fun v s1 => v = .notImplemented ∧ s1 = s) E s := by
  refine wpAny_call_entry PySem.F.slot_tuple_eq hl PySem.F.entry_tuple_eq ?_ (PySem.F.args_tuple_eq_2 _ _)
  obtain ⟨hp, g, d, tk, os⟩ := s
  unfold Builtin.«tuple.__eq__»
  repeat (first
    | (refine wpAny_bind (m := isInstance (.ref x) (.type "tuple")) (not_inst X I hsub ?_))
    | wp_step)
  exact ⟨_, rfl, rfl, rfl⟩
theorem eq_right {v : Value} {T id : String} {Q : Value → Shared → Prop} (hu : A.units < cLine) (X : K.In s.heap) (I : PySem.W.InstAt s.heap x ox C od) (hv : s.TypeIs v T) (h1 : Slot T (cmpInfo .Eq).2.1 id) (hone : oneThing? .Eq v (.ref x) = none)
    (hsub : PySem.W.subIn K (.ref C) (.type T) = some false) (hdec : wpAny (model prog w) A (call (.builtin id) [v, .ref x]) (fun r s1 => r = .notImplemented ∧ s1 = s) E s)
    (hs : PySem.W.findIn K (.ref C) "__eq__" = some (some (.ref f))) (hf : PySem.W.isFn K (.ref f) = true)
    (h : wpAny (model prog w) A (call (.ref f) [.ref x, v]) (PySem.W.CmpBack Q) E s) : wpAny (model prog w) A (richCompare .Eq v (.ref x)) Q E s := by
  have two : wpAny (model prog w) A (tryCompare (.ref x) "__eq__" v) (fun r s' => ∃ z, r = some z ∧ Q z s') E s := by
    unfold tryCompare
    refine wpAny_bind (PySem.W.ifBound_K X I hs hf (wpAny_mono h (fun z s' hz => ?_) fun _ _ e => e))
    cases z <;> first | exact hz.elim | exact wpAny_pure ⟨_, rfl, hz⟩
  unfold richCompare
  rw [hone]
  refine wpAny_holding (wpAny_bind (wpAny_cRoomFor hu ?_))
  have hi : cmpInfo CmpOp.Eq = (("==" : String), ("__eq__" : Str), ("__eq__" : Str)) := rfl
  rw [hi] at h1 ⊢
  dsimp only at h1 ⊢
  refine wpAny_bind (wpAny_typeOf hv (wpAny_bind (I.type.here ?_)))
  rw [show (Value.type T != Value.ref C) = true from rfl]
  rw [if_pos rfl]
  refine wpAny_bind ((PySem.W.looks_subIn X hsub).here ?_)
  simp only [Bool.false_eq_true, if_false, Bool.not_false, if_true]
  refine wpAny_bind (m := tryCompare v _ (.ref x)) (wpAny_tryCompare_declines hv h1 (wpAny_mono hdec (fun r s1 hr => ⟨hr.1, ?_⟩) fun _ _ e => e))
  obtain ⟨rfl, rfl⟩ := hr
  refine wpAny_bind (wpAny_mono two (fun r s' z => ?_) fun _ _ e => e)
  obtain ⟨z, rfl, hq⟩ := z
  exact wpAny_pure hq
end
/-- what of the class the comparisons ask -/
structure OwnCmp (K : PySem.W.Frag) (C f : Addr) : Prop where
  eq : PySem.W.findIn K (.ref C) "__eq__" = some (some (.ref f))
  fn : PySem.W.isFn K (.ref f) = true
  ne : PySem.W.findIn K (.ref C) "__ne__" = some (some (.builtin "object.__ne__"))
  ob : PySem.W.subIn K (.ref C) (.type "object") = some true
  li : PySem.W.subIn K (.ref C) (.type "list") = some false
  tu : PySem.W.subIn K (.ref C) (.type "tuple") = some false
  st : PySem.W.subIn K (.ref C) (.type "str") = some false
  it : PySem.W.subIn K (.ref C) (.type "int") = some false
  nt : PySem.W.subIn K (.ref C) (.type "NoneType") = some false
  li' : PySem.W.subIn K (.type "list") (.ref C) = some false
  tu' : PySem.W.subIn K (.type "tuple") (.ref C) = some false
  st' : PySem.W.subIn K (.type "str") (.ref C) = some false
  it' : PySem.W.subIn K (.type "int") (.ref C) = some false
  nt' : PySem.W.subIn K (.type "NoneType") (.ref C) = some false
/-- things an instance is compared with -/
inductive YTy (K : PySem.W.Frag) (H : Hp) (C : Addr) : V → Prop
  | non : YTy K H C .non
  | int (i : Int) : YTy K H C (.int i)
  | str (i : Str) : YTy K H C (.str i)
  | lst {a : Addr} {xs : List V} : SqL K H a xs → YTy K H C (.ref a)
  | tup {a : Addr} {xs : List V} : SqT K H a xs → YTy K H C (.ref a)
  | ins {a dx : Addr} {fs : List (Str × V)} : H a = some (.ins C dx fs) → YTy K H C (.ref a)
section
variable {X : Cx} {pins : List (Addr × Obj)} {σ : L2.St} {H : Hp} {s : Shared} {C f : Addr}
theorem looks_ty {M : Model} {h : Heap} {a : Addr} {T : String} {o : Obj} (ho : h.get? a = some o) (hc : o.cls = .type T) : PySem.W.Looks M h (typeOf (.ref a)) (.type T) := fun _ _ _ s k q => wpAny_typeOf (s := s) ⟨o, k _ _ ho, hc⟩ q
theorem yty_look (O : OwnCmp X.K C f) (I : Inv X pins σ H s) {y : V} {u : Value} (t : YTy X.K H C y) (r : RelV y u) : ∃ tb, PySem.W.Looks (model X.prog X.w) s.heap (typeOf u) tb ∧ PySem.W.notFirst X.K C tb = true := by
  have nf : ∀ {tb : Value}, PySem.W.subIn X.K tb (.ref C) = some false → PySem.W.notFirst X.K C tb = true := fun {tb} e => by
    unfold PySem.W.notFirst
    rw [e]
    simp
  cases t with
  | non =>
    cases r
    exact ⟨.type "NoneType", .of_pure rfl, nf O.nt'⟩
  | int i =>
    obtain ⟨t, rfl⟩ := r
    exact ⟨.type "int", .of_pure rfl, nf O.it'⟩
  | str i =>
    obtain ⟨t, rfl⟩ := r
    exact ⟨.type "str", .of_pure rfl, nf O.st'⟩
  | lst h =>
    cases r
    obtain ⟨its, _, ⟨o, n, ho, hc, _⟩, _⟩ := I.list h
    exact ⟨.type "list", looks_ty ho hc, nf O.li'⟩
  | tup h =>
    cases r
    obtain ⟨its, _, ⟨o, ho, hc, _⟩, _⟩ := I.tuple h
    exact ⟨.type "tuple", looks_ty ho hc, nf O.tu'⟩
  | ins h =>
    cases r
    obtain ⟨mA, J, _⟩ := ins_get I.hok h
    obtain ⟨od, J, _⟩ := J.look
    exact ⟨.ref C, J.type, by simp [PySem.W.notFirst]⟩
/-- tree == y -/
theorem op_eqL {CX : CXT} {n : Nat} {fd : FuncData} {ps : List Str} {sp : Sp} {E : XK} (O : OwnCmp X.K C f) (F : FnOk X.prog X.w X.K X.mg X.base CX n f fd ps sp) (hb : Binds X.K fd ps []) (hr : Room n X.A) (hx : Passes CX X E) :
    OpR X (compareOp .Eq) (fun x y H Q => ∃ a dx fs, x = .ref a ∧ H a = some (.ins C dx fs) ∧ YTy X.K H C y ∧ sp [x, y] H (fun v H' => ∃ b, v = .bl b ∧ Q (.bl b) H') E) := by
  intro pins s σ H x y v u Q I rx ry h
  obtain ⟨a, dx, fs, rfl, ha, ty, q⟩ := h
  cases (show v = Value.ref a from rx)
  obtain ⟨mA, J, _⟩ := ins_get I.hok ha
  obtain ⟨od, J, _⟩ := J.look
  obtain ⟨tb, lk, nf⟩ := yty_look O I ty ry
  obtain ⟨m, hF⟩ := I.fr
  show wpAny _ _ (richCompare .Eq _ _) _ _ _
  refine PySem.W.cmp_K (op := .Eq) (tb := tb) hr.units0 hF I.ok.mod.kin J lk nf O.eq O.fn ?_
  refine wpAny_mono (wpAny_call (run_fnR (us := [.ref a, u]) (vs := [.ref a, y]) (FnOk.raw F hb .nil) hr hx I (.cons rfl (.cons ry .nil)) q)) (fun w s' z => ?_) fun _ _ x => x
  obtain ⟨z', H', I', rz, b, rfl, qz⟩ := z
  exact SlX.cmpback rz ⟨.bl b, H', I', rz, qz⟩
/-- tree != y -/
theorem op_neL {CX : CXT} {n : Nat} {fd : FuncData} {ps : List Str} {sp : Sp} {E : XK} (O : OwnCmp X.K C f) (F : FnOk X.prog X.w X.K X.mg X.base CX n f fd ps sp) (hb : Binds X.K fd ps []) (hr : Room (n + 1) X.A) (hx : Passes CX X E) :
    OpR X (compareOp .NotEq) (fun x y H Q => ∃ a dx fs, x = .ref a ∧ H a = some (.ins C dx fs) ∧ YTy X.K H C y ∧ sp [x, y] H (fun v H' => ∃ b, v = .bl b ∧ Q (.bl (!b)) H') E) := by
  intro pins s σ H x y v u Q I rx ry h
  obtain ⟨a, dx, fs, rfl, ha, ty, q⟩ := h
  cases (show v = Value.ref a from rx)
  obtain ⟨mA, J, _⟩ := ins_get I.hok ha
  obtain ⟨od, J, _⟩ := J.look
  obtain ⟨tb, lk, nf⟩ := yty_look O I ty ry
  show wpAny _ _ (richCompare .NotEq _ _) _ _ _
  refine ne_K (by have := hr.un; omega) I.kIn J lk nf O.ne O.ob O.eq O.fn ?_
  refine wpAny_mono (wpAny_call (SlX.run_at (A := X.A.in1) (us := [.ref a, u]) (ws := [.ref a, y]) (FnOk.raw F hb .nil) hr.in1 I.env0.in1 hx I (.cons rfl (.cons ry .nil)) q)) (fun w s' z => ?_) fun _ _ x => x
  obtain ⟨z', H', I', rz, b, rfl, qz⟩ := z
  cases (show w = Value.bool b from rz)
  exact ⟨b, rfl, .bl (!b), H', I', rfl, qz⟩
/-- y == tree, y no instance -/
theorem op_eqR {CX : CXT} {n : Nat} {fd : FuncData} {ps : List Str} {sp : Sp} {E : XK} (O : OwnCmp X.K C f) (F : FnOk X.prog X.w X.K X.mg X.base CX n f fd ps sp) (hb : Binds X.K fd ps []) (hr : Room n X.A) (hx : Passes CX X E) :
    OpR X (compareOp .Eq) (fun y x H Q => ∃ a dx fs, x = .ref a ∧ H a = some (.ins C dx fs) ∧ YTy X.K H C y ∧ sp [x, y] H (fun v H' => ∃ b, v = .bl b ∧ Q (.bl b) H') E ∧ (∀ c dy gs, y = .ref c → H c = some (.ins C dy gs) → sp [y, x] H (fun v H' => ∃ b, v = .bl b ∧ Q (.bl b) H') E)) := by
  intro pins s σ H y x u v Q I ry rx h
  obtain ⟨a, dx, fs, rfl, ha, ty, q, q2⟩ := h
  cases (show v = Value.ref a from rx)
  obtain ⟨mA, J0, _⟩ := ins_get I.hok ha
  have hat : s.heap.get? a = some (PySem.W.instObj C dx) := J0.1
  obtain ⟨od, J, _⟩ := J0.look
  obtain ⟨m, hF⟩ := I.fr
  have fin : wpAny (model X.prog X.w) X.A (call (.ref f) [.ref a, u]) (PySem.W.CmpBack (EP X pins σ Q)) X.xe s := by
    refine wpAny_mono (wpAny_call (run_fnR (us := [.ref a, u]) (vs := [.ref a, y]) (FnOk.raw F hb .nil) hr hx I (.cons rfl (.cons ry .nil)) q)) (fun w s' z => ?_) fun _ _ x => x
    obtain ⟨z', H', I', rz, b, rfl, qz⟩ := z
    exact SlX.cmpback rz ⟨.bl b, H', I', rz, qz⟩
  show wpAny _ _ (richCompare .Eq _ _) _ _ _
  cases ty with
  | non =>
    cases ry
    exact eq_right hr.units0 I.kIn J rfl PySem.F.slot_NoneType_eq rfl O.nt dec_none O.eq O.fn fin
  | int i =>
    obtain ⟨t, rfl⟩ := ry
    exact eq_right hr.units0 I.kIn J (typeIs_int s i t) PySem.F.slot_int_eq rfl O.it (dec_int hat) O.eq O.fn fin
  | str i =>
    obtain ⟨t, rfl⟩ := ry
    exact eq_right hr.units0 I.kIn J (typeIs_str s i t) PySem.F.slot_str_eq rfl O.st (dec_str hat) O.eq O.fn fin
  | lst h =>
    cases ry
    obtain ⟨its, _, ⟨o, n, ho, hc, _⟩, _⟩ := I.list h
    exact eq_right hr.units0 I.kIn J ⟨o, ho, hc⟩ PySem.F.slot_list_eq (oneThing_ref ..) O.li (dec_list ⟨o, ho, hc⟩ I.kIn J O.li) O.eq O.fn fin
  | tup h =>
    cases ry
    obtain ⟨its, _, ⟨o, ho, hc, _⟩, _⟩ := I.tuple h
    exact eq_right hr.units0 I.kIn J ⟨o, ho, hc⟩ PySem.F.slot_tuple_eq (oneThing_ref ..) O.tu (dec_tup ⟨o, ho, hc⟩ I.kIn J O.tu) O.eq O.fn fin
  | @ins c dy gs hc =>
    cases ry
    have q3 := q2 c dy gs rfl hc
    obtain ⟨mB, K0, _⟩ := ins_get I.hok hc
    obtain ⟨od2, J2, _⟩ := K0.look
    refine PySem.W.cmp_K (op := .Eq) (tb := .ref C) hr.units0 hF I.ok.mod.kin J2 J.type (by simp [PySem.W.notFirst]) O.eq O.fn ?_
    · refine wpAny_mono (wpAny_call (run_fnR (us := [.ref c, .ref a]) (vs := [.ref c, .ref a]) (FnOk.raw F hb .nil) hr hx I (.cons rfl (.cons rfl .nil)) q3)) (fun w s' z => ?_) fun _ _ x => x
      obtain ⟨z', H', I', rz, b, rfl, qz⟩ := z
      exact SlX.cmpback rz ⟨.bl b, H', I', rz, qz⟩
end
end Bd
end

section
namespace Bd
open PySem L2
abbrev sIsInteger : Stmt := (top 4)
theorem scIsInteger : FnScope ["thing"] ["thing"] (defScope sIsInteger) := ⟨rfl, rfl, rfl, by decide +kernel, rfl, by decide +kernel, by decide +kernel⟩
abbrev sIsAmount : Stmt := (top 5)
theorem scIsAmount : FnScope ["thing", "top", "bottom"] ["thing"] (defScope sIsAmount) := ⟨rfl, rfl, rfl, by decide +kernel, rfl, by decide +kernel, by decide +kernel⟩
abbrev sDivisor : Stmt := (top 6)
theorem scDivisor : FnScope ["one", "other"] ["one", "other"] (defScope sDivisor) := ⟨rfl, rfl, rfl, by decide +kernel, rfl, by decide +kernel, by decide +kernel⟩
abbrev sIsEndless : Stmt := (top 27)
theorem scIsEndless : FnScope ["thing"] ["thing"] (defScope sIsEndless) := ⟨rfl, rfl, rfl, by decide +kernel, rfl, by decide +kernel, by decide +kernel⟩
abbrev sIsWord : Stmt := (top 26)
theorem scIsWord : FnScope ["thing"] ["thing"] (defScope sIsWord) := ⟨rfl, rfl, rfl, by decide +kernel, rfl, by decide +kernel, by decide +kernel⟩
abbrev sIsSet : Stmt := (top 28)
theorem scIsSet : FnScope ["thing", "ahead", "number"] ["thing"] (defScope sIsSet) := ⟨rfl, rfl, rfl, by decide +kernel, rfl, by decide +kernel, by decide +kernel⟩
abbrev sMayHave : Stmt := (top 29)
theorem scMayHave : FnScope ["word", "value"] ["word", "value"] (defScope sMayHave) := ⟨rfl, rfl, rfl, by decide +kernel, rfl, by decide +kernel, by decide +kernel⟩

def leftW : List Str := ["min", "low", "max", "quota", "burst", "tops", "sets", "alone"]
structure TP (P : Program) (w : World) (K : PySem.W.Frag) (mg : Str → Option Value) (aL : Addr) (left : List (Key × V)) : Prop where
  z_len : mg "len" = none
  z_int : mg "int" = none
  z_bool : mg "bool" = none
  z_str : mg "str" = none
  z_tuple : mg "tuple" = none
  z_list : mg "list" = none
  z_dict : mg "dict" = none
  z_all : mg "all" = none
  z_enumerate : mg "enumerate" = none
  z_isinstance : mg "isinstance" = none
  g_LONG : ∃ t, mg "LONG" = some (.int 3000 t)
  g_ENDLESS : ∃ t, mg "ENDLESS" = some (.str "endless" t)
  g_GREATEST_PROCESSOR : ∃ t, mg "GREATEST_PROCESSOR" = some (.int 63 t)
  g_LEFT_OUT : mg "LEFT_OUT" = some (.ref aL)
  tab : KTab P w K aL left
  keys : left.map (·.1) = leftW.map Sum.inr
def spIsInteger : Sp := fun vs H Q _ => ∃ i : Int, vs = [.int i] ∧ Q (.bl true) H
def spDivisor : Sp := fun vs H Q _ => ∃ a b : Nat, vs = [.int (a : Int), .int (b : Int)] ∧ a < 2 ^ 3000 ∧ b < 2 ^ 3000 ∧ Q (.int (Nat.gcd a b : Nat)) H
def spIsAmount (K : PySem.W.Frag) : Sp := fun vs H Q _ => ∃ (v : V) (n d : Nat), vs = [v] ∧ Dp K H v (.tuple [.int n, .int d]) ∧ n < 2 ^ 3000 ∧ 0 < d ∧ d < 2 ^ 3000 ∧ Nat.gcd n d = 1 ∧ Q (.bl true) H
def spIsEndless (K : PySem.W.Frag) : Sp := fun vs H Q _ => ∃ v : V, vs = [v] ∧ ((v = .str "endless" ∧ Q (.bl true) H) ∨ ∃ a xs, v = .ref a ∧ SqT K H a xs ∧ Q (.bl false) H)
def spIsWord : Sp := fun vs H Q _ => ∃ x : Str, vs = [.str x] ∧ x ∈ leftW ∧ Q (.bl true) H
/-- rising numbers above p, up to 63 -/
def RiseOk : Int → List Int → Prop
  | _, [] => True
  | p, x :: r => p < x ∧ x ≤ 63 ∧ RiseOk x r
def spIsSet (K : PySem.W.Frag) : Sp := fun vs H Q _ => ∃ (v : V) (xs : List Int), vs = [v] ∧ Dp K H v (.tuple (xs.map .int)) ∧ RiseOk (-1) xs ∧ xs.length ≤ 64 ∧ Q (.bl true) H
inductive ValOk : Str → PyData → Prop
  | amt {x : Str} {n d : Nat} : x ∈ (["min", "low", "burst", "max", "quota", "tops"] : List Str) → n < 2 ^ 3000 → 0 < d → d < 2 ^ 3000 → Nat.gcd n d = 1 → ValOk x (.tuple [.int n, .int d])
  | endl {x : Str} : x ∈ (["max", "quota", "tops"] : List Str) → ValOk x (.str "endless")
  | none : ValOk "sets" .none
  | set {xs : List Int} : RiseOk (-1) xs → xs.length ≤ 64 → ValOk "sets" (.tuple (xs.map .int))
  | alone {i : Int} : i = 0 ∨ i = 1 → ValOk "alone" (.int i)
def spMayHave (K : PySem.W.Frag) : Sp := fun vs H Q _ => ∃ (x : Str) (v : V) (d : PyData), vs = [.str x, v] ∧ Dp K H v d ∧ ValOk x d ∧ ∀ H', Same H H' → Q (.bl true) H'
section
variable {P : Program} {w : World} {K : PySem.W.Frag} {mg : Str → Option Value} {base : Heap} {aL : Addr} {left : List (Key × V)}
theorem ok_isInteger {f : Addr} {fd : FuncData} (F : Fun K "is_integer" "is_integer" sIsInteger f fd) (T : TP P w K mg aL left) : FnOk P w K mg base CX0 1 f fd ["thing"] spIsInteger := by
  refine F.ok scIsInteger (fun vs H Q E h => ?_) (fun cdv A outer s H vs Q E hr h => ?_)
  · obtain ⟨i, rfl, _⟩ := h
    rfl
  obtain ⟨i, rfl, q⟩ := h
  refine ⟨_, (pss_one (ps_ret (pe_and (pe_callB call_isi (by rfl) T.z_isinstance (by decide +kernel) (pa_cons (pv 0) (pa_cons (pe_bltn (v := .ty "int") (u := .type "int") (by rfl) T.z_int (by decide +kernel) rfl) pa_nil))) (pe_one (pe_not (pe_callB call_isi (by rfl) T.z_isinstance (by decide +kernel) (pa_cons (pv 0) (pa_cons (pe_bltn (v := .ty "bool") (u := .type "bool") (by rfl) T.z_bool (by decide +kernel) rfl) pa_nil)))))))), ?_⟩
  refine ⟨_, rfl, _, _, _, _, true, rfl, .ty _, .base (.int i), kit_ty (by decide +kernel), true, rfl, ?_⟩
  refine ⟨_, rfl, _, _, _, _, false, rfl, .ty _, .base (.int i), kit_ty (by decide +kernel), false, rfl, ?_⟩
  exact q

theorem bits_le {a : Nat} (h : a < 2 ^ 3000) : ((Builtin.Int.intBits (a : Int) : Nat) : Int) ≤ 3000 := by
  unfold Builtin.Int.intBits
  split
  · decide
  · have := PySem.Flt.log2_lt_of (by decide : 0 < 3000) h
    show (((a : Int).natAbs.log2 + 1 : Nat) : Int) ≤ 3000
    rw [Int.natAbs_natCast]
    omega
def mu2 : St → Hp → Nat := fun σ _ => match σ[1]? with
  | some (some (V.int b)) => b.toNat
  | _ => 0
theorem ok_divisor {f : Addr} {fd : FuncData} (F : Fun K "divisor" "divisor" sDivisor f fd) (T : TP P w K mg aL left) : FnOk P w K mg base CX0 1 f fd ["one", "other"] spDivisor := by
  refine F.ok scDivisor (fun vs H Q E h => ?_) (fun cdv A outer s H vs Q E hr h => ?_)
  · obtain ⟨a, b, rfl, _⟩ := h
    rfl
  obtain ⟨a, b, rfl, ha, hb, q⟩ := h
  obtain ⟨tl, hL⟩ := T.g_LONG
  have rest : ∀ x y : Nat, x < 2 ^ 3000 → y < 2 ^ 3000 → Nat.gcd x y = Nat.gcd a b → ∀ D : Ends, D.rt (.int (Nat.gcd a b : Nat)) H →
      tSeq (tWhile (tTest (tOp (rI0 fun i j => V.bl (decide (j < i))) (tBits (tVar 1)) (tC (V.int 3000)))) tNever)
        (tSeq (tWhile (fun σ H Q => tVar 1 σ H fun x H1 => ∃ k, TruV K x H1 k ∧ Q k H1) (tPar 0 1 (tCons (tVar 1) (tCons (tOp (rI (fun _ j => j ≠ 0) fun i j => V.int (i.fmod j)) (tVar 0) (tVar 1)) tNil)))) (tRet (tVar 0)))
        D [some (.int (x : Int)), some (.int (y : Int))] H := by
    intro x y hx hy e D q
    refine while_by (fun σ H' => H' = H ∧ σ = [some (.int (x : Int)), some (.int (y : Int))]) mu2 ⟨rfl, rfl⟩ ?_ ?_
    · rintro σ H' ⟨rfl, rfl⟩
      refine ⟨_, rfl, _, rfl, _, _, rfl, rfl, _, rfl, ?_⟩
      have hd : decide (3000 < ((Builtin.Int.intBits (y : Int) : Nat) : Int)) = false := decide_eq_false (by have := bits_le hy; omega)
      rw [hd]
      refine iteF ?_
      dsimp only
      unfold tSeq
      refine while_by (fun σ H2 => H2 = H' ∧ ∃ x y : Nat, σ = [some (.int (x : Int)), some (.int (y : Int))] ∧ Nat.gcd x y = Nat.gcd a b) mu2 ⟨rfl, x, y, rfl, e⟩ ?_ ?_
      · rintro σ H2 ⟨rfl, x, y, rfl, e⟩
        refine ⟨_, rfl, _, rfl, ?_⟩
        by_cases y0 : y = 0
        · subst y0
          refine iteF ?_
          refine ⟨_, rfl, ?_⟩
          rw [Nat.gcd_zero_right] at e
          rw [e]
          exact q
        · have hk : (((y : Nat) : Int) != 0) = true := by
            rw [bne_iff_ne]
            omega
          rw [hk]
          refine iteT ?_
          refine ⟨_, rfl, _, rfl, _, rfl, _, _, rfl, rfl, by show (y : Int) ≠ 0; omega, _, _, rfl, ?_⟩
          have em : (x : Int).fmod (y : Int) = ((x % y : Nat) : Int) := by
            rw [Int.fmod_eq_emod_of_nonneg _ (by omega)]
            exact (Int.natCast_emod x y).symm
          refine ⟨⟨rfl, y, x % y, ?_, ?_⟩, ?_⟩
          · show [some (V.int (y : Int)), some (V.int ((x : Int).fmod (y : Int)))] = _
            rw [em]
          · rw [← e, Nat.gcd_comm x y, Nat.gcd_rec y x, Nat.gcd_comm]
          · show ((x : Int).fmod (y : Int)).toNat < (y : Int).toNat
            rw [em]
            have := Nat.mod_lt x (show 0 < y by omega)
            omega
      · rintro σ H2 Q1 Q2 f ⟨v, h1, k, h2, q⟩
        exact ⟨v, h1, k, h2, f _ _ q⟩
    · rintro σ H' Q1 Q2 f h
      obtain ⟨v, h1, i, h2, i2, j2, h3, h4, k, h5, q⟩ := h
      exact ⟨v, h1, i, h2, i2, j2, h3, h4, k, h5, f _ _ q⟩
  refine ⟨_, (pss_cons (ps_if (pt_cmpR op_lt (pv 0) (pv 1) (nomark _)) (pss_one (ps_par (i := 0) (j := 1) (by rfl) scDivisor.nd rfl rfl (by decide) rfl rfl (pa_cons (pv 1) (pa_cons (pv 0) pa_nil)) (by rfl))) pss_nil) (pss_cons (ps_while PassesOwn.never (pt_cmpR op_gt (pe_bits (pv 1)) (pe_glob (v := .int 3000) rfl hL ⟨_, rfl⟩) (nomark _)) (pss_one ps_never)) (pss_cons (ps_while PassesOwn.never (pt_truth (pv 1) (by intro _; rfl)) (pss_one (ps_par (i := 0) (j := 1) (by rfl) scDivisor.nd rfl rfl (by decide) rfl rfl (pa_cons (pv 1) (pa_cons (pe_op op_modN (pv 0) (pv 1)) pa_nil)) (by rfl)))) (pss_one (ps_ret (pv 0)))))), ?_⟩
  refine ⟨_, rfl, _, rfl, _, _, rfl, rfl, _, rfl, ?_⟩
  refine ite2 (fun c => ?_) (fun c => ?_)
  · refine ⟨_, rfl, _, rfl, _, _, rfl, ?_⟩
    exact rest b a hb ha (Nat.gcd_comm _ _) _ q
  · exact rest a b ha hb rfl _ q

theorem bl_t {p : Prop} [Decidable p] (h : p) : V.bl (decide p) = V.bl true := congrArg V.bl (decide_eq_true h)
theorem dp_tup {H : Hp} {v : V} {ds : List PyData} (h : Dp K H v (.tuple ds)) : ∃ a xs, v = .ref a ∧ SqT K H a xs ∧ DpAll K H xs ds := by
  cases h with
  | tup h1 h2 => exact ⟨_, _, rfl, h1, h2⟩
theorem dpall_nil {H : Hp} {xs : List V} (h : DpAll K H xs []) : xs = [] := by
  cases h
  rfl
theorem dpall_cons {H : Hp} {xs : List V} {d : PyData} {ds : List PyData} (h : DpAll K H xs (d :: ds)) : ∃ v vs, xs = v :: vs ∧ Dp K H v d ∧ DpAll K H vs ds := by
  cases h with
  | cons h1 h2 => exact ⟨_, _, rfl, h1, h2⟩
theorem dp_int {H : Hp} {v : V} {i : Int} (h : Dp K H v (.int i)) : v = .int i := by
  cases h
  rfl
theorem dp_str {H : Hp} {v : V} {x : Str} (h : Dp K H v (.str x)) : v = .str x := by
  cases h
  rfl
theorem dp_none {H : Hp} {v : V} (h : Dp K H v .none) : v = .non := by
  cases h
  rfl
theorem dp_two {H : Hp} {v : V} {i j : Int} (h : Dp K H v (.tuple [.int i, .int j])) : ∃ a, v = .ref a ∧ SqT K H a [.int i, .int j] := by
  obtain ⟨a, xs, rfl, h1, h2⟩ := dp_tup h
  obtain ⟨x, xs, rfl, e1, h2⟩ := dpall_cons h2
  obtain ⟨y, xs, rfl, e2, h2⟩ := dpall_cons h2
  cases dpall_nil h2
  cases dp_int e1
  cases dp_int e2
  exact ⟨a, rfl, h1⟩
theorem sqt_ty {H : Hp} {a : Addr} {xs : List V} (h : SqT K H a xs) : TyX K H (.ref a) (.type "tuple") := by
  rcases h with (h | ⟨o, h⟩) | ⟨o, its, n, h, c, _⟩
  · exact .base (.tup h)
  · exact .fTuple h
  · exact .kTuple h c
theorem ok_isAmount {f g e : Addr} {fd gd ed : FuncData} (F : Fun K "is_amount" "is_amount" sIsAmount f fd) (T : TP P w K mg aL left) (cI : Cal P w K mg base "is_integer" ["thing"] 1 spIsInteger g gd) (cD : Cal P w K mg base "divisor" ["one", "other"] 1 spDivisor e ed) : FnOk P w K mg base CX0 2 f fd ["thing"] (spIsAmount K) := by
  refine F.ok scIsAmount (fun vs H Q E h => ?_) (fun cdv A outer s H vs Q E hr h => ?_)
  · obtain ⟨i, n, d, rfl, _⟩ := h
    rfl
  obtain ⟨v, n, d, rfl, hv, h1, h2, h3, h4, q⟩ := h
  obtain ⟨a, rfl, ha⟩ := dp_two hv
  refine ⟨_, (pss_cons (ps_if (PW.pt (pw_or (pt_not (pt_val (pe_callB call_isi (by rfl) T.z_isinstance (by decide +kernel) (pa_cons (pv 0) (pa_cons (pe_bltn (v := .ty "tuple") (u := .type "tuple") (by rfl) T.z_tuple (by decide +kernel) rfl) pa_nil))))) (pw_or1 (pt_cmpR op_ne (pe_callB call_len_seq (by rfl) T.z_len PySem.boot_len (pa_cons (pv 0) pa_nil)) pe_int (nomark _))))) (pss_one (ps_ret pe_bl)) pss_nil) (pss_cons (ps_asg (pv 0) (pg_tup (by rfl) (pgs_cons (pg_name (i := 1) scIsAmount.nd rfl (Or.inl rfl)) (pgs_cons (pg_name (i := 2) scIsAmount.nd rfl (Or.inl rfl)) pgs_nil)))) (pss_cons (ps_if (PW.pt (pw_or (pt_not (pt_val (pe_call cI.ok (hr.mono (by decide)) rfl cI.mg cI.kp cI.bd .nil pass0 (pa_cons (pv 1) pa_nil)))) (pw_or1 (pt_not (pt_val (pe_call cI.ok (hr.mono (by decide)) rfl cI.mg cI.kp cI.bd .nil pass0 (pa_cons (pv 2) pa_nil))))))) (pss_one (ps_ret pe_bl)) pss_nil) (pss_one (ps_ret (pe_and (pe_cmpR op_ge (pv 1) pe_int (nomark _)) (pe_and (pe_cmpR op_ge (pv 2) pe_int (nomark _)) (pe_one (pe_cmpR op_eq (pe_call cD.ok (hr.mono (by decide)) rfl cD.mg cD.kp cD.bd .nil pass0 (pa_cons (pv 1) (pa_cons (pv 2) pa_nil))) pe_int (nomark _)))))))))), ?_⟩
  refine ⟨_, rfl, _, _, _, _, true, rfl, .ty _, sqt_ty ha, kit_ty (by decide +kernel), true, rfl, ?_⟩
  refine iteF ?_
  refine ⟨_, rfl, a, _, rfl, .inr ha, rfl, _, rfl, ?_⟩
  refine iteNS rfl ?_
  refine ⟨_, rfl, a, _, rfl, ha, rfl, ?_⟩
  refine ⟨_, _, rfl, _, _, rfl, rfl, ?_⟩
  refine ⟨_, rfl, _, rfl, true, rfl, ?_⟩
  refine iteF ?_
  refine ⟨_, rfl, _, rfl, true, rfl, ?_⟩
  refine iteF ?_
  refine ⟨_, rfl, _, _, rfl, rfl, true, bl_t (by omega), ?_⟩
  refine ⟨_, rfl, _, _, rfl, rfl, true, bl_t (by omega), ?_⟩
  refine ⟨_, rfl, _, rfl, n, d, rfl, h1, h3, ?_⟩
  rw [h4]
  exact ⟨rfl, q⟩

theorem Same.seqT {H H' : Hp} {a : Addr} {xs : List V} (e : Same H H') (h : SqT K H a xs) : SqT K H' a xs := by
  rcases h with (h | ⟨o, h⟩) | h
  · exact .inl (.inl (e _ _ h))
  · exact .inl (.inr ⟨o, e _ _ h⟩)
  · exact .inr h
mutual
theorem dp_same {H H' : Hp} (e : Same H H') : ∀ (d : PyData) (v : V), Dp K H v d → Dp K H' v d
  | .none, _, h => by
    cases h
    exact .non
  | .bool b, _, h => by
    cases h
    exact .bl b
  | .int i, _, h => by
    cases h
    exact .int i
  | .str x, _, h => by
    cases h
    exact .str x
  | .list ds, _, h => by
    cases h with
    | lst h1 h2 => exact .lst (e.seq h1) (dp_sameAll e ds _ h2)
  | .tuple ds, _, h => by
    cases h with
    | tup h1 h2 => exact .tup (Same.seqT e h1) (dp_sameAll e ds _ h2)
  | .dict _, _, h => nomatch h
theorem dp_sameAll {H H' : Hp} (e : Same H H') : ∀ (ds : List PyData) (vs : List V), DpAll K H vs ds → DpAll K H' vs ds
  | [], _, h => by
    cases h
    exact .nil
  | d :: ds, _, h => by
    cases h with
    | cons h1 h2 => exact .cons (dp_same e d _ h1) (dp_sameAll e ds _ h2)
end
theorem ok_isEndless {f : Addr} {fd : FuncData} (F : Fun K "is_endless" "is_endless" sIsEndless f fd) (T : TP P w K mg aL left) : FnOk P w K mg base CX0 1 f fd ["thing"] (spIsEndless K) := by
  refine F.ok scIsEndless (fun vs H Q E h => ?_) (fun cdv A outer s H vs Q E hr h => ?_)
  · obtain ⟨v, rfl, _⟩ := h
    rfl
  obtain ⟨v, rfl, h⟩ := h
  obtain ⟨tl, hL⟩ := T.g_ENDLESS
  refine ⟨_, (pss_one (ps_ret (pe_and (pe_callB call_isi (by rfl) T.z_isinstance (by decide +kernel) (pa_cons (pv 0) (pa_cons (pe_bltn (v := .ty "str") (u := .type "str") (by rfl) T.z_str (by decide +kernel) rfl) pa_nil))) (pe_one (pe_cmpR op_eq (pv 0) (pe_glob (v := .str "endless") rfl hL ⟨_, rfl⟩) (nomark _)))))), ?_⟩
  rcases h with ⟨rfl, q⟩ | ⟨a, xs, rfl, ha, q⟩
  · refine ⟨_, rfl, _, _, _, _, true, rfl, .ty _, .base (.str _), kit_ty (by decide +kernel), true, rfl, ?_⟩
    refine ⟨_, rfl, rfl, ?_⟩
    show Q (.bl (decide (V.str "endless" = V.str "endless"))) H
    rw [decide_eq_true rfl]
    exact q
  · refine ⟨_, rfl, _, _, _, _, false, rfl, .ty _, sqt_ty ha, kit_ty (by decide +kernel), false, rfl, ?_⟩
    exact q

theorem val_some {kvs : List (Key × V)} {k : Key} (h : k ∈ kvs.map (·.1)) : (valV kvs k).isSome = true := by
  obtain ⟨p, hp, e⟩ := List.mem_map.mp h
  rw [← valV_any]
  exact List.any_eq_true.mpr ⟨p, hp, decide_eq_true e⟩
theorem ok_isWord {f : Addr} {fd : FuncData} (F : Fun K "is_word" "is_word" sIsWord f fd) (T : TP P w K mg aL left) : FnOk P w K mg base CX0 1 f fd ["thing"] spIsWord := by
  refine F.ok scIsWord (fun vs H Q E h => ?_) (fun cdv A outer s H vs Q E hr h => ?_)
  · obtain ⟨v, rfl, _⟩ := h
    rfl
  obtain ⟨x, rfl, hx, q⟩ := h
  refine ⟨_, (pss_one (ps_ret (pe_and (pe_callB call_isi (by rfl) T.z_isinstance (by decide +kernel) (pa_cons (pv 0) (pa_cons (pe_bltn (v := .ty "str") (u := .type "str") (by rfl) T.z_str (by decide +kernel) rfl) pa_nil))) (pe_one (pe_cmpR op_inT (pv 0) (pe_glob (v := .ref aL) rfl T.g_LEFT_OUT rfl) (by first | exact nomark _ | rfl)))))), ?_⟩
  refine ⟨_, rfl, _, _, _, _, true, rfl, .ty _, .base (.str _), kit_ty (by decide +kernel), true, rfl, ?_⟩
  refine ⟨_, rfl, aL, left, Sum.inr x, rfl, rfl, T.tab, ?_⟩
  rw [val_some (k := (Sum.inr x : Key)) (by rw [T.keys]; exact List.mem_map.mpr ⟨x, hx, rfl⟩)]
  exact q

theorem map_int_get {xs : List Int} {i : Nat} {x : V} (h : (xs.map V.int)[i]? = some x) : ∃ z, x = .int z ∧ xs[i]? = some z := by
  rw [List.getElem?_map] at h
  cases e : xs[i]? with
  | none =>
    rw [e] at h
    cases h
  | some z =>
    rw [e] at h
    exact ⟨z, (Option.some.inj h).symm, rfl⟩
theorem dp_ints {H : Hp} : ∀ {vs : List V} {xs : List Int}, DpAll K H vs (xs.map .int) → vs = xs.map V.int
  | vs, [], h => dpall_nil h
  | vs, x :: xs, h => by
    obtain ⟨v, r, rfl, h1, h2⟩ := dpall_cons h
    rw [dp_int h1, dp_ints h2]
    rfl
theorem drop_at {α : Type} {xs : List α} {i : Nat} {z : α} (h : xs[i]? = some z) : xs.drop i = z :: xs.drop (i + 1) := by
  obtain ⟨hi, e⟩ := List.getElem?_eq_some_iff.mp h
  rw [List.drop_eq_getElem_cons hi, e]
theorem ok_isSet {f g : Addr} {fd gd : FuncData} (F : Fun K "is_set" "is_set" sIsSet f fd) (T : TP P w K mg aL left) (cI : Cal P w K mg base "is_integer" ["thing"] 1 spIsInteger g gd) : FnOk P w K mg base CX0 2 f fd ["thing"] (spIsSet K) := by
  refine F.ok scIsSet (fun vs H Q E h => ?_) (fun cdv A outer s H vs Q E hr h => ?_)
  · obtain ⟨v, xs, rfl, _⟩ := h
    rfl
  obtain ⟨v, xs, rfl, hv, hrise, hlen, q⟩ := h
  obtain ⟨a, ys, rfl, ha, hys⟩ := dp_tup hv
  cases dp_ints hys
  obtain ⟨tl, hL⟩ := T.g_GREATEST_PROCESSOR
  refine ⟨_, (pss_cons (ps_if (pt_not (pt_val (pe_callB call_isi (by rfl) T.z_isinstance (by decide +kernel) (pa_cons (pv 0) (pa_cons (pe_bltn (v := .ty "tuple") (u := .type "tuple") (by rfl) T.z_tuple (by decide +kernel) rfl) pa_nil))))) (pss_one (ps_ret pe_bl)) pss_nil) (pss_cons (ps_set (i := 1) scIsSet.nd rfl (Or.inl rfl) (pe_un un_neg pe_int)) (pss_cons (ps_for PassesOwn.never rfl (pi_tup (pv 0)) (pg_name (i := 2) scIsSet.nd rfl (Or.inl rfl)) (pss_cons (ps_if (PW.pt (pw_or (pt_not (pt_val (pe_call cI.ok (hr.mono (by decide)) rfl cI.mg cI.kp cI.bd .nil pass0 (pa_cons (pv 2) pa_nil)))) (pw_or1 (pt_not (pt_chain op_lt op_le (pv 1) (pv 2) (pe_glob (v := .int 63) rfl hL ⟨_, rfl⟩)))))) (pss_one (ps_ret pe_bl)) pss_nil) (pss_one (ps_set (i := 1) scIsSet.nd rfl (Or.inl rfl) (pv 2))))) (pss_one (ps_ret pe_bl))))), ?_⟩
  refine ⟨_, rfl, _, _, _, _, true, rfl, .ty _, sqt_ty ha, kit_ty (by decide +kernel), true, rfl, ?_⟩
  refine iteF ?_
  refine ⟨_, rfl, ?_⟩
  refine ⟨_, rfl, a, rfl, ⟨_, ha⟩, for_tup (xs := xs.map V.int) (fun i σ H' => H' = H ∧ ∃ (p : Int) (o : Option V), σ = [some (.ref a), some (.int p), o] ∧ RiseOk p (xs.drop i)) ⟨rfl, -1, none, rfl, hrise⟩ ?_ ?_ ?_⟩
  · rintro i σ H' _ ⟨rfl, _⟩
    exact ha
  · rintro i x σ H' hi ⟨rfl, p, o, rfl, hp⟩
    obtain ⟨z, rfl, hz⟩ := map_int_get hi
    rw [drop_at hz] at hp
    obtain ⟨h1, h2, h3⟩ := hp
    refine ⟨_, rfl, z, rfl, true, rfl, ?_⟩
    refine iteF ?_
    refine ⟨_, rfl, _, rfl, _, _, rfl, rfl, true, bl_t h1, ?_⟩
    refine iteT ?_
    refine ⟨_, _, rfl, rfl, true, bl_t h2, ?_⟩
    refine iteF ?_
    refine ⟨_, rfl, ?_⟩
    exact ⟨rfl, z, _, rfl, h3⟩
  · rintro σ H' ⟨rfl, _⟩
    exact q

theorem ifF {b : Bool} {A B : Prop} (h : b = false) (k : B) : if b = true then A else B := by
  rw [h]
  exact iteF k
theorem ifT {b : Bool} {A B : Prop} (h : b = true) (k : A) : if b = true then A else B := by
  rw [h]
  exact iteT k
theorem in_yes {x : V} {xs : List V} (h : inV x xs = true) : (if (false : Bool) = true then !inV x xs else inV x xs) = true := by
  rw [if_neg (by decide)]
  exact h
theorem ok_mayHave {f g e c d : Addr} {fd gd ed cd dd : FuncData} (F : Fun K "may_have" "may_have" sMayHave f fd) (T : TP P w K mg aL left) (cA : Cal P w K mg base "is_amount" ["thing"] 2 (spIsAmount K) g gd) (cI : Cal P w K mg base "is_integer" ["thing"] 1 spIsInteger e ed)
    (cS : Cal P w K mg base "is_set" ["thing"] 2 (spIsSet K) c cd) (cE : Cal P w K mg base "is_endless" ["thing"] 1 (spIsEndless K) d dd) : FnOk P w K mg base CX0 3 f fd ["word", "value"] (spMayHave K) := by
  refine F.ok scMayHave (fun vs H Q E h => ?_) (fun cdv A outer s H vs Q E hr h => ?_)
  · obtain ⟨x, v, d, rfl, _⟩ := h
    rfl
  obtain ⟨x, v, d, rfl, hv, hok, q⟩ := h
  refine ⟨_, (pss_cons (ps_if (pt_cmpR op_in_seq (pv 0) (pe_tup (pa_cons pe_str (pa_cons pe_str (pa_cons pe_str pa_nil)))) (by first | exact nomark _ | rfl)) (pss_one (ps_ret (pe_call cA.ok (hr.mono (by decide)) rfl cA.mg cA.kp cA.bd .nil pass0 (pa_cons (pv 1) pa_nil)))) pss_nil) (pss_cons (ps_if (pt_cmpR op_eq (pv 0) pe_str (nomark _)) (pss_one (ps_ret (pe_or (pe_cmpR op_isN (pv 1) pe_non (nomark _)) (pe_one (pe_call cS.ok (hr.mono (by decide)) rfl cS.mg cS.kp cS.bd .nil pass0 (pa_cons (pv 1) pa_nil)))))) pss_nil) (pss_cons (ps_if (pt_cmpR op_eq (pv 0) pe_str (nomark _)) (pss_one (ps_ret (pe_and (pe_call cI.ok (hr.mono (by decide)) rfl cI.mg cI.kp cI.bd .nil pass0 (pa_cons (pv 1) pa_nil)) (pe_one (pe_cmpR op_in_seq (pv 1) (pe_tup (pa_cons pe_int (pa_cons pe_int pa_nil))) (by first | exact nomark _ | rfl)))))) pss_nil) (pss_one (ps_ret (pe_or (pe_call cE.ok (hr.mono (by decide)) rfl cE.mg cE.kp cE.bd .nil pass0 (pa_cons (pv 1) pa_nil)) (pe_one (pe_call cA.ok (hr.mono (by decide)) rfl cA.mg cA.kp cA.bd .nil pass0 (pa_cons (pv 1) pa_nil))))))))), ?_⟩
  refine ⟨_, rfl, by show 3 ≤ sizeLine; decide, fun p hp => ⟨p, _, rfl, .inr (SqT.of upd_same), rfl, rfl, ?_⟩⟩
  have s1 := Same.new (Same.refl H) hp (.tup [.str "min", .str "low", .str "burst"])
  have hv1 := dp_same s1 d v hv
  cases hok with
  | @amt _ n m hw h1 h2 h3 h4 =>
    obtain ⟨a, rfl, ha⟩ := dp_two hv1
    simp only [List.mem_cons, List.not_mem_nil, or_false] at hw
    rcases hw with rfl | rfl | rfl | rfl | rfl | rfl
    iterate 3
      · refine ⟨true, congrArg V.bl (by decide +kernel), iteT ?_⟩
        exact ⟨_, rfl, _, n, m, rfl, hv1, h1, h2, h3, h4, q _ s1⟩
    iterate 3
      · refine ⟨false, congrArg V.bl (by decide +kernel), iteF ?_⟩
        refine ⟨_, rfl, rfl, _, rfl, ifF (by decide +kernel) ?_⟩
        refine ⟨_, rfl, rfl, _, rfl, ifF (by decide +kernel) ?_⟩
        refine ⟨_, rfl, _, rfl, .inr ⟨a, _, rfl, ha, ?_⟩⟩
        refine ⟨false, rfl, ?_⟩
        refine iteF ?_
        exact ⟨_, rfl, _, n, m, rfl, hv1, h1, h2, h3, h4, q _ s1⟩
  | endl hw =>
    cases dp_str hv
    simp only [List.mem_cons, List.not_mem_nil, or_false] at hw
    rcases hw with rfl | rfl | rfl
    all_goals
      refine ⟨false, congrArg V.bl (by decide +kernel), iteF ?_⟩
      refine ⟨_, rfl, rfl, _, rfl, ifF (by decide +kernel) ?_⟩
      refine ⟨_, rfl, rfl, _, rfl, ifF (by decide +kernel) ?_⟩
      refine ⟨_, rfl, _, rfl, .inl ⟨rfl, ?_⟩⟩
      refine ⟨true, rfl, ?_⟩
      refine iteT ?_
      exact q _ s1
  | none =>
    cases dp_none hv
    refine ⟨false, congrArg V.bl (by decide +kernel), iteF ?_⟩
    refine ⟨_, rfl, rfl, _, rfl, ifT (by decide +kernel) ?_⟩
    refine ⟨_, rfl, rfl, true, rfl, iteT ?_⟩
    exact q _ s1
  | @set xs hx hl =>
    obtain ⟨a, ys, rfl, ha, hys⟩ := dp_tup hv1
    refine ⟨false, congrArg V.bl (by decide +kernel), iteF ?_⟩
    refine ⟨_, rfl, rfl, _, rfl, ifT (by decide +kernel) ?_⟩
    refine ⟨_, rfl, rfl, false, rfl, iteF ?_⟩
    exact ⟨_, rfl, _, xs, rfl, hv1, hx, hl, q _ s1⟩
  | @alone i hi =>
    cases dp_int hv
    refine ⟨false, congrArg V.bl (by decide +kernel), iteF ?_⟩
    refine ⟨_, rfl, rfl, _, rfl, ifF (by decide +kernel) ?_⟩
    refine ⟨_, rfl, rfl, _, rfl, ifT (by decide +kernel) ?_⟩
    refine ⟨_, rfl, i, rfl, true, rfl, iteT ?_⟩
    refine ⟨_, rfl, by show 2 ≤ sizeLine; decide, fun p2 hp2 => ⟨p2, _, rfl, .inr (SqT.of upd_same), rfl, rfl, ?_⟩⟩
    have e : inV (.int i) [.int 0, .int 1] = true := by
      rcases hi with rfl | rfl <;> decide +kernel
    show Q (.bl (inV (.int i) [.int 0, .int 1])) _
    rw [e]
    exact q _ (Same.new s1 hp2 _)

end
end Bd
end

section
namespace Bd
open PySem L2
abbrev sIsName : Stmt := (top 25)
theorem scIsName : FnScope ["thing", "letter"] ["thing"] (defScope sIsName) := ⟨rfl, rfl, rfl, by decide +kernel, rfl, by decide +kernel, by decide +kernel⟩
abbrev sIsDue : Stmt := (top 30)
theorem scIsDue : FnScope ["thing", "word", "value"] ["thing"] (defScope sIsDue) := ⟨rfl, rfl, rfl, by decide +kernel, rfl, by decide +kernel, by decide +kernel⟩
abbrev sIsDues : Stmt := (top 31)
theorem scIsDues : FnScope ["thing", "words", "due"] ["thing"] (defScope sIsDues) := ⟨rfl, rfl, rfl, by decide +kernel, rfl, by decide +kernel, by decide +kernel⟩
abbrev sIsGroupRow : Stmt := (top 32)
theorem scIsGroupRow : FnScope ["thing", "name", "above", "dues"] ["thing"] (defScope sIsGroupRow) := ⟨rfl, rfl, rfl, by decide +kernel, rfl, by decide +kernel, by decide +kernel⟩
abbrev sMayStand : Stmt := (top 34)
theorem scMayStand : FnScope ["tree", "row", "name", "above", "dues"] ["tree", "row"] (defScope sMayStand) := ⟨rfl, rfl, rfl, by decide +kernel, rfl, by decide +kernel, by decide +kernel⟩

def NameOk (x : Str) : Prop := 1 ≤ x.length ∧ x.length ≤ 10 ∧ ∀ c ∈ x.cps.toList, 97 ≤ c ∧ c ≤ 122
structure RowM where
  name : Str
  above : Str
  dues : List (Str × PyData)
/-- a pair of a word and a value at p -/
def DueAt (K : PySem.W.Frag) (H : Hp) (p : Addr) (du : Str × PyData) : Prop := ∃ u, SqT K H p [.str du.1, u] ∧ Dp K H u du.2
/-- dues at t -/
def DuesAt (K : PySem.W.Frag) (H : Hp) (t : Addr) (dues : List (Str × PyData)) : Prop := ∃ ps : List Addr, FrT H t (ps.map V.ref) ∧ Paired (DueAt K H) ps dues
def RowAt (K : PySem.W.Frag) (H : Hp) (v : V) (r : RowM) : Prop := ∃ a t, v = .ref a ∧ SqT K H a [.str r.name, .str r.above, .ref t] ∧ DuesAt K H t r.dues
def DuesOk (dues : List (Str × PyData)) : Prop := (dues.map (·.1)).Nodup ∧ ∀ du ∈ dues, du.1 ∈ leftW ∧ ValOk du.1 du.2
theorem paired_mono {α β : Type} {F G : α → β → Prop} (h : ∀ a b, F a b → G a b) : ∀ {xs : List α} {ys : List β}, Paired F xs ys → Paired G xs ys
  | _, _, .nil => .nil
  | _, _, .cons a b => .cons (h _ _ a) (paired_mono h b)
theorem paired_get {α β : Type} {F : α → β → Prop} : ∀ {xs : List α} {ys : List β}, Paired F xs ys → ∀ {i : Nat} {x : α}, xs[i]? = some x → ∃ y, ys[i]? = some y ∧ F x y
  | _, _, .nil, i, x, h => by simp at h
  | _, _, .cons a b, 0, x, h => by
    cases Option.some.inj h
    exact ⟨_, rfl, a⟩
  | _, _, .cons a b, i + 1, x, h => by
    obtain ⟨y, h1, h2⟩ := paired_get b (i := i) (x := x) (by simpa using h)
    exact ⟨y, by simpa using h1, h2⟩
theorem DueAt.same {K : PySem.W.Frag} {H H' : Hp} (e : Same H H') {p : Addr} {du : Str × PyData} (h : DueAt K H p du) : DueAt K H' p du := by
  obtain ⟨u, h1, h2⟩ := h
  exact ⟨u, Same.seqT e h1, dp_same e _ _ h2⟩
theorem FrT.same {H H' : Hp} (e : Same H H') {a : Addr} {xs : List V} (h : FrT H a xs) : FrT H' a xs := by
  obtain ⟨o, h1, h2⟩ := h
  exact ⟨o, h1, e _ _ h2⟩
theorem DuesAt.same {K : PySem.W.Frag} {H H' : Hp} (e : Same H H') {t : Addr} {dues : List (Str × PyData)} (h : DuesAt K H t dues) : DuesAt K H' t dues := by
  obtain ⟨ps, h1, h2⟩ := h
  exact ⟨ps, FrT.same e h1, paired_mono (fun _ _ z => DueAt.same e z) h2⟩
theorem RowAt.same {K : PySem.W.Frag} {H H' : Hp} (e : Same H H') {v : V} {r : RowM} (h : RowAt K H v r) : RowAt K H' v r := by
  obtain ⟨a, t, rfl, h1, h2⟩ := h
  exact ⟨a, t, rfl, Same.seqT e h1, DuesAt.same e h2⟩
def spIsName : Sp := fun vs H Q _ => ∃ x : Str, vs = [.str x] ∧ NameOk x ∧ ∀ H', Same H H' → Q (.bl true) H'
def spIsDue (K : PySem.W.Frag) : Sp := fun vs H Q _ => ∃ (p : Addr) (du : Str × PyData), vs = [.ref p] ∧ DueAt K H p du ∧ du.1 ∈ leftW ∧ ValOk du.1 du.2 ∧ ∀ H', Same H H' → Q (.bl true) H'
def spIsDues (K : PySem.W.Frag) : Sp := fun vs H Q _ => ∃ (t : Addr) (dues : List (Str × PyData)), vs = [.ref t] ∧ DuesAt K H t dues ∧ DuesOk dues ∧ ∀ H', Same H H' → Q (.bl true) H'
def spIsGroupRow (K : PySem.W.Frag) : Sp := fun vs H Q _ => ∃ (v : V) (r : RowM), vs = [v] ∧ RowAt K H v r ∧ NameOk r.name ∧ DuesOk r.dues ∧ ∀ H', Same H H' → Q (.bl true) H'
section
variable {P : Program} {w : World} {K : PySem.W.Frag} {mg : Str → Option Value} {base : Heap} {aL : Addr} {left : List (Key × V)}
theorem ok_isDue {f g e : Addr} {fd gd ed : FuncData} (F : Fun K "is_due" "is_due" sIsDue f fd) (T : TP P w K mg aL left) (cW : Cal P w K mg base "is_word" ["thing"] 1 spIsWord g gd) (cM : Cal P w K mg base "may_have" ["word", "value"] 3 (spMayHave K) e ed) :
    FnOk P w K mg base CX0 4 f fd ["thing"] (spIsDue K) := by
  refine F.ok scIsDue (fun vs H Q E h => ?_) (fun cdv A outer s H vs Q E hr h => ?_)
  · obtain ⟨p, du, rfl, _⟩ := h
    rfl
  obtain ⟨p, du, rfl, ⟨u, ha, hu⟩, hw, hv, q⟩ := h
  refine ⟨_, (pss_cons (ps_if (PW.pt (pw_or (pt_not (pt_val (pe_callB call_isi (by rfl) T.z_isinstance (by decide +kernel) (pa_cons (pv 0) (pa_cons (pe_bltn (v := .ty "tuple") (u := .type "tuple") (by rfl) T.z_tuple (by decide +kernel) rfl) pa_nil))))) (pw_or1 (pt_cmpR op_ne (pe_callB call_len_seq (by rfl) T.z_len PySem.boot_len (pa_cons (pv 0) pa_nil)) pe_int (nomark _))))) (pss_one (ps_ret pe_bl)) pss_nil) (pss_cons (ps_asg (pv 0) (pg_tup (by rfl) (pgs_cons (pg_name (i := 1) scIsDue.nd rfl (Or.inl rfl)) (pgs_cons (pg_name (i := 2) scIsDue.nd rfl (Or.inl rfl)) pgs_nil)))) (pss_one (ps_ret (pe_and (pe_call cW.ok (hr.mono (by decide)) rfl cW.mg cW.kp cW.bd .nil pass0 (pa_cons (pv 1) pa_nil)) (pe_one (pe_call cM.ok (hr.mono (by decide)) rfl cM.mg cM.kp cM.bd .nil pass0 (pa_cons (pv 1) (pa_cons (pv 2) pa_nil))))))))), ?_⟩
  refine ⟨_, rfl, _, _, _, _, true, rfl, .ty _, sqt_ty ha, kit_ty (by decide +kernel), true, rfl, ?_⟩
  refine iteF ?_
  refine ⟨_, rfl, p, _, rfl, .inr ha, rfl, _, rfl, ?_⟩
  refine iteNS rfl ?_
  refine ⟨_, rfl, p, _, rfl, ha, rfl, ?_⟩
  refine ⟨_, _, rfl, _, _, rfl, rfl, ?_⟩
  refine ⟨_, rfl, du.1, rfl, hw, true, rfl, iteT ?_⟩
  exact ⟨_, rfl, _, rfl, du.1, u, du.2, rfl, hu, hv, q⟩

theorem letter_ok : ∀ c < 123, 97 ≤ c → (!decide ((⟨#[c]⟩ : Str).cps.toList < ("a" : Str).cps.toList)) = true ∧ (!decide (("z" : Str).cps.toList < (⟨#[c]⟩ : Str).cps.toList)) = true := by decide +kernel
theorem ok_isName {f : Addr} {fd : FuncData} (F : Fun K "is_name" "is_name" sIsName f fd) (T : TP P w K mg aL left) : FnOk P w K mg base CX0 1 f fd ["thing"] spIsName := by
  refine F.ok scIsName (fun vs H Q E h => ?_) (fun cdv A outer s H vs Q E hr h => ?_)
  · obtain ⟨x, rfl, _⟩ := h
    rfl
  obtain ⟨x, rfl, ⟨h1, h2, h3⟩, q⟩ := h
  have hx : x.length ≤ sizeLine := small (by omega)
  refine ⟨_, (pss_cons (ps_if (PW.pt (pw_or (pt_not (pt_val (pe_callB call_isi (by rfl) T.z_isinstance (by decide +kernel) (pa_cons (pv 0) (pa_cons (pe_bltn (v := .ty "str") (u := .type "str") (by rfl) T.z_str (by decide +kernel) rfl) pa_nil))))) (pw_or1 (pt_not (pt_chain op_le op_le pe_int (pe_callB call_len_str (by rfl) T.z_len PySem.boot_len (pa_cons (pv 0) pa_nil)) pe_int))))) (pss_one (ps_ret pe_bl)) pss_nil) (pss_one (ps_ret (pe_callB (cr_all rfl) (by rfl) T.z_all (by decide +kernel) (pa_cons (pe_lc (own := [("letter", 1)]) (g := gName 1) (tt := tYes) rfl scIsName.nd (pi_str (pv 0)) (blkOk_by (own := [("letter", 1)]) (N := ["thing", "letter"]) (sc := defScope sIsName) (by decide +kernel)) (fun _ _ _ _ _ => (pg_name (i := 1) scIsName.nd rfl (Or.inl rfl))) (fun _ _ _ _ _ => pts_nil) (fun _ _ _ _ _ => (pe_chain op_le_str op_le_str pe_str (pv 1) pe_str))) pa_nil))))), ?_⟩
  refine ⟨_, rfl, _, _, _, _, true, rfl, .ty _, .base (.str _), kit_ty (by decide +kernel), true, rfl, ?_⟩
  refine iteF ?_
  refine ⟨_, rfl, x, rfl, hx, _, _, rfl, rfl, true, bl_t (by omega), ?_⟩
  refine iteT ?_
  refine ⟨_, _, rfl, rfl, true, bl_t (by omega), ?_⟩
  refine iteF ?_
  refine ⟨_, rfl, x, rfl, fun D hD => lc_it walk_str (fun i H' => H' = upd H D (.lst ((List.replicate i true).map V.bl))) rfl (fun _ _ _ _ => trivial) ?_ ?_⟩
  · rintro i v H1 H2 hi rfl ⟨rfl, c, hc, rfl⟩
    have hm : c ∈ x.cps.toList := by
      rw [← Array.getElem?_toList] at hc
      exact List.mem_of_getElem? hc
    obtain ⟨l1, l2⟩ := h3 c hm
    obtain ⟨e1, e2⟩ := letter_ok c (by omega) l1
    refine ⟨rfl, ?_⟩
    unfold tYes
    refine iteT ?_
    refine ⟨_, rfl, _, _, rfl, rfl, true, congrArg V.bl e1, ?_⟩
    refine iteT ?_
    refine ⟨_, _, rfl, rfl, ?_⟩
    rw [e2]
    refine ⟨_, upd_same, ?_, ?_⟩
    · rw [List.length_map, List.length_replicate]
      have : x.cps.size = x.length := rfl
      exact small1000 (by omega)
    · rw [upd_upd, List.replicate_succ', List.map_append]
      rfl
  · rintro H1 rfl
    refine ⟨D, List.replicate x.cps.size true, rfl, SqL.of upd_same, ?_⟩
    have e : (List.replicate x.cps.size true).all id = true := by simp
    rw [e]
    exact q _ (Same.new (Same.refl H) hD _)

theorem map_ref_get {ps : List Addr} {i : Nat} {x : V} (h : (ps.map V.ref)[i]? = some x) : ∃ p, x = .ref p ∧ ps[i]? = some p := by
  rw [List.getElem?_map] at h
  cases e : ps[i]? with
  | none =>
    rw [e] at h
    cases h
  | some z =>
    rw [e] at h
    exact ⟨z, (Option.some.inj h).symm, rfl⟩
theorem fresh_at {α β : Type} {f : α → β} : ∀ {xs : List α} {i : Nat} {x : α}, (xs.map f).Nodup → xs[i]? = some x → ∀ y ∈ xs.take i, f y ≠ f x
  | [], i, x, _, h => by simp at h
  | a :: r, 0, x, _, h => by
    intro y hy
    simp at hy
  | a :: r, i + 1, x, hn, h => by
    intro y hy
    have hn : (f a :: r.map f).Nodup := hn
    obtain ⟨h1, h2⟩ := List.nodup_cons.mp hn
    have h' : r[i]? = some x := by simpa using h
    rw [List.take_succ_cons] at hy
    rcases List.mem_cons.mp hy with rfl | hy
    · intro e
      exact h1 (by rw [e]; exact List.mem_map.mpr ⟨x, List.mem_of_getElem? h', rfl⟩)
    · exact fresh_at h2 h' y hy
theorem nodup_few {α : Type} [DecidableEq α] : ∀ {xs ys : List α}, xs.Nodup → (∀ x ∈ xs, x ∈ ys) → xs.length ≤ ys.length
  | [], ys, _, _ => Nat.zero_le _
  | x :: xs, ys, hn, h => by
    obtain ⟨h1, h2⟩ := List.nodup_cons.mp hn
    have hx := h x List.mem_cons_self
    have := nodup_few (xs := xs) (ys := ys.erase x) h2 (fun z hz => by
      have hzx : z ≠ x := fun e => h1 (e ▸ hz)
      exact (List.mem_erase_of_ne hzx).mpr (h z (List.mem_cons_of_mem _ hz)))
    rw [List.length_erase_of_mem hx] at this
    have hp : 0 < ys.length := List.length_pos_of_mem hx
    rw [List.length_cons]
    omega
theorem words_few {dues : List (Str × PyData)} (hn : (dues.map (·.1)).Nodup) (h : ∀ du ∈ dues, du.1 ∈ leftW) : dues.length ≤ 8 := by
  have := nodup_few (ys := leftW) hn (fun x hx => by
    obtain ⟨du, hdu, rfl⟩ := List.mem_map.mp hx
    exact h du hdu)
  rw [List.length_map] at this
  exact this
theorem ok_isDues {f g : Addr} {fd gd : FuncData} (F : Fun K "is_dues" "is_dues" sIsDues f fd) (T : TP P w K mg aL left) (cD : Cal P w K mg base "is_due" ["thing"] 4 (spIsDue K) g gd) :
    FnOk P w K mg base CX0 5 f fd ["thing"] (spIsDues K) := by
  refine F.ok scIsDues (fun vs H Q E h => ?_) (fun cdv A outer s H vs Q E hr h => ?_)
  · obtain ⟨p, du, rfl, _⟩ := h
    rfl
  obtain ⟨t, dues, rfl, hd, ⟨hn, hok⟩, q⟩ := h
  have hu := hu_of hr
  obtain ⟨ps, hF, hp⟩ := id hd
  refine ⟨_, (pss_cons (ps_if (pt_not (pt_val (pe_callB call_isi (by rfl) T.z_isinstance (by decide +kernel) (pa_cons (pv 0) (pa_cons (pe_bltn (v := .ty "tuple") (u := .type "tuple") (by rfl) T.z_tuple (by decide +kernel) rfl) pa_nil))))) (pss_one (ps_ret pe_bl)) pss_nil) (pss_cons (ps_set (i := 1) scIsDues.nd rfl (Or.inl rfl) pe_dnewK) (pss_cons (ps_for PassesOwn.never rfl (pi_tup (pv 0)) (pg_name (i := 2) scIsDues.nd rfl (Or.inl rfl)) (pss_cons (ps_if (PW.pt (pw_or (pt_not (pt_val (pe_call cD.ok (hr.mono (by decide)) rfl cD.mg cD.kp cD.bd .nil pass0 (pa_cons (pv 2) pa_nil)))) (pw_or1 (pt_cmp (pc_din hu (pe_ix ix_tup (pv 2) pe_int (fun _ _ => rfl)) (pv 1)))))) (pss_one (ps_ret pe_bl)) pss_nil) (pss_one (ps_dput hu (pv 1) (pe_ix ix_tup (pv 2) pe_int (fun _ _ => rfl)) pe_bl rfl)))) (pss_one (ps_ret pe_bl))))), ?_⟩
  refine ⟨_, rfl, _, _, _, _, true, rfl, .ty _, sqt_ty hF.seq, kit_ty (by decide +kernel), true, rfl, ?_⟩
  refine iteF ?_
  intro d hd0
  refine ⟨_, rfl, t, rfl, ⟨_, Same.seqT (Same.new (Same.refl H) hd0 _) hF.seq⟩, for_tup (xs := ps.map V.ref) (fun i σ H' => Same H H' ∧ ∃ (kvs : List (Key × V)) (o : Option V), σ = [some (.ref t), some (.ref d), o] ∧ H' d = some (.dK kvs) ∧ kvs.map (·.1) = (dues.take i).map (fun du => Sum.inr du.1)) ⟨Same.new (Same.refl H) hd0 _, [], none, rfl, upd_same, rfl⟩ ?_ ?_ ?_⟩
  · rintro i σ H' _ ⟨s1, _⟩
    exact Same.seqT s1 hF.seq
  · rintro i x σ H' hi ⟨s1, kvs, o, rfl, hk, he⟩
    obtain ⟨p, rfl, hpi⟩ := map_ref_get hi
    obtain ⟨du, hdu, hat⟩ := paired_get hp hpi
    have hmem := List.mem_of_getElem? hdu
    obtain ⟨hw, hv⟩ := hok du hmem
    obtain ⟨u, hpu, hu2⟩ := id hat
    refine ⟨_, rfl, p, du, rfl, DueAt.same s1 hat, hw, hv, fun H2 s2 => ?_⟩
    refine ⟨true, rfl, ?_⟩
    refine iteF ?_
    have hk2 := s2 _ _ hk
    have hpu2 := Same.seqT s2 (Same.seqT s1 hpu)
    have hnone : valV kvs (Sum.inr du.1 : Key) = none := by
      cases hv0 : valV kvs (Sum.inr du.1 : Key) with
      | none => rfl
      | some v =>
        have hin := valV_in hv0
        rw [he] at hin
        obtain ⟨du2, hd2, ed2⟩ := List.mem_map.mp hin
        exact absurd (Sum.inr.inj ed2) (fresh_at hn hdu du2 hd2)
    refine ⟨_, rfl, p, _, _, _, rfl, rfl, hpu2, rfl, _, rfl, d, _, rfl, DGet.k (k := Sum.inr du.1) hk2, ?_⟩
    rw [hnone]
    refine ⟨false, rfl, iteF ?_⟩
    refine ⟨_, rfl, _, rfl, p, _, _, _, rfl, rfl, hpu2, rfl, d, _, rfl, DPut.k (k := Sum.inr du.1) hk2 ?_, ?_⟩
    · have e : kvs.length = (dues.take i).length := by
        have := congrArg List.length he
        simpa using this
      rw [List.length_take] at e
      have : dues.length ≤ 8 := words_few hn fun du hdu => (hok du hdu).1
      exact small1000 (by omega)
    · refine ⟨fun b o hb => ?_, _, _, rfl, upd_same, ?_⟩
      · have n : b ≠ d := ne_of_none hb hd0
        rw [upd_ne n]
        exact s2 _ _ (s1 _ _ hb)
      · rw [putK_new _ hnone, List.map_append, he, List.take_add_one, hdu, Option.toList_some, List.map_append]
        rfl
  · rintro σ H' ⟨s1, _⟩
    exact q _ s1

end
end Bd
end

section
namespace Bd
open PySem L2
abbrev sInit : Stmt := (inClass (top 33) 0)
theorem scInit : FnScope ["self", "rows", "handing", "at", "row", "name", "above", "dues"] ["self", "rows", "handing"] (defScope sInit) := ⟨rfl, rfl, rfl, by decide +kernel, rfl, by decide +kernel, by decide +kernel⟩
abbrev sNames : Stmt := (inClass (top 33) 2)
theorem scNames : FnScope ["self"] ["self"] (defScope sNames) := ⟨rfl, rfl, rfl, by decide +kernel, rfl, by decide +kernel, by decide +kernel⟩

/-- tuples stay -/
def TK (H H' : Hp) : Prop := (∀ b xs, H b = some (.tup xs) → H' b = some (.tup xs)) ∧ ∀ b o u, H b = some (.frz o u) → H' b = some (.frz o u)
theorem TK.refl (H : Hp) : TK H H := ⟨fun _ _ h => h, fun _ _ _ h => h⟩
theorem TK.trans {H H1 H2 : Hp} (a : TK H H1) (b : TK H1 H2) : TK H H2 := ⟨fun c xs h => b.1 c xs (a.1 c xs h), fun c o u h => b.2 c o u (a.2 c o u h)⟩
theorem TK.of {H H1 : Hp} (a : Same H H1) : TK H H1 := ⟨fun c xs h => a _ _ h, fun c o u h => a _ _ h⟩
theorem TK.kept {H H1 : Hp} {p : Addr} {xs : List V} (h : H p = some (.lst xs)) (a : Kept p H H1) : TK H H1 :=
  ⟨fun c ys e => a c _ (ne_of e h (by intro z; cases z)) e, fun c o u e => a c _ (ne_of e h (by intro z; cases z)) e⟩
theorem TK.lst {H : Hp} {p : Addr} {xs : List V} (h : H p = some (.lst xs)) (o : HO) : TK H (upd H p o) :=
  ⟨fun c ys e => by rw [upd_ne (ne_of e h (by intro z; cases z))]; exact e, fun c v u e => by rw [upd_ne (ne_of e h (by intro z; cases z))]; exact e⟩
theorem TK.dk {H : Hp} {p : Addr} {xs : List (Key × V)} (h : H p = some (.dK xs)) (o : HO) : TK H (upd H p o) :=
  ⟨fun c ys e => by rw [upd_ne (ne_of e h (by intro z; cases z))]; exact e, fun c v u e => by rw [upd_ne (ne_of e h (by intro z; cases z))]; exact e⟩
theorem TK.ins {H : Hp} {p C dx : Addr} {xs : List (Str × V)} (h : H p = some (.ins C dx xs)) (o : HO) : TK H (upd H p o) :=
  ⟨fun c ys e => by rw [upd_ne (ne_of e h (by intro z; cases z))]; exact e, fun c v u e => by rw [upd_ne (ne_of e h (by intro z; cases z))]; exact e⟩
theorem TK.new {H : Hp} {p : Addr} (h : H p = none) (o : HO) : TK H (upd H p o) := TK.of (Same.new (Same.refl H) h o)
section
variable {K : PySem.W.Frag}
theorem TK.seqT {H H' : Hp} (e : TK H H') {a : Addr} {xs : List V} (h : SqT K H a xs) : SqT K H' a xs := by
  rcases h with (h | ⟨o, h⟩) | h
  · exact .inl (.inl (e.1 _ _ h))
  · exact .inl (.inr ⟨o, e.2 _ _ _ h⟩)
  · exact .inr h
theorem TK.frT {H H' : Hp} (e : TK H H') {a : Addr} {xs : List V} (h : FrT H a xs) : FrT H' a xs := by
  obtain ⟨o, h1, h2⟩ := h
  exact ⟨o, h1, e.2 _ _ _ h2⟩
theorem dp_ofints {H : Hp} : ∀ xs : List Int, DpAll K H (xs.map V.int) (xs.map .int)
  | [] => .nil
  | x :: xs => .cons (.int x) (dp_ofints xs)
theorem TK.val {H H' : Hp} (e : TK H H') {x : Str} {v : V} {d : PyData} (hv : ValOk x d) (h : Dp K H v d) : Dp K H' v d := by
  cases hv with
  | amt =>
    obtain ⟨a, rfl, ha⟩ := dp_two h
    exact .tup (e.seqT ha) (.cons (.int _) (.cons (.int _) .nil))
  | endl =>
    cases h
    exact .str _
  | none =>
    cases h
    exact .non
  | set =>
    obtain ⟨a, ys, rfl, ha, hys⟩ := dp_tup h
    cases dp_ints hys
    exact .tup (e.seqT ha) (dp_ofints _)
  | alone =>
    cases h
    exact .int _
theorem paired_monoM {α β : Type} {F G : α → β → Prop} : ∀ {xs : List α} {ys : List β}, (∀ a b, b ∈ ys → F a b → G a b) → Paired F xs ys → Paired G xs ys
  | _, _, _, .nil => .nil
  | _, _, h, .cons a b => .cons (h _ _ List.mem_cons_self a) (paired_monoM (fun x y hy z => h x y (List.mem_cons_of_mem _ hy) z) b)
theorem TK.dues {H H' : Hp} (e : TK H H') {t : Addr} {dues : List (Str × PyData)} (ok : DuesOk dues) (h : DuesAt K H t dues) : DuesAt K H' t dues := by
  obtain ⟨ps, h1, h2⟩ := h
  refine ⟨ps, e.frT h1, paired_monoM (fun p du hm z => ?_) h2⟩
  obtain ⟨u, h3, h4⟩ := z
  exact ⟨u, e.seqT h3, e.val (ok.2 du hm).2 h4⟩
theorem TK.row {H H' : Hp} (e : TK H H') {v : V} {r : RowM} (ok : DuesOk r.dues) (h : RowAt K H v r) : RowAt K H' v r := by
  obtain ⟨a, t, rfl, h1, h2⟩ := h
  exact ⟨a, t, rfl, e.seqT h1, e.dues ok h2⟩
end
def leftD : List (Str × PyData) := [("min", .tuple [.int 0, .int 1]), ("low", .tuple [.int 0, .int 1]), ("max", .str "endless"), ("quota", .str "endless"), ("burst", .tuple [.int 0, .int 1]), ("tops", .str "endless"), ("sets", .none), ("alone", .int 0)]
def dueOf (dues : List (Str × PyData)) (x : Str) : Option PyData := (dues.find? fun du => decide (du.1 = x)).map (·.2)
def fullD (dues : List (Str × PyData)) : List (Str × PyData) := leftD.map fun wd => (wd.1, (dueOf dues wd.1).getD wd.2)
def FullAt (K : PySem.W.Frag) (H : Hp) (d : Addr) (dues : List (Str × PyData)) : Prop := ∃ kvs : List (Key × V), H d = some (.dK kvs) ∧ Paired (fun kv (wd : Str × PyData) => kv.1 = (Sum.inr wd.1 : Key) ∧ Dp K H kv.2 wd.2) kvs (fullD dues)
theorem leftD_ok : ∀ wd ∈ leftD, wd.1 ∈ leftW ∧ ValOk wd.1 wd.2 := by
  intro wd h
  have z1 : ValOk "min" (.tuple [.int ((0 : Nat) : Int), .int ((1 : Nat) : Int)]) := .amt (by decide +kernel) (Nat.pow_pos (by decide)) (by decide) (Nat.one_lt_two_pow (by decide)) (by decide)
  have z2 : ValOk "low" (.tuple [.int ((0 : Nat) : Int), .int ((1 : Nat) : Int)]) := .amt (by decide +kernel) (Nat.pow_pos (by decide)) (by decide) (Nat.one_lt_two_pow (by decide)) (by decide)
  have z3 : ValOk "burst" (.tuple [.int ((0 : Nat) : Int), .int ((1 : Nat) : Int)]) := .amt (by decide +kernel) (Nat.pow_pos (by decide)) (by decide) (Nat.one_lt_two_pow (by decide)) (by decide)
  simp only [leftD, List.mem_cons, List.not_mem_nil, or_false] at h
  rcases h with rfl | rfl | rfl | rfl | rfl | rfl | rfl | rfl
  · exact ⟨by decide +kernel, z1⟩
  · exact ⟨by decide +kernel, z2⟩
  · exact ⟨by decide +kernel, .endl (by decide +kernel)⟩
  · exact ⟨by decide +kernel, .endl (by decide +kernel)⟩
  · exact ⟨by decide +kernel, z3⟩
  · exact ⟨by decide +kernel, .endl (by decide +kernel)⟩
  · exact ⟨by decide +kernel, .none⟩
  · exact ⟨by decide +kernel, .alone (.inl rfl)⟩
theorem dueOf_mem {dues : List (Str × PyData)} {x : Str} {d : PyData} (h : dueOf dues x = some d) : (x, d) ∈ dues := by
  unfold dueOf at h
  cases e : dues.find? fun du => decide (du.1 = x) with
  | none =>
    rw [e] at h
    cases h
  | some du =>
    rw [e] at h
    have h1 := List.mem_of_find?_eq_some e
    have h2 : du.1 = x := by
      have z := List.find?_some e
      simpa using z
    cases h
    rw [← h2]
    exact h1
theorem fullD_ok {dues : List (Str × PyData)} (ok : DuesOk dues) : ∀ wd ∈ fullD dues, ValOk wd.1 wd.2 := by
  intro wd h
  obtain ⟨ld, hl, rfl⟩ := List.mem_map.mp h
  show ValOk ld.1 ((dueOf dues ld.1).getD ld.2)
  cases e : dueOf dues ld.1 with
  | none => exact (leftD_ok ld hl).2
  | some d => exact (ok.2 _ (dueOf_mem e)).2
theorem TK.full {K : PySem.W.Frag} {H H' : Hp} (e : TK H H') {d : Addr} {dues : List (Str × PyData)} (ok : DuesOk dues) (hd : H' d = H d) (h : FullAt K H d dues) : FullAt K H' d dues := by
  obtain ⟨kvs, h1, h2⟩ := h
  exact ⟨kvs, hd.trans h1, paired_monoM (fun kv wd hm z => ⟨z.1, e.val (fullD_ok ok wd hm) z.2⟩) h2⟩
/-! ### what merging makes -/
theorem mergeK_app : ∀ (more acc : List (Key × V)), ((acc ++ more).map (·.1)).Nodup → mergeK acc more = acc ++ more
  | [], acc, _ => by simp [mergeK]
  | p :: r, acc, h => by
    have hn : valV acc p.1 = none := by
      cases e : valV acc p.1 with
      | none => rfl
      | some v =>
        have h1 := valV_in e
        rw [List.map_append, List.nodup_append] at h
        exact absurd rfl (h.2.2 p.1 h1 p.1 (by simp))
    have h2 : mergeK acc (p :: r) = mergeK (putK acc p.1 p.2) r := rfl
    rw [h2, putK_new _ hn, mergeK_app r (acc ++ [(p.1, p.2)]) (by simpa using h)]
    simp
theorem mergeK_over : ∀ (more kvs : List (Key × V)), (more.map (·.1)).Nodup → (∀ p ∈ more, p.1 ∈ kvs.map (·.1)) → mergeK kvs more = kvs.map fun kv => (kv.1, (valV more kv.1).getD kv.2)
  | [], kvs, _, _ => by simp [mergeK, valV]
  | p :: r, kvs, hn, hm => by
    have hn : (p.1 :: r.map (·.1)).Nodup := hn
    obtain ⟨h1, h2⟩ := List.nodup_cons.mp hn
    have hp : (kvs.any fun kv => decide (kv.1 = p.1)) = true := by
      obtain ⟨q, hq, e⟩ := List.mem_map.mp (hm p List.mem_cons_self)
      exact List.any_eq_true.mpr ⟨q, hq, decide_eq_true e⟩
    have hput : putK kvs p.1 p.2 = kvs.map (fun kv => if kv.1 = p.1 then (kv.1, p.2) else kv) := by
      unfold putK
      rw [if_pos hp]
    have hkeys : (putK kvs p.1 p.2).map (·.1) = kvs.map (·.1) := by
      rw [hput, List.map_map]
      refine List.map_congr_left fun kv _ => ?_
      show (if kv.1 = p.1 then (kv.1, p.2) else kv).1 = kv.1
      split <;> rfl
    have e : mergeK kvs (p :: r) = mergeK (putK kvs p.1 p.2) r := rfl
    rw [e, mergeK_over r (putK kvs p.1 p.2) h2 (fun q hq => by rw [hkeys]; exact hm q (List.mem_cons_of_mem _ hq)), hput, List.map_map]
    refine List.map_congr_left fun kv _ => ?_
    show ((if kv.1 = p.1 then (kv.1, p.2) else kv).1, (valV r (if kv.1 = p.1 then (kv.1, p.2) else kv).1).getD (if kv.1 = p.1 then (kv.1, p.2) else kv).2) = (kv.1, (valV (p :: r) kv.1).getD kv.2)
    by_cases c : kv.1 = p.1
    · rw [if_pos c]
      have hv : valV r kv.1 = none := by
        cases z : valV r kv.1 with
        | none => rfl
        | some v =>
          have z2 := valV_in z
          rw [c] at z2
          exact absurd z2 h1
      show (kv.1, (valV r kv.1).getD p.2) = (kv.1, (valV (p :: r) kv.1).getD kv.2)
      rw [hv, valV_pos c.symm]
      rfl
    · rw [if_neg c, valV_neg (fun z => c z.symm)]
def PV (K : PySem.W.Frag) (H : Hp) (kv : Key × V) (wd : Str × PyData) : Prop := kv.1 = (Sum.inr wd.1 : Key) ∧ Dp K H kv.2 wd.2
theorem val_due {K : PySem.W.Frag} {H : Hp} (x : Str) : ∀ {dk : List (Key × V)} {dues : List (Str × PyData)}, Paired (PV K H) dk dues →
    (valV dk (Sum.inr x : Key) = none ∧ dueOf dues x = none) ∨ ∃ v d, valV dk (Sum.inr x : Key) = some v ∧ dueOf dues x = some d ∧ Dp K H v d
  | _, _, .nil => .inl ⟨rfl, rfl⟩
  | _, _, .cons (a := kv) (b := du) h t => by
    by_cases e : du.1 = x
    · refine .inr ⟨kv.2, du.2, valV_pos (by rw [h.1, e]), ?_, h.2⟩
      unfold dueOf
      rw [List.find?_cons_of_pos (by simpa using e)]
      rfl
    · have e1 : ¬ kv.1 = (Sum.inr x : Key) := fun z => e (Sum.inr.inj (h.1.symm.trans z))
      have e2 : ∀ ds, dueOf (du :: ds) x = dueOf ds x := fun ds => by
        unfold dueOf
        rw [List.find?_cons_of_neg (by simpa using e)]
      rw [valV_neg e1, e2]
      exact val_due x t
theorem paired_map {α β γ δ : Type} {F : α → β → Prop} {G : γ → δ → Prop} {f : α → γ} {g : β → δ} (h : ∀ a b, F a b → G (f a) (g b)) : ∀ {xs : List α} {ys : List β}, Paired F xs ys → Paired G (xs.map f) (ys.map g)
  | _, _, .nil => .nil
  | _, _, .cons a b => .cons (h _ _ a) (paired_map h b)
theorem pv_keys {K : PySem.W.Frag} {H : Hp} : ∀ {dk : List (Key × V)} {dues : List (Str × PyData)}, Paired (PV K H) dk dues → dk.map (·.1) = dues.map fun du => (Sum.inr du.1 : Key)
  | _, _, .nil => rfl
  | _, _, .cons a b => by
    rw [List.map_cons, List.map_cons, a.1, pv_keys b]
theorem nodup_inr {xs : List Str} (h : xs.Nodup) : (xs.map fun x => (Sum.inr x : Key)).Nodup := by
  induction xs with
  | nil => exact List.nodup_nil
  | cons x r ih =>
    obtain ⟨h1, h2⟩ := List.nodup_cons.mp h
    rw [List.map_cons]
    refine List.nodup_cons.mpr ⟨fun m => ?_, ih h2⟩
    obtain ⟨y, hy, e⟩ := List.mem_map.mp m
    exact h1 (Sum.inr.inj e ▸ hy)
theorem leftD_words : leftD.map (·.1) = leftW := by decide +kernel
theorem leftW_nd : leftW.Nodup := by decide +kernel
theorem full_of {K : PySem.W.Frag} {H : Hp} {left dk : List (Key × V)} {dues : List (Str × PyData)} (hl : Paired (PV K H) left leftD) (hd : Paired (PV K H) dk dues) (ok : DuesOk dues) :
    Paired (PV K H) (mergeK (mergeK [] left) (mergeK [] dk)) (fullD dues) := by
  have kl : left.map (·.1) = leftW.map fun x => (Sum.inr x : Key) := by
    rw [pv_keys hl, ← leftD_words, List.map_map]
    rfl
  have kd : dk.map (·.1) = (dues.map (·.1)).map fun x => (Sum.inr x : Key) := by
    rw [pv_keys hd, List.map_map]
    rfl
  have nl : (left.map (·.1)).Nodup := by
    rw [kl]
    exact nodup_inr leftW_nd
  have nd : (dk.map (·.1)).Nodup := by
    rw [kd]
    exact nodup_inr ok.1
  rw [mergeK_app left [] (by simpa using nl), mergeK_app dk [] (by simpa using nd), List.nil_append, List.nil_append, mergeK_over dk left nd ?_]
  · unfold fullD
    refine paired_map (fun kv wd h => ?_) hl
    refine ⟨h.1, ?_⟩
    show Dp K H ((valV dk kv.1).getD kv.2) ((dueOf dues wd.1).getD wd.2)
    rw [h.1]
    rcases val_due wd.1 hd with ⟨e1, e2⟩ | ⟨v, d, e1, e2, e3⟩
    · rw [e1, e2]
      exact h.2
    · rw [e1, e2]
      exact e3
  · intro p hp
    have hm : p.1 ∈ dk.map (·.1) := List.mem_map.mpr ⟨p, hp, rfl⟩
    rw [kd] at hm
    obtain ⟨x, hx, e⟩ := List.mem_map.mp hm
    obtain ⟨du, hdu, rfl⟩ := List.mem_map.mp hx
    rw [kl, ← e]
    exact List.mem_map.mpr ⟨du.1, (ok.2 du hdu).1, rfl⟩
theorem dk_of_dues {K : PySem.W.Frag} {H : Hp} : ∀ {ps : List Addr} {dues : List (Str × PyData)}, Paired (DueAt K H) ps dues → ∃ dk : List (Key × V), Paired (fun p kv => SqT K H p [kV kv.1, kv.2]) ps dk ∧ Paired (PV K H) dk dues
  | _, _, .nil => ⟨[], .nil, .nil⟩
  | _, _, .cons (b := du) ⟨u, h1, h2⟩ t => by
    obtain ⟨dk, h3, h4⟩ := dk_of_dues t
    exact ⟨(Sum.inr du.1, u) :: dk, .cons h1 h3, .cons ⟨rfl, h2⟩ h4⟩
/-- the class as the top has made it -/
structure TC (K : PySem.W.Frag) (mg : Str → Option Value) (C : Addr) : Prop where
  cl : Cls K C
  n_order : NoAttr K C "order"
  n_parents : NoAttr K C "parents"
  n_kids : NoAttr K C "kids"
  n_table : NoAttr K C "table"
  n_hands : NoAttr K C "hands"
  g_Tree : mg "Tree" = some (.ref C)
def tf4 (po pp pk pt : Addr) : List (Str × V) := [("order", .ref po), ("parents", .ref pp), ("kids", .ref pk), ("table", .ref pt)]
def tf5 (po pp pk pt : Addr) (b : Bool) : List (Str × V) := [("order", .ref po), ("parents", .ref pp), ("kids", .ref pk), ("table", .ref pt), ("hands", .bl b)]
def kidsOf (rows : List RowM) (k : Key) : List Str := (rows.filter fun r => decide ((Sum.inr r.above : Key) = k)).map (·.name)
theorem kids_le (rows : List RowM) (k : Key) : (kidsOf rows k).length ≤ rows.length := by
  unfold kidsOf
  rw [List.length_map]
  exact List.length_filter_le _ _
theorem kids_snoc (rows : List RowM) (r : RowM) (k : Key) : kidsOf (rows ++ [r]) k = kidsOf rows k ++ (if (Sum.inr r.above : Key) = k then [r.name] else []) := by
  unfold kidsOf
  rw [List.filter_append, List.map_append]
  by_cases c : (Sum.inr r.above : Key) = k
  · rw [if_pos c, List.filter_cons_of_pos (by simpa using c)]
    rfl
  · rw [if_neg c, List.filter_cons_of_neg (by simpa using c)]
    rfl
theorem kids_none {rows : List RowM} {x : Str} (h : ∀ q ∈ rows, q.above ≠ x) : kidsOf rows (Sum.inr x) = [] := by
  unfold kidsOf
  rw [List.filter_eq_nil_iff.mpr fun q hq => by
    have := h q hq
    simpa using this]
  rfl
def leafB (rows : List RowM) (r : RowM) : Bool := !(rows.any fun q => decide (q.above = r.name))
def leavesOf (rows : List RowM) : List Str := (rows.filter (leafB rows)).map (·.name)
/-- the children of each group -/
def KidsAt (H : Hp) (pk : Addr) (rows : List RowM) : Prop := ∃ ks : List (Key × V), H pk = some (.dK ks) ∧ ks.map (·.1) = (Sum.inr "" : Key) :: rows.map (fun r => (Sum.inr r.name : Key)) ∧ ∀ kv ∈ ks, ∃ l, kv.2 = .ref l ∧ H l = some (.lst ((kidsOf rows kv.1).map .str))
/-- a tree that is being made, behind what stood in H0 -/
structure PartAt (K : PySem.W.Frag) (H0 H : Hp) (C p dx po pp pk pt : Addr) (rows : List RowM) (tk : List (Key × V)) : Prop where
  same : Same H0 H
  n0 : H0 p = none ∧ H0 po = none ∧ H0 pp = none ∧ H0 pk = none ∧ H0 pt = none
  ob : H p = some (.ins C dx (tf4 po pp pk pt))
  or_ : H po = some (.lst (rows.map fun r => .str r.name))
  pa : H pp = some (.dK (rows.map fun r => ((Sum.inr r.name : Key), V.str r.above)))
  kd : ∃ ks, H pk = some (.dK ks) ∧ ks.map (·.1) = (Sum.inr "" : Key) :: rows.map (fun r => (Sum.inr r.name : Key)) ∧ (∀ kv ∈ ks, ∃ l, kv.2 = .ref l ∧ H l = some (.lst ((kidsOf rows kv.1).map .str)) ∧ l ≠ po ∧ H0 l = none) ∧ ∀ kv ∈ ks, ∀ kv2 ∈ ks, (kv.1 = kv2.1 ↔ kv.2 = kv2.2)
  tb : H pt = some (.dK tk)
  td : Paired (fun (kv : Key × V) (r : RowM) => kv.1 = (Sum.inr r.name : Key) ∧ ∃ d, kv.2 = .ref d ∧ H0 d = none ∧ d ≠ pp ∧ d ≠ pk ∧ d ≠ pt ∧ FullAt K H d r.dues) tk rows
  ne : pp ≠ pk ∧ pp ≠ pt ∧ pk ≠ pt
theorem FullAt.same {K : PySem.W.Frag} {H H' : Hp} (e : Same H H') {d : Addr} {dues : List (Str × PyData)} (h : FullAt K H d dues) : FullAt K H' d dues := by
  obtain ⟨kvs, h1, h2⟩ := h
  exact ⟨kvs, e _ _ h1, paired_mono (fun kv wd z => ⟨z.1, dp_same e _ _ z.2⟩) h2⟩
theorem PartAt.grow {K : PySem.W.Frag} {H0 H H' : Hp} {C p dx po pp pk pt : Addr} {rows : List RowM} {tk : List (Key × V)} (h : PartAt K H0 H C p dx po pp pk pt rows tk) (e : Same H H') : PartAt K H0 H' C p dx po pp pk pt rows tk where
  same := h.same.trans e
  n0 := h.n0
  ob := e _ _ h.ob
  or_ := e _ _ h.or_
  pa := e _ _ h.pa
  kd := by
    obtain ⟨ks, h1, h2, h3, h4⟩ := h.kd
    exact ⟨ks, e _ _ h1, h2, fun kv hk => let ⟨l, a, b, c, d⟩ := h3 kv hk; ⟨l, a, e _ _ b, c, d⟩, h4⟩
  tb := e _ _ h.tb
  td := paired_mono (fun kv r z => let ⟨a, d, b, c, d1, d2, d3, f⟩ := z; ⟨a, d, b, c, d1, d2, d3, FullAt.same e f⟩) h.td
  ne := h.ne
/-- a row that may stand behind others -/
def StandOk (rows : List RowM) (r : RowM) : Prop := (∀ q ∈ rows, q.name ≠ r.name) ∧ (r.above = "" ∨ ∃ q ∈ rows, q.name = r.above ∧ dueOf (fullD q.dues) "tops" = some (.str "endless"))
def spMayStand (K : PySem.W.Frag) (C : Addr) : Sp := fun vs H Q _ => ∃ (H0 : Hp) (p dx po pp pk pt : Addr) (rows : List RowM) (tk : List (Key × V)) (v : V) (r : RowM), vs = [.ref p, v] ∧ PartAt K H0 H C p dx po pp pk pt rows tk ∧ RowAt K H v r ∧
  StandOk rows r ∧ (rows.map (·.name)).Nodup ∧ (∀ q ∈ rows, q.name ≠ "") ∧ ∀ H', Same H H' → Q (.bl true) H'
end Bd
end

section
namespace Bd
open PySem L2
section
variable {P : Program} {w : World} {K : PySem.W.Frag} {mg : Str → Option Value} {base : Heap} {aL C : Addr} {left : List (Key × V)}
theorem ok_isGroupRow {f g e : Addr} {fd gd ed : FuncData} (F : Fun K "is_group_row" "is_group_row" sIsGroupRow f fd) (T : TP P w K mg aL left) (cN : Cal P w K mg base "is_name" ["thing"] 1 spIsName g gd) (cD : Cal P w K mg base "is_dues" ["thing"] 5 (spIsDues K) e ed) :
    FnOk P w K mg base CX0 6 f fd ["thing"] (spIsGroupRow K) := by
  refine F.ok scIsGroupRow (fun vs H Q E h => ?_) (fun cdv A outer s H vs Q E hr h => ?_)
  · obtain ⟨p, du, rfl, _⟩ := h
    rfl
  obtain ⟨v, r, rfl, hrow, hn, hd, q⟩ := h
  obtain ⟨a, t, rfl, ha, ht⟩ := id hrow
  refine ⟨_, (pss_cons (ps_if (PW.pt (pw_or (pt_not (pt_val (pe_callB call_isi (by rfl) T.z_isinstance (by decide +kernel) (pa_cons (pv 0) (pa_cons (pe_bltn (v := .ty "tuple") (u := .type "tuple") (by rfl) T.z_tuple (by decide +kernel) rfl) pa_nil))))) (pw_or1 (pt_cmpR op_ne (pe_callB call_len_seq (by rfl) T.z_len PySem.boot_len (pa_cons (pv 0) pa_nil)) pe_int (nomark _))))) (pss_one (ps_ret pe_bl)) pss_nil) (pss_cons (ps_asg (pv 0) (pg_tup (by rfl) (pgs_cons (pg_name (i := 1) scIsGroupRow.nd rfl (Or.inl rfl)) (pgs_cons (pg_name (i := 2) scIsGroupRow.nd rfl (Or.inl rfl)) (pgs_cons (pg_name (i := 3) scIsGroupRow.nd rfl (Or.inl rfl)) pgs_nil))))) (pss_one (ps_ret (pe_and (pe_call cN.ok (hr.mono (by decide)) rfl cN.mg cN.kp cN.bd .nil pass0 (pa_cons (pv 1) pa_nil)) (pe_and (pe_callB call_isi (by rfl) T.z_isinstance (by decide +kernel) (pa_cons (pv 2) (pa_cons (pe_bltn (v := .ty "str") (u := .type "str") (by rfl) T.z_str (by decide +kernel) rfl) pa_nil))) (pe_one (pe_call cD.ok (hr.mono (by decide)) rfl cD.mg cD.kp cD.bd .nil pass0 (pa_cons (pv 3) pa_nil))))))))), ?_⟩
  refine ⟨_, rfl, _, _, _, _, true, rfl, .ty _, sqt_ty ha, kit_ty (by decide +kernel), true, rfl, ?_⟩
  refine iteF ?_
  refine ⟨_, rfl, a, _, rfl, .inr ha, rfl, _, rfl, ?_⟩
  refine iteNS rfl ?_
  refine ⟨_, rfl, a, _, rfl, ha, rfl, ?_⟩
  refine ⟨_, _, rfl, _, _, rfl, _, _, rfl, rfl, ?_⟩
  refine ⟨_, rfl, r.name, rfl, hn, fun H1 s1 => ?_⟩
  refine ⟨true, rfl, iteT ?_⟩
  refine ⟨_, rfl, _, _, _, _, true, rfl, .ty _, .base (.str _), kit_ty (by decide +kernel), true, rfl, ?_⟩
  refine iteT ?_
  exact ⟨_, rfl, t, r.dues, rfl, DuesAt.same s1 ht, hd, fun H2 s2 => q _ (s1.trans s2)⟩

theorem keys_none {kvs : List (Key × V)} {k : Key} (h : ¬ k ∈ kvs.map (·.1)) : valV kvs k = none := by
  cases e : valV kvs k with
  | none => rfl
  | some v => exact absurd (valV_in e) h
theorem td_keys {F : Key × V → RowM → Prop} (hF : ∀ kv r, F kv r → kv.1 = (Sum.inr r.name : Key)) : ∀ {tk : List (Key × V)} {rows : List RowM}, Paired F tk rows → tk.map (·.1) = rows.map fun r => (Sum.inr r.name : Key)
  | _, _, .nil => rfl
  | _, _, .cons a b => by
    rw [List.map_cons, List.map_cons, hF _ _ a, td_keys hF b]
theorem paired_of {α β : Type} {F : α → β → Prop} : ∀ {xs : List α} {ys : List β}, Paired F xs ys → ∀ y ∈ ys, ∃ x ∈ xs, F x y
  | _, _, .nil, y, h => by cases h
  | _, _, .cons a b, y, h => by
    rcases List.mem_cons.mp h with rfl | h
    · exact ⟨_, List.mem_cons_self, a⟩
    · obtain ⟨x, h1, h2⟩ := paired_of b y h
      exact ⟨x, List.mem_cons_of_mem _ h1, h2⟩
theorem val_nd : ∀ {kvs : List (Key × V)}, (kvs.map (·.1)).Nodup → ∀ p ∈ kvs, valV kvs p.1 = some p.2
  | [], _, p, h => by cases h
  | a :: r, hn, p, h => by
    have hn : (a.1 :: r.map (·.1)).Nodup := hn
    obtain ⟨h1, h2⟩ := List.nodup_cons.mp hn
    rcases List.mem_cons.mp h with rfl | h
    · exact valV_pos rfl
    · have e : ¬ a.1 = p.1 := fun z => h1 (by rw [z]; exact List.mem_map.mpr ⟨p, h, rfl⟩)
      rw [valV_neg e]
      exact val_nd h2 p h
theorem tf4_order {po pp pk pt : Addr} : (tf4 po pp pk pt).lookup ("order" : Str) = some (.ref po) := by
  simp only [tf4, List.lookup]
  rfl
theorem tf4_parents {po pp pk pt : Addr} : (tf4 po pp pk pt).lookup ("parents" : Str) = some (.ref pp) := by
  simp only [tf4, List.lookup]
  rfl
theorem tf4_kids {po pp pk pt : Addr} : (tf4 po pp pk pt).lookup ("kids" : Str) = some (.ref pk) := by
  simp only [tf4, List.lookup]
  rfl
theorem tf4_table {po pp pk pt : Addr} : (tf4 po pp pk pt).lookup ("table" : Str) = some (.ref pt) := by
  simp only [tf4, List.lookup]
  rfl
theorem tf5_order {po pp pk pt : Addr} {b : Bool} : (tf5 po pp pk pt b).lookup ("order" : Str) = some (.ref po) := by
  simp only [tf5, List.lookup]
  rfl
theorem tf5_parents {po pp pk pt : Addr} {b : Bool} : (tf5 po pp pk pt b).lookup ("parents" : Str) = some (.ref pp) := by
  simp only [tf5, List.lookup]
  rfl
theorem tf5_kids {po pp pk pt : Addr} {b : Bool} : (tf5 po pp pk pt b).lookup ("kids" : Str) = some (.ref pk) := by
  simp only [tf5, List.lookup]
  rfl
theorem tf5_table {po pp pk pt : Addr} {b : Bool} : (tf5 po pp pk pt b).lookup ("table" : Str) = some (.ref pt) := by
  simp only [tf5, List.lookup]
  rfl
theorem tf5_hands {po pp pk pt : Addr} {b : Bool} : (tf5 po pp pk pt b).lookup ("hands" : Str) = some (.bl b) := by
  simp only [tf5, List.lookup]
  rfl
theorem ok_mayStand {f g : Addr} {fd gd : FuncData} (F : Fun K "may_stand" "may_stand" sMayStand f fd) (T : TP P w K mg aL left) (TCl : TC K mg C) (cE : Cal P w K mg base "is_endless" ["thing"] 1 (spIsEndless K) g gd) :
    FnOk P w K mg base CX0 2 f fd ["tree", "row"] (spMayStand K C) := by
  refine F.ok scMayStand (fun vs H Q E h => ?_) (fun cdv A outer s H vs Q E hr h => ?_)
  · obtain ⟨H0, p, dx, po, pp, pk, pt, rows, tk, v, r, rfl, _⟩ := h
    rfl
  obtain ⟨H0, p, dx, po, pp, pk, pt, rows, tk, v, r, rfl, hp, hrow, hst, hnd, hne, q⟩ := h
  have hu := hu_of hr
  obtain ⟨a, t, rfl, ha, ht⟩ := id hrow
  refine ⟨_, (pss_cons (ps_asg (pv 1) (pg_tup (by rfl) (pgs_cons (pg_name (i := 2) scMayStand.nd rfl (Or.inl rfl)) (pgs_cons (pg_name (i := 3) scMayStand.nd rfl (Or.inl rfl)) (pgs_cons (pg_name (i := 4) scMayStand.nd rfl (Or.inl rfl)) pgs_nil))))) (pss_cons (ps_if (PW.pt (pw_or (pt_cmp (pc_din hu (pv 2) (pe_fld (pv 0) rfl))) (pw_or1 (pt_cmp (pc_dnotin hu (pv 3) (pe_fld (pv 0) rfl)))))) (pss_one (ps_ret pe_bl)) pss_nil) (pss_one (ps_ret (pe_or (pe_cmpR op_eq (pv 3) pe_str (nomark _)) (pe_one (pe_call cE.ok (hr.mono (by decide)) rfl cE.mg cE.kp cE.bd .nil pass0 (pa_cons (pe_dget hu (pe_dget hu (pe_fld (pv 0) rfl) (pv 3) (fun _ _ => rfl)) pe_str (fun _ _ => rfl)) pa_nil)))))))), ?_⟩
  refine ⟨_, rfl, a, _, rfl, ha, rfl, ?_⟩
  refine ⟨_, _, rfl, _, _, rfl, _, _, rfl, rfl, ?_⟩
  have e1 : valV (rows.map fun q => ((Sum.inr q.name : Key), V.str q.above)) (Sum.inr r.name) = none := by
    refine keys_none fun m => ?_
    rw [List.map_map] at m
    obtain ⟨q, hq, e⟩ := List.mem_map.mp m
    exact hst.1 q hq (Sum.inr.inj e)
  obtain ⟨ks, k1, k2, k3⟩ := hp.kd
  have e2 : (valV ks (Sum.inr r.above : Key)).isSome = true := by
    refine val_some ?_
    rw [k2]
    rcases hst.2 with e | ⟨q, hq, e, _⟩
    · rw [e]
      exact List.mem_cons_self
    · exact List.mem_cons_of_mem _ (List.mem_map.mpr ⟨q, hq, by rw [e]⟩)
  refine ⟨_, rfl, _, rfl, p, C, dx, _, _, rfl, hp.ob, TCl.cl, TCl.n_parents, tf4_parents, pp, _, rfl, DGet.k (k := Sum.inr r.name) hp.pa, ?_⟩
  rw [e1]
  refine ⟨false, rfl, iteF ?_⟩
  refine ⟨_, rfl, _, rfl, p, C, dx, _, _, rfl, hp.ob, TCl.cl, TCl.n_kids, tf4_kids, pk, _, rfl, DGet.k (k := Sum.inr r.above) k1, ?_⟩
  rw [e2]
  refine ⟨false, rfl, iteF ?_⟩
  refine ⟨_, rfl, rfl, ?_⟩
  by_cases c : r.above = ""
  · refine ⟨true, congrArg V.bl (decide_eq_true (congrArg V.str c)), iteT ?_⟩
    exact q _ (Same.refl H)
  · refine ⟨false, congrArg V.bl (decide_eq_false fun z => c (V.str.inj z)), iteF ?_⟩
    obtain ⟨qr, hq, hqn, hq2⟩ := hst.2.resolve_left c
    obtain ⟨kv, hkv, hk1, d, hk2, hd0, _, _, _, fk, fk1, fk2⟩ := paired_of hp.td qr hq
    have nt : (tk.map (·.1)).Nodup := by
      rw [td_keys (fun _ _ z => z.1) hp.td]
      have := nodup_inr hnd
      rw [List.map_map] at this
      exact this
    have g1 : valV tk (Sum.inr r.above : Key) = some (.ref d) := by
      have := val_nd nt kv hkv
      rw [hk1, hqn, hk2] at this
      exact this
    have g2 : valV fk (Sum.inr "tops" : Key) = some (.str "endless") := by
      rcases val_due "tops" fk2 with ⟨_, z⟩ | ⟨v, d2, z1, z2, z3⟩
      · rw [z] at hq2
        cases hq2
      · rw [hq2] at z2
        cases z2
        rw [dp_str z3] at z1
        exact z1
    refine ⟨_, rfl, p, C, dx, _, _, rfl, hp.ob, TCl.cl, TCl.n_table, tf4_table, _, rfl, pt, _, rfl, ?_, d, _, rfl, ?_, _, rfl, .inl ⟨rfl, q _ (Same.refl H)⟩⟩
    · have := DGet.k (k := Sum.inr r.above) hp.tb
      rw [g1] at this
      exact this
    · have := DGet.k (k := Sum.inr ("tops" : Str)) fk1
      rw [g2] at this
      exact this

end
end Bd
end

section
namespace Bd
open PySem L2
/-- a tree: its table at tk -/
def TreeAt (K : PySem.W.Frag) (H : Hp) (C p : Addr) (rows : List RowM) (hands : Bool) (tk : List (Key × V)) : Prop := ∃ dx po pp pk pt, H p = some (.ins C dx (tf5 po pp pk pt hands)) ∧ H po = some (.lst (rows.map fun r => .str r.name)) ∧
  H pp = some (.dK (rows.map fun r => ((Sum.inr r.name : Key), V.str r.above))) ∧ H pt = some (.dK tk) ∧ Paired (fun (kv : Key × V) (r : RowM) => kv.1 = (Sum.inr r.name : Key) ∧ ∃ d, kv.2 = .ref d ∧ FullAt K H d r.dues) tk rows ∧ KidsAt H pk rows
/-- rows that make a tree -/
def RowsOk (rows : List RowM) : Prop := ∀ i r, rows[i]? = some r → NameOk r.name ∧ DuesOk r.dues ∧ StandOk (rows.take i) r
def spInit (K : PySem.W.Frag) (C : Addr) : Sp := fun vs H Q _ => ∃ (H0 : Hp) (p dx a : Addr) (xs : List V) (rows : List RowM) (b : Bool), vs = [.ref p, .ref a, .bl b] ∧ Same H0 H ∧ H0 p = none ∧ H p = some (.ins C dx []) ∧ H0 a = some (.lst xs) ∧ Paired (RowAt K H0) xs rows ∧ RowsOk rows ∧ rows.length ≤ 200 ∧
  ∀ H' tk, Same H0 H' → TreeAt K H' C p rows b tk → (∀ kv ∈ tk, ∃ d, kv.2 = .ref d ∧ H0 d = none) → Q .non H'
theorem dget_of {H : Hp} {a : Addr} {kvs : List (Key × V)} {k : Key} {v : V} (h : H a = some (.dK kvs)) (e : valV kvs k = some v) : DGet H a (kV k) (some v) := by
  have := DGet.k (k := k) h
  rw [e] at this
  exact this
theorem none_upd {H : Hp} {a x : Addr} {o : HO} (h : upd H a o x = none) : x ≠ a ∧ H x = none := by
  have n : x ≠ a := fun e => by
    rw [e, upd_same] at h
    cases h
  rw [upd_ne n] at h
  exact ⟨n, h⟩
theorem putF_two (a b : V) : putF "parents" b (putF "order" a []) = ([("order", a), ("parents", b)] : List (Str × V)) := by
  simp only [putF]
  rw [if_neg (by decide +kernel)]
  all_goals rfl
theorem putF_three (a b c : V) : putF "kids" c ([("order", a), ("parents", b)] : List (Str × V)) = ([("order", a), ("parents", b), ("kids", c)] : List (Str × V)) := by
  simp only [putF]
  rw [if_neg (by decide +kernel), if_neg (by decide +kernel)]
theorem putF_four (a b c d : V) : putF "table" d ([("order", a), ("parents", b), ("kids", c)] : List (Str × V)) = ([("order", a), ("parents", b), ("kids", c), ("table", d)] : List (Str × V)) := by
  simp only [putF]
  rw [if_neg (by decide +kernel), if_neg (by decide +kernel), if_neg (by decide +kernel)]
theorem putF_five (a b c d e : V) : putF "hands" e ([("order", a), ("parents", b), ("kids", c), ("table", d)] : List (Str × V)) = ([("order", a), ("parents", b), ("kids", c), ("table", d), ("hands", e)] : List (Str × V)) := by
  simp only [putF]
  rw [if_neg (by decide +kernel), if_neg (by decide +kernel), if_neg (by decide +kernel), if_neg (by decide +kernel)]
theorem paired_snoc {α β : Type} {F : α → β → Prop} {x : α} {y : β} (h : F x y) : ∀ {xs : List α} {ys : List β}, Paired F xs ys → Paired F (xs ++ [x]) (ys ++ [y])
  | _, _, .nil => .cons h .nil
  | _, _, .cons a b => .cons a (paired_snoc h b)
/-- one row more -/
theorem part_step {K : PySem.W.Frag} {H0 H Hz : Hp} {C p dx po pp pk pt l l' D : Addr} {rows : List RowM} {tk : List (Key × V)} {r : RowM} (h : PartAt K H0 H C p dx po pp pk pt rows tk) (ok : ∀ q ∈ rows, DuesOk q.dues) (tkk : TK H Hz)
    (hz : ∀ b o, H b = some o → b ≠ po → b ≠ pp → b ≠ pk → b ≠ pt → b ≠ l' → Hz b = some o) (hl0 : H0 l' = none) (hlo : l' ≠ po) (hl : H l' = some (.lst ((kidsOf rows (Sum.inr r.above)).map .str))) (hn0 : r.name ≠ "") (hst : ∀ q ∈ rows, q.name ≠ r.name) (hk0 : ∀ q ∈ rows, q.above ≠ r.name) (hab : r.above ≠ r.name) (hln : H l = none)
    (zo : Hz po = some (.lst (rows.map (fun r => .str r.name) ++ [.str r.name]))) (zp : Hz pp = some (.dK (rows.map (fun r => ((Sum.inr r.name : Key), V.str r.above)) ++ [(Sum.inr r.name, .str r.above)])))
    (zk : ∃ ks, Hz pk = some (.dK (ks ++ [(Sum.inr r.name, .ref l)])) ∧ H pk = some (.dK ks) ∧ ∃ kv ∈ ks, kv.1 = (Sum.inr r.above : Key) ∧ kv.2 = .ref l') (zl : Hz l = some (.lst [])) (hll : l ≠ po ∧ H0 l = none) (zl' : Hz l' = some (.lst ((kidsOf rows (Sum.inr r.above)).map .str ++ [.str r.name])))
    (zt : Hz pt = some (.dK (tk ++ [(Sum.inr r.name, .ref D)]))) (hD : H0 D = none ∧ D ≠ pp ∧ D ≠ pk ∧ D ≠ pt ∧ FullAt K Hz D r.dues) : PartAt K H0 Hz C p dx po pp pk pt (rows ++ [r]) (tk ++ [(Sum.inr r.name, .ref D)]) where
  same := fun b o hb => hz b o (h.same _ _ hb) (ne_of_none hb h.n0.2.1) (ne_of_none hb h.n0.2.2.1) (ne_of_none hb h.n0.2.2.2.1) (ne_of_none hb h.n0.2.2.2.2) (ne_of_none hb hl0)
  n0 := h.n0
  ob := hz _ _ h.ob (ne_of h.ob h.or_ (by intro z; cases z)) (ne_of h.ob h.pa (by intro z; cases z)) (by
    obtain ⟨ks, k1, _⟩ := h.kd
    exact ne_of h.ob k1 (by intro z; cases z)) (ne_of h.ob h.tb (by intro z; cases z)) (ne_of h.ob hl (by intro z; cases z))
  or_ := by rw [List.map_append]; exact zo
  pa := by rw [List.map_append]; exact zp
  kd := by
    obtain ⟨ks, k1, k2, k3, k4⟩ := h.kd
    obtain ⟨ks', z1, z2, kv0, m0, e0, e0'⟩ := zk
    rw [k1] at z2
    cases z2
    have nk : (Sum.inr r.name : Key) ∉ ks.map (·.1) := fun m => by
      rw [k2] at m
      rcases List.mem_cons.mp m with e | m
      · exact hn0 (Sum.inr.inj e)
      · obtain ⟨q, hq, e⟩ := List.mem_map.mp m
        exact hst q hq (Sum.inr.inj e)
    have nl : ∀ kv ∈ ks, kv.2 ≠ .ref l := fun kv m e => by
      obtain ⟨c, e1, e2, _⟩ := k3 kv m
      rw [e1] at e
      injection e with e
      rw [e, hln] at e2
      cases e2
    refine ⟨_, z1, by rw [List.map_append, k2, List.map_append]; rfl, fun kv hkv => ?_, fun kv hkv kv2 hkv2 => ?_⟩
    · rcases List.mem_append.mp hkv with m | m
      · obtain ⟨c, e1, e2, e3, e4⟩ := k3 kv m
        rw [kids_snoc, List.map_append]
        by_cases c1 : c = l'
        · have ek : kv.1 = kv0.1 := (k4 kv m kv0 m0).mpr (by rw [e1, c1, e0'])
          refine ⟨c, e1, ?_, e3, e4⟩
          rw [c1, zl', ek, e0, if_pos rfl]
          rfl
        · have ek : ¬ (Sum.inr r.above : Key) = kv.1 := fun z => by
            have := (k4 kv m kv0 m0).mp (by rw [← z, e0])
            rw [e1, e0'] at this
            injection this with this
            exact c1 this
          refine ⟨c, e1, ?_, e3, e4⟩
          rw [if_neg ek]
          simpa using hz _ _ e2 e3 (ne_of e2 h.pa (by intro z; cases z)) (ne_of e2 k1 (by intro z; cases z)) (ne_of e2 h.tb (by intro z; cases z)) c1
      · cases List.mem_singleton.mp m
        refine ⟨l, rfl, ?_, hll.1, hll.2⟩
        show Hz l = some (.lst ((kidsOf (rows ++ [r]) (Sum.inr r.name)).map .str))
        rw [kids_none (fun q hq => by
          rcases List.mem_append.mp hq with q1 | q1
          · exact hk0 q q1
          · rw [List.mem_singleton.mp q1]
            exact hab)]
        exact zl
    · rcases List.mem_append.mp hkv with m | m <;> rcases List.mem_append.mp hkv2 with m2 | m2
      · exact k4 kv m kv2 m2
      · rw [List.mem_singleton.mp m2]
        exact ⟨fun e => absurd (List.mem_map.mpr ⟨kv, m, e⟩) nk, fun e => absurd e (nl kv m)⟩
      · rw [List.mem_singleton.mp m]
        exact ⟨fun e => absurd (List.mem_map.mpr ⟨kv2, m2, e.symm⟩) nk, fun e => absurd e.symm (nl kv2 m2)⟩
      · rw [List.mem_singleton.mp m, List.mem_singleton.mp m2]
        exact ⟨fun _ => rfl, fun _ => rfl⟩
  tb := zt
  td := paired_snoc ⟨rfl, D, rfl, hD⟩ (paired_monoM (fun kv q hq z => by
    obtain ⟨e1, d, e2, e3, e4, e5, e6, e7⟩ := z
    refine ⟨e1, d, e2, e3, e4, e5, e6, tkk.full (ok q hq) ?_ e7⟩
    obtain ⟨fk, f1, f2⟩ := e7
    rw [f1]
    exact hz _ _ f1 (ne_of f1 h.or_ (by intro z; cases z)) e4 e5 e6 (ne_of f1 hl (by intro z; cases z))) h.td)
  ne := h.ne
theorem names_nd {rows : List RowM} (h : RowsOk rows) : ∀ i, ((rows.take i).map (·.name)).Nodup
  | 0 => List.nodup_nil
  | i + 1 => by
    have ih := names_nd h i
    rw [List.take_add_one]
    cases e : rows[i]? with
    | none => simpa using ih
    | some r =>
      rw [Option.toList_some, List.map_append]
      refine List.nodup_append.mpr ⟨ih, by simp, fun a ha b hb => ?_⟩
      obtain ⟨q, hq, rfl⟩ := List.mem_map.mp ha
      cases List.mem_singleton.mp hb
      exact (h i r e).2.2.1 q hq
section
variable {P : Program} {w : World} {K : PySem.W.Frag} {mg : Str → Option Value} {base : Heap} {aL C : Addr} {left : List (Key × V)}
/-- the rule for a def with defaults that lets nothing out -/
theorem fund_ok {x qual : Str} {params : Arguments} {body : List Stmt} {scope : Scope} {dvs : List V} {kws : List (Str × V)} {f : Addr} {fd : FuncData} {N ps : List Str} {k : Nat} {sp : Sp} (F : FunD K x qual params body scope dvs kws f fd) (S : FnScope N ps scope) (len : ∀ vs H Q E, sp vs H Q E → vs.length = ps.length)
    (hbody : ∀ (cdv : Value) (A : Around) (outer : List Env) (s : Shared) (H : Hp) (vs : List V) (Q : VK) (E : XK), Room k (A.deeper (PyProof.Rows.envOfC qual scope s.heap.objs.size f cdv)) → sp vs H Q E →
      ∃ t, PSs (cxOf CX0 P w K mg base N qual scope f cdv A outer s H E).nox body t ∧ t { nx := fun _ H' => Q .non H', rt := Q } (start N vs) H) : FnOk P w K mg base CX0 (k + 1) f fd ps sp :=
  F.ok S len fun cdv A outer s H vs Q E hr h => let ⟨t, h1, h2⟩ := hbody cdv A outer s H vs Q E hr h; ⟨t, h1.nox, h2⟩
theorem ok_init {f g e : Addr} {fd gd ed : FuncData} (F : FunD K "__init__" "Tree.__init__" (defArgs sInit) (defBody sInit) (defScope sInit) [.bl false] [] f fd) (T : TP P w K mg aL left) (TCl : TC K mg C) (hLV : ∀ H, Paired (PV K H) left leftD) (cG : Cal P w K mg base "is_group_row" ["thing"] 6 (spIsGroupRow K) g gd) (cM : Cal P w K mg base "may_stand" ["tree", "row"] 2 (spMayStand K C) e ed) :
    FnOk P w K mg base CX0 7 f fd ["self", "rows", "handing"] (spInit K C) := by
  refine fund_ok F scInit (fun vs H Q E h => ?_) (fun cdv A outer s H vs Q E hr h => ?_)
  · obtain ⟨H0, p, dx, a, xs, rows, b, rfl, _⟩ := h
    rfl
  obtain ⟨H0, p, dx, a, xs, rows, b, rfl, s0, p0, hp, ha, hrows, hok, hlen, q⟩ := h
  have hu := hu_of hr
  refine ⟨_, (pss_cons (ps_if (pt_not (pt_val (pe_callB call_isi (by rfl) T.z_isinstance (by decide +kernel) (pa_cons (pv 1) (pa_cons (pe_bltn (v := .ty "list") (u := .type "list") (by rfl) T.z_list (by decide +kernel) rfl) pa_nil))))) (pss_one ps_never) pss_nil) (pss_cons (ps_fld (pv 0) (pe_lst pa_nil) rfl) (pss_cons (ps_fld (pv 0) pe_dnewK rfl) (pss_cons (ps_fld (pv 0) (pe_disp (pps_cons pe_str (pe_lst pa_nil) pps_nil) (by rfl) (by rfl) (fun z => by cases z) (by decide)) rfl) (pss_cons (ps_fld (pv 0) pe_dnewK rfl) (pss_cons (ps_for PassesOwn.never rfl (pi_enum (by rfl) T.z_enumerate (pa_cons (pv 1) pa_nil)) (pg_tup (by rfl) (pgs_cons (pg_name (i := 3) scInit.nd rfl (Or.inl rfl)) (pgs_cons (pg_name (i := 4) scInit.nd rfl (Or.inl rfl)) pgs_nil))) (pss_cons (ps_if (PW.pt (pw_or (pt_not (pt_val (pe_call cG.ok (hr.mono (by decide)) rfl cG.mg cG.kp cG.bd .nil pass0 (pa_cons (pv 4) pa_nil)))) (pw_or1 (pt_not (pt_val (pe_call cM.ok (hr.mono (by decide)) rfl cM.mg cM.kp cM.bd .nil pass0 (pa_cons (pv 0) (pa_cons (pv 4) pa_nil)))))))) (pss_one ps_never) pss_nil) (pss_cons (ps_asg (pv 4) (pg_tup (by rfl) (pgs_cons (pg_name (i := 5) scInit.nd rfl (Or.inl rfl)) (pgs_cons (pg_name (i := 6) scInit.nd rfl (Or.inl rfl)) (pgs_cons (pg_name (i := 7) scInit.nd rfl (Or.inl rfl)) pgs_nil))))) (pss_cons (ps_expr (pe_bm PySem.F.plainAttrs_list PySem.F.slot_list_append PySem.F.type_list_append mt_append (pe_fld (pv 0) rfl) (pa_cons (pv 5) pa_nil))) (pss_cons (ps_dput hu (pe_fld (pv 0) rfl) (pv 5) (pv 6) rfl) (pss_cons (ps_dput hu (pe_fld (pv 0) rfl) (pv 5) (pe_lst pa_nil) rfl) (pss_cons (ps_expr (pe_bm PySem.F.plainAttrs_list PySem.F.slot_list_append PySem.F.type_list_append mt_append (pe_dget hu (pe_fld (pv 0) rfl) (pv 6) (fun _ _ => rfl)) (pa_cons (pv 5) pa_nil))) (pss_one (ps_dput hu (pe_fld (pv 0) rfl) (pv 5) (pe_both (pe_callTy call_dictK (by rfl) T.z_dict (by decide +kernel) (pa_cons (pe_glob (v := .ref aL) rfl T.g_LEFT_OUT rfl) pa_nil)) (pe_callTy (call_dictT rfl) (by rfl) T.z_dict (by decide +kernel) (pa_cons (pv 7) pa_nil))) rfl))))))))) (pss_cons (ps_if (pt_not (pt_val (pe_callB call_isi (by rfl) T.z_isinstance (by decide +kernel) (pa_cons (pv 2) (pa_cons (pe_bltn (v := .ty "bool") (u := .type "bool") (by rfl) T.z_bool (by decide +kernel) rfl) pa_nil))))) (pss_one ps_never) pss_nil) (pss_one (ps_fld (pv 0) (pv 2) rfl))))))))), ?_⟩
  refine ⟨_, rfl, _, _, _, _, true, rfl, .ty _, (.base (.lst (s0 _ _ ha))), kit_ty (by decide +kernel), true, rfl, ?_⟩
  refine iteF ?_
  -- the empty tables
  refine ⟨Nat.zero_le _, fun po hpo => ?_⟩
  have npo : p ≠ po := ne_of_none hp hpo
  refine ⟨_, rfl, p, C, dx, [], rfl, (by rw [upd_ne npo]; exact hp), TCl.cl, TCl.n_order, (by show 0 < 1000; decide), ?_⟩
  intro pp hpp
  obtain ⟨npp1, hpp1⟩ := none_upd hpp
  obtain ⟨npp2, hpp2⟩ := none_upd hpp1
  refine ⟨_, rfl, p, C, dx, _, rfl, (by rw [upd_ne npp1.symm]; exact upd_same), TCl.cl, TCl.n_parents, (by show 1 < 1000; decide), ?_⟩
  rw [putF_two]
  intro pk hpk
  obtain ⟨npk1, hpk1⟩ := none_upd hpk
  obtain ⟨npk2, hpk2⟩ := none_upd hpk1
  obtain ⟨npk3, hpk3⟩ := none_upd hpk2
  obtain ⟨npk4, hpk4⟩ := none_upd hpk3
  refine ⟨Nat.zero_le _, fun l0 hl0 => ?_⟩
  obtain ⟨nl1, hl1⟩ := none_upd hl0
  obtain ⟨nl2, hl2⟩ := none_upd hl1
  obtain ⟨nl3, hl3⟩ := none_upd hl2
  obtain ⟨nl4, hl4⟩ := none_upd hl3
  obtain ⟨nl5, hl5⟩ := none_upd hl4
  refine ⟨by rw [upd_ne nl1.symm]; exact upd_same, [(Sum.inr "", .ref l0)], rfl, by show 1 ≤ 15; decide, ?_⟩
  refine ⟨_, rfl, p, C, dx, _, rfl, (by rw [upd_ne npk1.symm, upd_ne nl2.symm, upd_ne npk1.symm]; exact upd_same), TCl.cl, TCl.n_kids, (by show 2 < 1000; decide), ?_⟩
  rw [putF_three]
  intro pt hpt
  obtain ⟨npt1, hpt1⟩ := none_upd hpt
  obtain ⟨npt2, hpt2⟩ := none_upd hpt1
  obtain ⟨npt3, hpt3⟩ := none_upd hpt2
  obtain ⟨npt4, hpt4⟩ := none_upd hpt3
  obtain ⟨npt5, hpt5⟩ := none_upd hpt4
  obtain ⟨npt6, hpt6⟩ := none_upd hpt5
  obtain ⟨npt7, hpt7⟩ := none_upd hpt6
  refine ⟨_, rfl, p, C, dx, _, rfl, (by rw [upd_ne npt1.symm]; exact upd_same), TCl.cl, TCl.n_table, (by show 3 < 1000; decide), ?_⟩
  rw [putF_four]
  have xl : xs.length = rows.length := Paired.length hrows
  refine ⟨_, rfl, a, xs, rfl, ?_, for_it walk_enum (fun i σ H' => ∃ (tk : List (Key × V)) (o3 o4 o5 o6 o7 : Option V), σ = [some (.ref p), some (.ref a), some (.bl b), o3, o4, o5, o6, o7] ∧ PartAt K H0 H' C p dx po pp pk pt (rows.take i) tk)
    ⟨[], none, none, none, none, none, rfl, ?_⟩ (fun i σ H' _ ⟨_, _, _, _, _, _, _, h⟩ => SqL.of (h.same _ _ ha)) ?_ ?_⟩
  · have := s0 _ _ ha
    have z1 := ne_of_none this hpo
    have z2 := ne_of this hp (by intro z; cases z)
    have z3 := ne_of_none this hpp2
    have z4 := ne_of_none this hpk4
    have z5 := ne_of_none this hl5
    have z6 := ne_of_none this (none_upd hpt7).2
    refine SqL.of ?_
    simp only [upd, if_neg z1, if_neg z2, if_neg z3, if_neg z4, if_neg z5, if_neg z6]
    exact this
  · have npt8 := (none_upd hpt7).1
    have hpt8 := (none_upd hpt7).2
    refine ⟨fun b2 o2 hb => ?_, ⟨p0, s0.free hpo, s0.free hpp2, s0.free hpk4, s0.free hpt8⟩, upd_same, ?_, ?_, ⟨[(Sum.inr "", .ref l0)], ?_, rfl, fun kv hkv => ?_, fun kv hkv kv2 hkv2 => ?_⟩, ?_, .nil, npk2.symm, npt6.symm, npt2.symm⟩
    · have hb' := s0 _ _ hb
      have a1 := ne_of_none hb p0
      have a2 := ne_of_none hb' hpt8
      have a3 := ne_of_none hb' hpk4
      have a4 := ne_of_none hb' hl5
      have a5 := ne_of_none hb' hpp2
      have a6 := ne_of_none hb' hpo
      rw [upd_ne a1, upd_ne a2, upd_ne a1, upd_ne a3, upd_ne a4, upd_ne a3, upd_ne a1, upd_ne a5, upd_ne a1, upd_ne a6]
      exact hb'
    · rw [upd_ne npo.symm, upd_ne npt8.symm, upd_ne npo.symm, upd_ne npk4.symm, upd_ne nl5.symm, upd_ne npk4.symm, upd_ne npo.symm, upd_ne npp2.symm, upd_ne npo.symm]
      exact upd_same
    · rw [upd_ne npp1, upd_ne npt6.symm, upd_ne npp1, upd_ne npk2.symm, upd_ne nl3.symm, upd_ne npk2.symm, upd_ne npp1]
      exact upd_same
    · rw [upd_ne npk1, upd_ne npt2.symm, upd_ne npk1]
      exact upd_same
    · cases List.mem_singleton.mp hkv
      refine ⟨l0, rfl, ?_, nl5, s0.free hl5⟩
      rw [upd_ne nl2, upd_ne npt3.symm, upd_ne nl2, upd_ne nl1]
      exact upd_same
    · cases List.mem_singleton.mp hkv
      cases List.mem_singleton.mp hkv2
      exact ⟨fun _ => rfl, fun _ => rfl⟩
    · rw [upd_ne npt1]
      exact upd_same
  · rintro i v σ H1 H2 hi ⟨tk, o3, o4, o5, o6, o7, rfl, hP⟩ ⟨TT, x, y, rfl, hTT, rfl, hx, hy⟩
    have P1 := hP.grow (Same.new (Same.refl H1) hTT (.tup [x, y]))
    obtain ⟨r, hr1, hrow⟩ := paired_get hrows hy
    obtain ⟨hn, hd, hst⟩ := hok i r hr1
    refine ⟨TT, _, rfl, SqT.of upd_same, rfl, _, _, rfl, _, _, rfl, rfl, ?_⟩
    refine ⟨_, rfl, y, r, rfl, RowAt.same P1.same hrow, hn, hd, fun H3 s3 => ?_⟩
    refine ⟨true, rfl, ?_⟩
    refine iteF ?_
    have P2 := P1.grow s3
    refine ⟨_, rfl, _, rfl, H0, p, dx, po, pp, pk, pt, rows.take i, tk, y, r, rfl, P2, RowAt.same P2.same hrow, hst, ?_, ?_, fun H4 s4 => ?_⟩
    · exact names_nd hok i
    · intro q2 hq2 e
      obtain ⟨m, hm⟩ := List.mem_iff_getElem?.mp (List.mem_of_mem_take hq2)
      have := (hok m q2 hm).1.1
      rw [e] at this
      exact absurd this (by decide +kernel)
    refine ⟨true, rfl, ?_⟩
    refine iteF ?_
    have P3 := P2.grow s4
    obtain ⟨ra, t, rfl, hra, hdues⟩ := RowAt.same P3.same hrow
    refine ⟨_, rfl, ra, _, rfl, hra, rfl, _, _, rfl, _, _, rfl, _, _, rfl, rfl, ?_⟩
    -- self.order.append(name)
    refine ⟨_, rfl, p, C, dx, _, _, rfl, P3.ob, TCl.cl, TCl.n_order, tf4_order, .inl ⟨rfl, _, SqL.of P3.or_⟩, _, rfl, po, _, _, rfl, rfl, P3.or_, ?_, ?_⟩
    · rw [List.length_map, List.length_take]
      exact small1000 (by omega)
    obtain ⟨ks, k1, k2, k3, k4⟩ := P3.kd
    have n_p_o := ne_of P3.ob P3.or_ (by intro z; cases z)
    have n_pp_o := ne_of P3.pa P3.or_ (by intro z; cases z)
    have n_pk_o := ne_of k1 P3.or_ (by intro z; cases z)
    have n_pt_o := ne_of P3.tb P3.or_ (by intro z; cases z)
    have n_p_pp := ne_of P3.ob P3.pa (by intro z; cases z)
    have n_p_pk := ne_of P3.ob k1 (by intro z; cases z)
    have n_p_pt := ne_of P3.ob P3.tb (by intro z; cases z)
    have n_pp_pk := P3.ne.1
    have n_pp_pt := P3.ne.2.1
    have n_pk_pt := P3.ne.2.2
    have lt : (rows.take i).length ≤ 200 := by
      rw [List.length_take]
      omega
    have tkl : tk.length = (rows.take i).length := Paired.length P3.td
    have ksl : ks.length = (rows.take i).length + 1 := by
      have := congrArg List.length k2
      simpa using this
    -- self.parents[name] = above
    refine ⟨_, rfl, _, rfl, p, C, dx, _, _, rfl, (upd_ne n_p_o).trans P3.ob, TCl.cl, TCl.n_parents, tf4_parents, _, rfl, pp, _, rfl, DPut.k (k := Sum.inr r.name) ((upd_ne n_pp_o).trans P3.pa) ?_, ?_⟩
    · rw [List.length_map]
      exact small1000 (by omega)
    -- self.kids[name] = []
    refine ⟨Nat.zero_le _, fun l hl => ?_⟩
    obtain ⟨nl_pp, hlA⟩ := none_upd hl
    obtain ⟨nl_o, hlB⟩ := none_upd hlA
    have nl_p : l ≠ p := (ne_of_none P3.ob hlB).symm
    have nl_pk : l ≠ pk := (ne_of_none k1 hlB).symm
    have nl_pt : l ≠ pt := (ne_of_none P3.tb hlB).symm
    refine ⟨_, rfl, p, C, dx, _, _, rfl, (upd_ne nl_p.symm).trans ((upd_ne n_p_pp).trans ((upd_ne n_p_o).trans P3.ob)), TCl.cl, TCl.n_kids, tf4_kids, _, rfl, pk, _, rfl,
      DPut.k (k := Sum.inr r.name) ((upd_ne nl_pk.symm).trans ((upd_ne n_pp_pk.symm).trans ((upd_ne n_pk_o).trans k1))) (small1000 (by omega)), ?_⟩
    -- self.kids[above].append(name)
    have hab : r.above ≠ r.name := by
      rcases hst.2 with e | ⟨q2, hq2, e, _⟩
      · intro z
        have := hn.1
        rw [← z, e] at this
        exact absurd this (by decide +kernel)
      · intro z
        exact hst.1 q2 hq2 (e.trans z)
    obtain ⟨l2, lx, hkv, hl2, hl2o, hl20, hlx, hlxe, hkvm⟩ : ∃ l2 lx, valV ks (Sum.inr r.above : Key) = some (.ref l2) ∧ H4 l2 = some (.lst lx) ∧ l2 ≠ po ∧ H0 l2 = none ∧ lx.length ≤ (rows.take i).length ∧ lx = (kidsOf (rows.take i) (Sum.inr r.above)).map .str ∧ ∃ kv ∈ ks, kv.1 = (Sum.inr r.above : Key) ∧ kv.2 = .ref l2 := by
      have hin : (Sum.inr r.above : Key) ∈ ks.map (·.1) := by
        rw [k2]
        rcases hst.2 with e | ⟨q, hq, e, _⟩
        · rw [e]
          exact List.mem_cons_self
        · exact List.mem_cons_of_mem _ (List.mem_map.mpr ⟨q, hq, by rw [e]⟩)
      cases hv : valV ks (Sum.inr r.above : Key) with
      | none => exact absurd hin (valV_not hv)
      | some v =>
        unfold valV at hv
        obtain ⟨kv, hf, he⟩ := Option.map_eq_some_iff.mp hv
        obtain ⟨c, e1, e2, e3, e4⟩ := k3 kv (List.mem_of_find?_eq_some hf)
        have ek : kv.1 = (Sum.inr r.above : Key) := by
          have := List.find?_some hf
          simpa using this
        rw [ek] at e2
        refine ⟨c, _, by rw [← he, e1], e2, e3, e4, ?_, rfl, kv, List.mem_of_find?_eq_some hf, ek, e1⟩
        rw [List.length_map]
        exact kids_le _ _
    have hkv2 : valV (putK ks (Sum.inr r.name : Key) (.ref l)) (Sum.inr r.above : Key) = some (.ref l2) := by
      rw [valV_put, if_neg (fun z => hab (Sum.inr.inj z))]
      exact hkv
    have n_l2_l : l2 ≠ l := ne_of_none hl2 hlB
    have n_l2_pp := ne_of hl2 P3.pa (by intro z; cases z)
    have n_l2_pk := ne_of hl2 k1 (by intro z; cases z)
    have n_l2_p := ne_of hl2 P3.ob (by intro z; cases z)
    have n_l2_pt := ne_of hl2 P3.tb (by intro z; cases z)
    have c_l2 : ∀ o1 o2 o3 o4, upd (upd (upd (upd H4 po o1) pp o2) l o3) pk o4 l2 = some (.lst lx) := fun o1 o2 o3 o4 => by
      rw [upd_ne n_l2_pk, upd_ne n_l2_l, upd_ne n_l2_pp, upd_ne hl2o]
      exact hl2
    refine ⟨_, rfl, p, C, dx, _, _, rfl, (upd_ne n_p_pk).trans ((upd_ne nl_p.symm).trans ((upd_ne n_p_pp).trans ((upd_ne n_p_o).trans P3.ob))), TCl.cl, TCl.n_kids, tf4_kids, _, rfl, pk, _, rfl,
      dget_of upd_same hkv2, .inl ⟨rfl, _, SqL.of (c_l2 _ _ _ _)⟩, _, rfl, l2, _, _, rfl, rfl, c_l2 _ _ _ _, small1000 (by omega), ?_⟩
    -- self.table[name] = both
    refine fun D hD => ⟨aL, left, rfl, T.tab, fun d1 h1 => ?_⟩
    obtain ⟨nD_l2, hD1⟩ := none_upd hD
    obtain ⟨nD_pk, hD2⟩ := none_upd hD1
    obtain ⟨nD_l, hD3⟩ := none_upd hD2
    obtain ⟨nD_pp, hD4⟩ := none_upd hD3
    obtain ⟨nD_o, hD5⟩ := none_upd hD4
    have nD_p : D ≠ p := (ne_of_none P3.ob hD5).symm
    have nD_pt : D ≠ pt := (ne_of_none P3.tb hD5).symm
    obtain ⟨n1_D, h11⟩ := none_upd h1
    obtain ⟨n1_l2, h12⟩ := none_upd h11
    obtain ⟨n1_pk, h13⟩ := none_upd h12
    obtain ⟨n1_l, h14⟩ := none_upd h13
    obtain ⟨n1_pp, h15⟩ := none_upd h14
    obtain ⟨n1_o, h16⟩ := none_upd h15
    have n1_p : d1 ≠ p := (ne_of_none P3.ob h16).symm
    have n1_pt : d1 ≠ pt := (ne_of_none P3.tb h16).symm
    have t8 := ((((((TK.lst P3.or_ (.lst (List.map (fun r => V.str r.name) (List.take i rows) ++ [V.str r.name]))).trans (TK.dk ((upd_ne n_pp_o).trans P3.pa) _)).trans (TK.new hl _)).trans (TK.dk ((upd_ne nl_pk.symm).trans ((upd_ne n_pp_pk.symm).trans ((upd_ne n_pk_o).trans k1))) _)).trans (TK.lst (c_l2 _ _ _ _) _)).trans (TK.new hD _)).trans (TK.new h1 (.dK left))
    have t9 := t8.trans (TK.dk ((upd_ne n1_D.symm).trans upd_same) (.dK (mergeK [] left)))
    obtain ⟨ps, f1, f2⟩ := t9.dues hd hdues
    obtain ⟨dk, g1, g2⟩ := dk_of_dues f2
    have dkl : dk.length ≤ 8 := by
      have e := Paired.length g2
      have := words_few hd.1 fun du hdu => (hd.2 du hdu).1
      omega
    have lefl : left.length = 8 := by
      have := congrArg List.length T.keys
      rw [List.length_map, List.length_map] at this
      exact this
    have mdl : (mergeK [] dk).length ≤ 8 := by
      have := length_mergeK dk []
      rw [List.length_nil] at this
      omega
    refine ⟨d1, left, rfl, (upd_ne n1_D.symm).trans upd_same, upd_same, n1_D.symm, ?_⟩
    refine ⟨_, rfl, t, ps, dk, rfl, f1, g1, fun d2 h2 => ?_⟩
    obtain ⟨n2_D, h21⟩ := none_upd h2
    obtain ⟨n2_1, h22⟩ := none_upd h21
    obtain ⟨_, h23⟩ := none_upd h22
    obtain ⟨n2_l2, h24⟩ := none_upd h23
    obtain ⟨n2_pk, h25⟩ := none_upd h24
    obtain ⟨n2_l, h26⟩ := none_upd h25
    obtain ⟨n2_pp, h27⟩ := none_upd h26
    obtain ⟨n2_o, h28⟩ := none_upd h27
    have n2_p : d2 ≠ p := (ne_of_none P3.ob h28).symm
    have n2_pt : d2 ≠ pt := (ne_of_none P3.tb h28).symm
    refine ⟨d2, mergeK [] dk, rfl, (upd_ne n2_D.symm).trans upd_same, upd_same, n2_D.symm, by omega, ?_⟩
    have t10 := (t9.trans (TK.new h2 (.dK (mergeK [] dk)))).trans (TK.dk ((upd_ne n2_D.symm).trans upd_same) (.dK (mergeK (mergeK [] left) (mergeK [] dk))))
    have e_p : ∀ o1 o2 o3 o4 o5 o6 o7 o8 o9 o10, upd (upd (upd (upd (upd (upd (upd (upd (upd (upd H4 po o1) pp o2) l o3) pk o4) l2 o5) D o6) d1 o7) D o8) d2 o9) D o10 p = some (.ins C dx (tf4 po pp pk pt)) := fun o1 o2 o3 o4 o5 o6 o7 o8 o9 o10 => by
      rw [upd_ne nD_p.symm, upd_ne n2_p.symm, upd_ne nD_p.symm, upd_ne n1_p.symm, upd_ne nD_p.symm, upd_ne n_l2_p.symm, upd_ne n_p_pk, upd_ne nl_p.symm, upd_ne n_p_pp, upd_ne n_p_o]
      exact P3.ob
    have e_pt : ∀ o1 o2 o3 o4 o5 o6 o7 o8 o9 o10, upd (upd (upd (upd (upd (upd (upd (upd (upd (upd H4 po o1) pp o2) l o3) pk o4) l2 o5) D o6) d1 o7) D o8) d2 o9) D o10 pt = some (.dK tk) := fun o1 o2 o3 o4 o5 o6 o7 o8 o9 o10 => by
      rw [upd_ne nD_pt.symm, upd_ne n2_pt.symm, upd_ne nD_pt.symm, upd_ne n1_pt.symm, upd_ne nD_pt.symm, upd_ne n_l2_pt.symm, upd_ne n_pk_pt.symm, upd_ne nl_pt.symm, upd_ne n_pp_pt.symm, upd_ne n_pt_o]
      exact P3.tb
    refine ⟨_, rfl, p, C, dx, _, _, rfl, e_p _ _ _ _ _ _ _ _ _ _, TCl.cl, TCl.n_table, tf4_table, _, rfl, pt, _, rfl, DPut.k (k := Sum.inr r.name) (e_pt _ _ _ _ _ _ _ _ _ _) (small1000 (by omega)), ?_⟩
    have nm : ∀ q ∈ rows.take i, q.name ≠ r.name := hst.1
    have tknew : putK tk (Sum.inr r.name : Key) (V.ref D) = tk ++ [(Sum.inr r.name, .ref D)] := by
      refine putK_new _ (keys_none fun m => ?_)
      rw [td_keys (fun _ _ z => z.1) P3.td] at m
      obtain ⟨q, hq, e⟩ := List.mem_map.mp m
      exact nm q hq (Sum.inr.inj e)
    have ksnew : putK ks (Sum.inr r.name : Key) (V.ref l) = ks ++ [(Sum.inr r.name, .ref l)] := by
      refine putK_new _ (keys_none fun m => ?_)
      rw [k2] at m
      rcases List.mem_cons.mp m with e | m
      · have := hn.1
        rw [Sum.inr.inj e] at this
        exact absurd this (by decide +kernel)
      · obtain ⟨q, hq, e⟩ := List.mem_map.mp m
        exact nm q hq (Sum.inr.inj e)
    have panew : putK (List.map (fun r => ((Sum.inr r.name : Key), V.str r.above)) (rows.take i)) (Sum.inr r.name : Key) (V.str r.above) = List.map (fun r => ((Sum.inr r.name : Key), V.str r.above)) (rows.take i) ++ [(Sum.inr r.name, .str r.above)] := by
      refine putK_new _ (keys_none fun m => ?_)
      rw [List.map_map] at m
      obtain ⟨q, hq, e⟩ := List.mem_map.mp m
      exact nm q hq (Sum.inr.inj e)
    have t11 := t10.trans (TK.dk (e_pt _ _ _ _ _ _ _ _ _ _) (.dK (tk ++ [(Sum.inr r.name, .ref D)])))
    refine ⟨tk ++ [(Sum.inr r.name, .ref D)], _, _, _, _, _, rfl, ?_⟩
    rw [List.take_add_one, hr1, Option.toList_some, tknew, ksnew, panew]
    rw [ksnew, panew] at t11
    subst hlxe
    have hn0 : r.name ≠ "" := fun z => by
      have := hn.1
      rw [z] at this
      exact absurd this (by decide +kernel)
    have hk0 : ∀ q ∈ rows.take i, q.above ≠ r.name := fun q hq z => by
      obtain ⟨m, hm⟩ := List.mem_iff_getElem?.mp hq
      have hmi : m < i := by
        have := (List.getElem?_eq_some_iff.mp hm).1
        rw [List.length_take] at this
        omega
      rw [List.getElem?_take_of_lt hmi] at hm
      rcases (hok m q hm).2.2.2 with e | ⟨q2, hq2, e, _⟩
      · exact hn0 (z.symm.trans e)
      · refine hst.1 q2 ?_ (e.trans z)
        obtain ⟨m2, hm2⟩ := List.mem_iff_getElem?.mp hq2
        have hmi2 : m2 < m := by
          have := (List.getElem?_eq_some_iff.mp hm2).1
          rw [List.length_take] at this
          omega
        rw [List.getElem?_take_of_lt hmi2] at hm2
        exact List.mem_iff_getElem?.mpr ⟨m2, by rw [List.getElem?_take_of_lt (by omega)]; exact hm2⟩
    refine part_step (l := l) (l' := l2) (D := D) P3 (fun q hq => ?_) t11 (fun b2 o2 hb b1 b2' b3 b4 b5 => ?_) hl20 hl2o hl2 hn0 hst.1 hk0 hab hlB ?_ ?_ ⟨ks, ?_, k1, hkvm⟩ ?_ ⟨nl_o, P3.same.free hlB⟩ ?_ upd_same ⟨P3.same.free hD5, nD_pp, nD_pk, nD_pt, ?_⟩
    · obtain ⟨m, hm⟩ := List.mem_iff_getElem?.mp (List.mem_of_mem_take hq)
      exact (hok m q hm).2.1
    · rw [upd_ne b4, upd_ne (ne_of_none hb hD5), upd_ne (ne_of_none hb h28), upd_ne (ne_of_none hb hD5), upd_ne (ne_of_none hb h16), upd_ne (ne_of_none hb hD5), upd_ne b5, upd_ne b3, upd_ne (ne_of_none hb hlB), upd_ne b2', upd_ne b1]
      exact hb
    · rw [upd_ne n_pt_o.symm, upd_ne nD_o.symm, upd_ne n2_o.symm, upd_ne nD_o.symm, upd_ne n1_o.symm, upd_ne nD_o.symm, upd_ne hl2o.symm, upd_ne n_pk_o.symm, upd_ne nl_o.symm, upd_ne n_pp_o.symm]
      exact upd_same
    · rw [upd_ne n_pp_pt, upd_ne nD_pp.symm, upd_ne n2_pp.symm, upd_ne nD_pp.symm, upd_ne n1_pp.symm, upd_ne nD_pp.symm, upd_ne n_l2_pp.symm, upd_ne n_pp_pk, upd_ne nl_pp.symm]
      exact upd_same
    · rw [upd_ne n_pk_pt, upd_ne nD_pk.symm, upd_ne n2_pk.symm, upd_ne nD_pk.symm, upd_ne n1_pk.symm, upd_ne nD_pk.symm, upd_ne n_l2_pk.symm]
      exact upd_same
    · rw [upd_ne nl_pt, upd_ne nD_l.symm, upd_ne n2_l.symm, upd_ne nD_l.symm, upd_ne n1_l.symm, upd_ne nD_l.symm, upd_ne n_l2_l.symm, upd_ne nl_pk]
      exact upd_same
    · rw [upd_ne n_l2_pt, upd_ne nD_l2.symm, upd_ne n2_l2.symm, upd_ne nD_l2.symm, upd_ne n1_l2.symm, upd_ne nD_l2.symm]
      exact upd_same
    · have t12 := ((TK.new h2 (.dK (mergeK [] dk))).trans (TK.dk ((upd_ne n2_D.symm).trans upd_same) (.dK (mergeK (mergeK [] left) (mergeK [] dk))))).trans (TK.dk (e_pt _ _ _ _ _ _ _ _ _ _) (.dK (tk ++ [(Sum.inr r.name, .ref D)])))
      have g3 := g2
      rw [ksnew, panew] at t12 g3
      exact ⟨_, (upd_ne nD_pt).trans upd_same, full_of (hLV _) (paired_monoM (fun kv du hm z => ⟨z.1, t12.val (hd.2 du hm).2 z.2⟩) g3) hd⟩
  · rintro σ H1 ⟨tk, o3, o4, o5, o6, o7, rfl, hP⟩
    rw [xl, List.take_length] at hP
    refine ⟨_, rfl, _, _, _, _, true, rfl, .ty _, .base (.bl b), kit_ty (by decide +kernel), true, rfl, ?_⟩
    refine iteF ?_
    refine ⟨_, rfl, _, rfl, p, C, dx, _, rfl, hP.ob, TCl.cl, TCl.n_hands, (by show 4 < 1000; decide), ?_⟩
    show Q .non (upd H1 p (.ins C dx (putF "hands" (.bl b) [("order", V.ref po), ("parents", .ref pp), ("kids", .ref pk), ("table", .ref pt)])))
    rw [putF_five]
    have tkk : TK H1 (upd H1 p (.ins C dx (tf5 po pp pk pt b))) := TK.ins hP.ob _
    refine q _ tk (fun b2 o2 hb => ?_) ⟨dx, po, pp, pk, pt, upd_same, ?_, ?_, ?_, ?_, ?_⟩ ?_
    · rw [upd_ne (ne_of_none hb p0)]
      exact hP.same _ _ hb
    · rw [upd_ne (ne_of hP.or_ hP.ob (by intro z; cases z))]
      exact hP.or_
    · rw [upd_ne (ne_of hP.pa hP.ob (by intro z; cases z))]
      exact hP.pa
    · rw [upd_ne (ne_of hP.tb hP.ob (by intro z; cases z))]
      exact hP.tb
    · refine paired_monoM (fun kv r hr z => ?_) hP.td
      obtain ⟨e1, d, e2, e3, e4, e5, e6, e7⟩ := z
      refine ⟨e1, d, e2, tkk.full ?_ ?_ e7⟩
      · obtain ⟨m, hm⟩ := List.mem_iff_getElem?.mp hr
        exact (hok m r hm).2.1
      · obtain ⟨fk, f1, _⟩ := e7
        rw [upd_ne (ne_of f1 hP.ob (by intro z; cases z))]
    · obtain ⟨ks, k1, k2, k3, _⟩ := hP.kd
      refine ⟨ks, (upd_ne (ne_of k1 hP.ob (by intro z; cases z))).trans k1, k2, fun kv hkv => ?_⟩
      obtain ⟨l, e1, e2, _⟩ := k3 kv hkv
      exact ⟨l, e1, (upd_ne (ne_of e2 hP.ob (by intro z; cases z))).trans e2⟩
    · intro kv hkv
      obtain ⟨m, hm⟩ := List.mem_iff_getElem?.mp hkv
      obtain ⟨r, _, _, d, e2, e3, _⟩ := paired_get hP.td hm
      exact ⟨d, e2, e3⟩

end
end Bd
end

section
namespace Bd
open PySem L2
abbrev sTEq : Stmt := (inClass (top 33) 1)
theorem scTEq : FnScope ["self", "other"] ["self", "other"] (defScope sTEq) := ⟨rfl, rfl, rfl, by decide +kernel, rfl, by decide +kernel, by decide +kernel⟩

def duesEqB (a b : List (Str × PyData)) : Bool := (List.zipWith (fun x y => PyData.eqv x.2 y.2) a b).all id
/-- dicts that two tables share tell the same dues -/
def ShareOk (tk tk' : List (Key × V)) (rows rows' : List RowM) : Prop := ∀ (i : Nat) (kv kv' : Key × V) (r r' : RowM), tk[i]? = some kv → tk'[i]? = some kv' → rows[i]? = some r → rows'[i]? = some r' → kv.2 = kv'.2 → fullD r.dues = fullD r'.dues
def treeEqB (rows : List RowM) (h : Bool) (rows' : List RowM) (h' : Bool) : Bool :=
  decide (rows.map (·.name) = rows'.map (·.name)) && (decide (rows.map (·.above) = rows'.map (·.above)) && ((List.zipWith (fun r r' => duesEqB (fullD r.dues) (fullD r'.dues)) rows rows').all id && decide (h = h')))
/-- three lists in step -/
inductive P3 {α β γ : Type} (F : α → β → γ → Prop) : List α → List β → List γ → Prop
  | nil : P3 F [] [] []
  | cons {a : α} {b : β} {c : γ} {as : List α} {bs : List β} {cs : List γ} : F a b c → P3 F as bs cs → P3 F (a :: as) (b :: bs) (c :: cs)
theorem hits_al {F : V → V → Bool → Prop} {ls : List (Key × V)} (nd : (ls.map (·.1)).Nodup) {ks us : List (Key × V)} {rs : List Bool} (h : P3 (fun (k u : Key × V) r => k.1 = u.1 ∧ F k.2 u.2 r) ks us rs) (hu : ∀ u ∈ us, u ∈ ls) : HitsV F ls ks (rs.all id) := by
  induction h with
  | nil => exact .nil
  | @cons k u r ks us rs h1 h2 ih =>
    obtain ⟨k1, k2⟩ := k
    have e : valV ls k1 = some u.2 := by
      have := val_nd nd u (hu u List.mem_cons_self)
      rw [← h1.1] at this
      exact this
    rw [List.all_cons]
    exact .hit e h1.2 (ih fun x hx => hu x (List.mem_cons_of_mem _ hx))
theorem eqv_strs : ∀ (xs ys : List Str), PyData.eqvAll (xs.map .str) (ys.map .str) = decide (xs = ys)
  | [], [] => by simp [PyData.eqvAll]
  | [], y :: ys => by simp [PyData.eqvAll]
  | x :: xs, [] => by simp [PyData.eqvAll]
  | x :: xs, y :: ys => by
    rw [List.map_cons, List.map_cons, PyData.eqvAll, eqv_strs xs ys, PyData.eqv]
    by_cases a : x = y
    · subst a
      simp
    · simp [a]
theorem eqv_strL (xs ys : List Str) : PyData.eqv (.list (xs.map .str)) (.list (ys.map .str)) = decide (xs = ys) := by
  rw [PyData.eqv]
  exact eqv_strs xs ys
theorem lay_strs : ∀ xs : List Str, (∀ x ∈ xs, PyData.canLay0 (.str x) = true) → PyData.canLayAll0 (xs.map .str) = true
  | [], _ => by simp [PyData.canLayAll0]
  | x :: xs, h => by
    rw [List.map_cons, PyData.canLayAll0, lay_strs xs fun y hy => h y (List.mem_cons_of_mem _ hy), h x List.mem_cons_self]
    rfl
theorem dep_strs : ∀ xs : List Str, PyData.depthAll (xs.map .str) = 0
  | [] => by simp [PyData.depthAll]
  | x :: xs => by
    rw [List.map_cons, PyData.depthAll, dep_strs xs, PyData.depth]
    rfl
theorem shaped_strs {xs : List Str} (h : ∀ x ∈ xs, PyData.canLay0 (.str x) = true) : SeqAt.shaped (.list (xs.map .str)) = true := by
  unfold SeqAt.shaped
  rw [PyData.canLay0, lay_strs xs h, PyData.depth, dep_strs]
  rfl
theorem lay_name {x : Str} (h : NameOk x) : PyData.canLay0 (.str x) = true := by
  have e : PyData.canLay0 (.str x) = x.cps.all (· < 0x110000) := by
    rw [PyData.canLay0]
    rfl
  rw [e, Array.all_eq_true']
  intro c hc
  have := (h.2.2 c (Array.mem_toList_iff.mpr hc)).2
  exact decide_eq_true (by omega)
theorem lay_ints : ∀ xs : List Int, PyData.canLayAll0 (xs.map .int) = true
  | [] => by simp [PyData.canLayAll0]
  | x :: xs => by
    rw [List.map_cons, PyData.canLayAll0, lay_ints xs, PyData.canLay0]
    rfl
theorem dep_ints : ∀ xs : List Int, PyData.depthAll (xs.map .int) = 0
  | [] => by simp [PyData.depthAll]
  | x :: xs => by
    rw [List.map_cons, PyData.depthAll, dep_ints xs, PyData.depth]
    rfl
theorem shaped_ints (xs : List Int) : SeqAt.shaped (.tuple (xs.map .int)) = true := by
  unfold SeqAt.shaped
  rw [PyData.canLay0, lay_ints xs, PyData.depth, dep_ints]
  rfl
theorem shaped_val {x : Str} {d : PyData} (h : ValOk x d) : SeqAt.shaped d = true := by
  cases h with
  | amt => exact shaped_ints [_, _]
  | endl => decide +kernel
  | none => decide +kernel
  | set => exact shaped_ints _
  | alone =>
    unfold SeqAt.shaped
    rw [PyData.canLay0, PyData.depth]
    rfl
theorem shaped_name {x : Str} (h : PyData.canLay0 (.str x) = true) : SeqAt.shaped (.str x) = true := by
  unfold SeqAt.shaped
  rw [h, PyData.depth]
  rfl
/-- aboves, too, are names or the root's -/
theorem lay_above {rows : List RowM} (h : RowsOk rows) {i : Nat} {r : RowM} (e : rows[i]? = some r) : PyData.canLay0 (.str r.above) = true := by
  rcases (h i r e).2.2.2 with z | ⟨q, hq, z, _⟩
  · rw [z]
    decide +kernel
  · rw [← z]
    obtain ⟨m, hm⟩ := List.mem_iff_getElem?.mp (List.mem_of_mem_take hq)
    exact lay_name (h m q hm).1
theorem dp_strs {K : PySem.W.Frag} {H : Hp} : ∀ xs : List Str, DpAll K H (xs.map V.str) (xs.map .str)
  | [] => .nil
  | x :: xs => .cons (.str x) (dp_strs xs)
/-- a thing that is no instance of the class -/
def NonIns (K : PySem.W.Frag) (H : Hp) (C : Addr) (y : V) : Prop := ∃ t, TyX K H y t ∧ PySem.W.kitOne K t (.ref C) = some false
/-- what isinstance asks of the class -/
structure TI (K : PySem.W.Frag) (C : Addr) : Prop where
  ha : PySem.W.findIn K (.ref C) "__class__" = some (some (.builtin "object.__class__"))
  hn : PySem.W.specialIn K (.builtin "object.__class__") "__get__" = some (some (.builtin "getset_descriptor.__get__"))
  htk : PySem.W.takesIn K (.builtin "object.__class__") = some true
  hm : PySem.W.mroIn K C (.type "object") = some true
def spTEq (K : PySem.W.Frag) (C : Addr) : Sp := fun vs H Q _ => ∃ (p : Addr) (y : V) (rows : List RowM) (h : Bool) (tk : List (Key × V)), vs = [.ref p, y] ∧ TreeAt K H C p rows h tk ∧ RowsOk rows ∧
  ((NonIns K H C y ∧ Q (.bl false) H) ∨ ∃ p' rows' h' tk', y = .ref p' ∧ TreeAt K H C p' rows' h' tk' ∧ RowsOk rows' ∧ ShareOk tk tk' rows rows' ∧ Q (.bl (treeEqB rows h rows' h')) H)
section
variable {P : Program} {w : World} {K : PySem.W.Frag} {mg : Str → Option Value} {base : Heap} {aL C : Addr} {left : List (Key × V)}
theorem hu100 {A : Around} {k : Nat} (hr : Room k A) : A.units + 100 < cLine := by
  have := hr.un
  omega
theorem p3_dues {H : Hp} : ∀ {kvs lvs : List (Key × V)} {a b : List (Str × PyData)}, Paired (PV K H) kvs a → Paired (PV K H) lvs b → a.map (·.1) = b.map (·.1) → (∀ x ∈ a, ValOk x.1 x.2) → (∀ x ∈ b, ValOk x.1 x.2) →
    P3 (fun (k u : Key × V) r => k.1 = u.1 ∧ EqF K H 0 k.2 u.2 r) kvs lvs (List.zipWith (fun x y => PyData.eqv x.2 y.2) a b)
  | _, _, _, _, .nil, .nil, _, _, _ => .nil
  | _, _, _, _, .cons x1 x2, .cons y1 y2, e, h1, h2 => by
    rw [List.map_cons, List.map_cons] at e
    injection e with e1 e2
    exact .cons ⟨by rw [x1.1, y1.1, e1], _, _, x1.2, y1.2, shaped_val (h1 _ List.mem_cons_self), shaped_val (h2 _ List.mem_cons_self), rfl⟩ (p3_dues x2 y2 e2 (fun z hz => h1 z (List.mem_cons_of_mem _ hz)) fun z hz => h2 z (List.mem_cons_of_mem _ hz))
  | _, _, _, _, .nil, .cons _ _, e, _, _ => by cases e
  | _, _, _, _, .cons _ _, .nil, e, _, _ => by cases e
theorem fullD_keys (a : List (Str × PyData)) : (fullD a).map (·.1) = leftW := by
  rw [← leftD_words]
  unfold fullD
  rw [List.map_map]
  rfl
theorem full_nd {H : Hp} {kvs : List (Key × V)} {a : List (Str × PyData)} (h : Paired (PV K H) kvs (fullD a)) : (kvs.map (·.1)).Nodup := by
  have e : (fullD a).map (fun du => (Sum.inr du.1 : Key)) = leftW.map fun x => (Sum.inr x : Key) := by
    rw [← fullD_keys a, List.map_map]
    rfl
  rw [pv_keys h, e]
  exact nodup_inr leftW_nd
theorem lay_val {x : Str} {d : PyData} (h : ValOk x d) : PyData.canLay0 d = true ∧ PyData.depth d ≤ 1 ∧ PyData.eqv d d = true := by
  have hI : ∀ xs : List Int, PyData.canLay0 (.tuple (xs.map .int)) = true ∧ PyData.depth (.tuple (xs.map .int)) ≤ 1 ∧ PyData.eqv (.tuple (xs.map .int)) (.tuple (xs.map .int)) = true := fun xs => by
    refine ⟨by rw [PyData.canLay0, lay_ints], by rw [PyData.depth, dep_ints]; exact Nat.le_refl _, ?_⟩
    rw [PyData.eqv]
    induction xs with
    | nil => rfl
    | cons a r ih =>
      rw [List.map_cons, PyData.eqvAll, ih, PyData.eqv]
      simp
  cases h with
  | amt => exact hI [_, _]
  | endl => exact ⟨by decide +kernel, by decide +kernel, by decide +kernel⟩
  | none => exact ⟨by decide +kernel, by decide +kernel, by decide +kernel⟩
  | set => exact hI _
  | alone =>
    refine ⟨by rw [PyData.canLay0] <;> rfl, by rw [PyData.depth]; exact Nat.zero_le _, ?_⟩
    rw [PyData.eqv]
    simp
theorem dues_refl : ∀ {a : List (Str × PyData)}, (∀ x ∈ a, ValOk x.1 x.2) → duesEqB a a = true
  | [], _ => rfl
  | x :: a, h => by
    have ih := dues_refl (a := a) fun y hy => h y (List.mem_cons_of_mem _ hy)
    unfold duesEqB at ih ⊢
    rw [List.zipWith_cons_cons, List.all_cons, ih, (lay_val (h x List.mem_cons_self)).2.2]
    rfl
theorem p3_table {H : Hp} : ∀ {tk tk' : List (Key × V)} {rows rows' : List RowM}, Paired (fun (kv : Key × V) (r : RowM) => kv.1 = (Sum.inr r.name : Key) ∧ ∃ d, kv.2 = .ref d ∧ FullAt K H d r.dues) tk rows →
    Paired (fun (kv : Key × V) (r : RowM) => kv.1 = (Sum.inr r.name : Key) ∧ ∃ d, kv.2 = .ref d ∧ FullAt K H d r.dues) tk' rows' → rows.map (·.name) = rows'.map (·.name) → (∀ r ∈ rows, DuesOk r.dues) → (∀ r ∈ rows', DuesOk r.dues) →
    ShareOk tk tk' rows rows' → P3 (fun (k u : Key × V) r => k.1 = u.1 ∧ EqF K H 1 k.2 u.2 r) tk tk' (List.zipWith (fun r r' => duesEqB (fullD r.dues) (fullD r'.dues)) rows rows')
  | _, _, _, _, .nil, .nil, _, _, _, _ => .nil
  | _, _, _, _, .cons (a := kv) (b := r) x1 x2, .cons (a := kv') (b := r') y1 y2, e, h1, h2, h3 => by
    rw [List.map_cons, List.map_cons] at e
    injection e with e1 e2
    obtain ⟨k1, d, k2, fk, f1, f2⟩ := x1
    obtain ⟨l1, d', l2, gk, g1, g2⟩ := y1
    have ih := p3_table x2 y2 e2 (fun z hz => h1 z (List.mem_cons_of_mem _ hz)) (fun z hz => h2 z (List.mem_cons_of_mem _ hz)) fun i kv kv' r r' a b c d => h3 (i + 1) kv kv' r r' (by simpa using a) (by simpa using b) (by simpa using c) (by simpa using d)
    by_cases dd : d = d'
    · have ef := h3 0 kv kv' r r' rfl rfl rfl rfl (by rw [k2, l2, dd])
      exact .cons ⟨by rw [k1, l1, e1], d, d', k2, l2, .inl ⟨dd, by show duesEqB (fullD r.dues) (fullD r'.dues) = true; rw [← ef]; exact dues_refl (fullD_ok (h1 _ List.mem_cons_self))⟩⟩ ih
    refine .cons ⟨by rw [k1, l1, e1], d, d', k2, l2, .inr ⟨dd, fk, gk, _, f1, g1, fun _ => hits_al (full_nd g2) (p3_dues f2 g2 ?_ ?_ ?_) fun u hu => hu, ?_⟩⟩ ih
    · rw [fullD_keys, fullD_keys]
    · exact fullD_ok (h1 _ List.mem_cons_self)
    · exact fullD_ok (h2 _ List.mem_cons_self)
    · have z1 : fk.length = gk.length := by
        rw [Paired.length f2, Paired.length g2]
        unfold fullD
        rw [List.length_map, List.length_map]
      unfold duesEqB
      rw [z1]
      simp
  | _, _, _, _, .nil, .cons _ _, e, _, _, _ => by cases e
  | _, _, _, _, .cons _ _, .nil, e, _, _, _ => by cases e
theorem p3_above {H : Hp} : ∀ {rows rows' : List RowM}, rows.map (·.name) = rows'.map (·.name) → (∀ r ∈ rows, PyData.canLay0 (.str r.above) = true) → (∀ r ∈ rows', PyData.canLay0 (.str r.above) = true) →
    P3 (fun (k u : Key × V) r => k.1 = u.1 ∧ EqF K H 0 k.2 u.2 r) (rows.map fun r => ((Sum.inr r.name : Key), V.str r.above)) (rows'.map fun r => ((Sum.inr r.name : Key), V.str r.above)) (List.zipWith (fun r r' => decide (r.above = r'.above)) rows rows')
  | [], [], _, _, _ => .nil
  | r :: rows, r' :: rows', e, h1, h2 => by
    rw [List.map_cons, List.map_cons] at e
    injection e with e1 e2
    refine .cons ⟨congrArg Sum.inr e1, _, _, .str _, .str _, shaped_name (h1 _ List.mem_cons_self), shaped_name (h2 _ List.mem_cons_self), ?_⟩ (p3_above e2 (fun z hz => h1 z (List.mem_cons_of_mem _ hz)) fun z hz => h2 z (List.mem_cons_of_mem _ hz))
    rw [PyData.eqv]
    show decide (r.above = r'.above) = (r.above == r'.above)
    by_cases c : r.above = r'.above
    · rw [decide_eq_true c, c]
      exact (beq_self_eq_true _).symm
    · rw [decide_eq_false c]
      exact (beq_eq_false_iff_ne.mpr c).symm
  | [], _ :: _, e, _, _ => by cases e
  | _ :: _, [], e, _, _ => by cases e
theorem above_all : ∀ {rows rows' : List RowM}, rows.length = rows'.length → (List.zipWith (fun (r r' : RowM) => decide (r.above = r'.above)) rows rows').all id = decide (rows.map (·.above) = rows'.map (·.above))
  | [], [], _ => by simp
  | r :: rows, r' :: rows', e => by
    rw [List.zipWith_cons_cons, List.all_cons, above_all (by simpa using e), List.map_cons, List.map_cons]
    by_cases c : r.above = r'.above
    · simp [c]
    · simp [c]
  | [], _ :: _, e => by cases e
  | _ :: _, [], e => by cases e
theorem ok_teq {f : Addr} {fd : FuncData} (F : Fun K "__eq__" "Tree.__eq__" sTEq f fd) (T : TP P w K mg aL left) (TCl : TC K mg C) (TIs : TI K C) : FnOk P w K mg base CX0 1 f fd ["self", "other"] (spTEq K C) := by
  refine F.ok scTEq (fun vs H Q E h => ?_) (fun cdv A outer s H vs Q E hr h => ?_)
  · obtain ⟨p, y, rows, h, tk, rfl, _⟩ := h
    rfl
  obtain ⟨p, y, rows, h, tk, rfl, ht, hok, hy⟩ := h
  refine ⟨_, (pss_one (ps_ret (pe_and (pe_callB call_isi (by rfl) T.z_isinstance (by decide +kernel) (pa_cons (pv 1) (pa_cons (pe_glob (v := .ref C) rfl TCl.g_Tree rfl) pa_nil))) (pe_and (pe_cmpR (op_eqD hr.units) (pe_fld (pv 0) rfl) (pe_fld (pv 1) rfl) (nomark _)) (pe_and (pe_cmpR (op_eqF (hu100 hr)) (pe_fld (pv 0) rfl) (pe_fld (pv 1) rfl) (nomark _)) (pe_and (pe_cmpR (op_eqF (hu100 hr)) (pe_fld (pv 0) rfl) (pe_fld (pv 1) rfl) (nomark _)) (pe_one (pe_cmpR op_eq (pe_fld (pv 0) rfl) (pe_fld (pv 1) rfl) (nomark _))))))))), ?_⟩
  rcases hy with ⟨⟨t, ty, kt⟩, q⟩ | ⟨p', rows', h', tk', rfl, ht', hok', hdis, q⟩
  · exact ⟨_, rfl, _, _, _, _, false, rfl, .own C, ty, kt, false, rfl, iteF q⟩
  obtain ⟨dx, po, pp, pk, pt, o1, o2, o3, o4, o5, _⟩ := ht
  obtain ⟨dx', po', pp', pk', pt', w1, w2, w3, w4, w5, _⟩ := ht'
  refine ⟨_, rfl, _, _, _, _, true, rfl, .own C, .base (.ins w1 TCl.cl TIs.ha TIs.hn TIs.htk TIs.hm), by simp [PySem.W.kitOne], true, rfl, iteT ?_⟩
  refine ⟨_, rfl, p, C, dx, _, _, rfl, o1, TCl.cl, TCl.n_order, tf5_order, _, rfl, p', C, dx', _, _, rfl, w1, TCl.cl, TCl.n_order, tf5_order, ?_⟩
  have mem : ∀ {rs : List RowM}, RowsOk rs → ∀ r ∈ rs, NameOk r.name ∧ DuesOk r.dues ∧ PyData.canLay0 (.str r.above) = true := fun ok r hr => by
    obtain ⟨m, hm⟩ := List.mem_iff_getElem?.mp hr
    exact ⟨(ok m r hm).1, (ok m r hm).2.1, lay_above ok hm⟩
  have lays : ∀ {rs : List RowM}, RowsOk rs → ∀ x ∈ rs.map (·.name), PyData.canLay0 (.str x) = true := fun ok x hx => by
    obtain ⟨r, hr, rfl⟩ := List.mem_map.mp hx
    exact lay_name (mem ok r hr).1
  refine ⟨.list ((rows.map (·.name)).map .str), .list ((rows'.map (·.name)).map .str), .lst (SqL.of o2) ?_, .lst (SqL.of w2) ?_, shaped_strs (lays hok), shaped_strs (lays hok'), ?_⟩
  · have := dp_strs (K := K) (H := H) (rows.map (·.name))
    rw [List.map_map] at this
    exact this
  · have := dp_strs (K := K) (H := H) (rows'.map (·.name))
    rw [List.map_map] at this
    exact this
  rw [eqv_strL]
  unfold treeEqB at q
  by_cases en : rows.map (·.name) = rows'.map (·.name)
  · rw [decide_eq_true en]
    rw [decide_eq_true en, Bool.true_and] at q
    have el : rows.length = rows'.length := by
      have := congrArg List.length en
      simpa using this
    refine ⟨true, rfl, iteT ?_⟩
    refine ⟨_, rfl, p, C, dx, _, _, rfl, o1, TCl.cl, TCl.n_parents, tf5_parents, _, rfl, p', C, dx', _, _, rfl, w1, TCl.cl, TCl.n_parents, tf5_parents, ?_⟩
    have ndp : ((rows'.map fun r => ((Sum.inr r.name : Key), V.str r.above)).map (·.1)).Nodup := by
      have := names_nd hok' rows'.length
      rw [List.take_length] at this
      have := nodup_inr this
      rw [List.map_map] at this ⊢
      exact this
    refine ⟨pp, pp', _, _, _, 0, by decide, rfl, rfl, o3, w3, fun _ => hits_al ndp (p3_above en (fun r hr => (mem hok r hr).2.2) fun r hr => (mem hok' r hr).2.2) fun u hu => hu, ?_⟩
    rw [above_all el, List.length_map, List.length_map, el, beq_self_eq_true, Bool.true_and]
    by_cases ea : rows.map (·.above) = rows'.map (·.above)
    · rw [decide_eq_true ea]
      rw [decide_eq_true ea, Bool.true_and] at q
      refine ⟨true, rfl, iteT ?_⟩
      refine ⟨_, rfl, p, C, dx, _, _, rfl, o1, TCl.cl, TCl.n_table, tf5_table, _, rfl, p', C, dx', _, _, rfl, w1, TCl.cl, TCl.n_table, tf5_table, ?_⟩
      have ndt : (tk'.map (·.1)).Nodup := by
        rw [td_keys (fun _ _ z => z.1) w5]
        rw [List.map_map] at ndp
        exact ndp
      refine ⟨pt, pt', _, _, _, 1, by decide, rfl, rfl, o4, w4, fun _ => hits_al ndt (p3_table o5 w5 en (fun r hr => (mem hok r hr).2.1) (fun r hr => (mem hok' r hr).2.1) hdis) fun u hu => hu, ?_⟩
      rw [Paired.length o5, Paired.length w5, el, beq_self_eq_true, Bool.true_and]
      cases et : (List.zipWith (fun r r' => duesEqB (fullD r.dues) (fullD r'.dues)) rows rows').all id with
      | false =>
        rw [et, Bool.false_and] at q
        exact ⟨false, rfl, iteF q⟩
      | true =>
        rw [et, Bool.true_and] at q
        refine ⟨true, rfl, iteT ?_⟩
        refine ⟨_, rfl, p, C, dx, _, _, rfl, o1, TCl.cl, TCl.n_hands, tf5_hands, _, rfl, p', C, dx', _, _, rfl, w1, TCl.cl, TCl.n_hands, tf5_hands, rfl, ?_⟩
        have e : decide (V.bl h = V.bl h') = decide (h = h') := by
          by_cases c : h = h'
          · rw [c]
            simp
          · rw [decide_eq_false c, decide_eq_false fun z => c (V.bl.inj z)]
        show Q (.bl (decide (V.bl h = V.bl h'))) H
        rw [e]
        exact q
    · rw [decide_eq_false ea]
      rw [decide_eq_false ea, Bool.false_and] at q
      exact ⟨false, rfl, iteF q⟩
  · rw [decide_eq_false en]
    rw [decide_eq_false en, Bool.false_and] at q
    exact ⟨false, rfl, iteF q⟩
end
end Bd
end

section
namespace Bd
open PySem L2
abbrev sNames2 : Stmt := (top 45)
theorem scNames2 : FnScope ["_law_source_here", "_law_many", "_law_some", "_law_found", "_law_turn"] ["_law_source_here", "_law_many"] (defScope sNames2) := ⟨rfl, rfl, rfl, by decide +kernel, rfl, by decide +kernel, by decide +kernel⟩
abbrev sWords : Stmt := (top 49)
theorem scWords : FnScope [] [] (defScope sWords) := ⟨rfl, rfl, rfl, by decide +kernel, rfl, by decide +kernel, by decide +kernel⟩
abbrev sValue2 : Stmt := (top 50)
theorem scValue2 : FnScope ["_law_source_here", "_law_word"] ["_law_source_here", "_law_word"] (defScope sValue2) := ⟨rfl, rfl, rfl, by decide +kernel, rfl, by decide +kernel, by decide +kernel⟩

def menu : List Str := ["a", "b", "c", "d", "e", "f", "g", "h", "k", "m", "pit", "shed", "tenletters", "zz"]
def bigD : PyData := .tuple [.int (10 ^ 15 + 1), .int 1]
def spWords : Sp := fun vs H Q _ => vs = [] ∧ ∀ r, H r = none → Q (.ref r) (upd H r (.lst (leftW.map .str)))
def spNames2 : Sp := fun vs H Q _ => ∃ (s : Addr) (m : Nat), vs = [.ref s, .int (m : Int)] ∧ Src H s ∧ m ≤ 12 ∧
  ∀ r H' (xs : List Str), H r = none → H' r = some (.lst (xs.map .str)) → xs.Nodup → (∀ x ∈ xs, x ∈ menu) → xs.length = m → Src H' s → Kept s H H' → Q (.ref r) H'
def spValue (K : PySem.W.Frag) : Sp := fun vs H Q _ => ∃ (s : Addr) (x : Str), vs = [.ref s, .str x] ∧ Src H s ∧ x ∈ leftW ∧
  ∀ v d H', ValOk x d → d ≠ bigD → Dp K H' v d → Src H' s → Kept s H H' → Q v H'
section
variable {P : Program} {w : World} {K : PySem.W.Frag} {mg : Str → Option Value} {base : Heap}
theorem src_ne {H : Hp} {p r : Addr} (h : Src H p) (hr : H r = none) : p ≠ r := by
  obtain ⟨_, _, _, h⟩ := h
  exact ne_of_none h hr
theorem src_new {H : Hp} {p r : Addr} {o : HO} (h : Src H p) (hr : H r = none) : Src (upd H r o) p := by
  have n := src_ne h hr
  obtain ⟨x, y, z, h⟩ := h
  exact ⟨x, y, z, by rw [upd_ne n]; exact h⟩
theorem src_upd {H : Hp} {p r : Addr} {o : HO} (h : Src H p) (hr : p ≠ r) : Src (upd H r o) p := by
  obtain ⟨x, y, z, h⟩ := h
  exact ⟨x, y, z, by rw [upd_ne hr]; exact h⟩
theorem ok_words {f : Addr} {fd : FuncData} (F : Fun K "_law_words" "_law_words" sWords f fd) : FnOk P w K mg base CX0 1 f fd [] spWords := by
  refine F.ok scWords (fun vs H Q E h => ?_) (fun cdv A outer s H vs Q E hr h => ?_)
  · obtain ⟨rfl, _⟩ := h
    rfl
  obtain ⟨rfl, q⟩ := h
  refine ⟨_, (pss_one (ps_ret (pe_lst (pa_cons pe_str (pa_cons pe_str (pa_cons pe_str (pa_cons pe_str (pa_cons pe_str (pa_cons pe_str (pa_cons pe_str (pa_cons pe_str pa_nil))))))))))), ?_⟩
  refine ⟨by show 8 ≤ sizeLine; decide, fun r hr' => ?_⟩
  exact q r hr'

theorem seq_nat {k n : Nat} (h : k < n) : seqIndex? (k : Int) n = some k := by
  rw [seqIndex_of (by omega) (by omega)]
  rfl
theorem map_erase {α β : Type} (f : α → β) : ∀ (xs : List α) (i : Nat), (xs.map f).eraseIdx i = (xs.eraseIdx i).map f
  | [], _ => rfl
  | x :: xs, 0 => rfl
  | x :: xs, i + 1 => by
    rw [List.map_cons, List.eraseIdx_cons_succ, List.eraseIdx_cons_succ, List.map_cons, map_erase f xs i]
theorem perm_erase {α : Type} : ∀ (ys : List α) (k : Nat) (h : k < ys.length), (ys[k] :: ys.eraseIdx k).Perm ys
  | y :: ys, 0, _ => List.Perm.refl _
  | y :: ys, k + 1, h => by
    rw [List.eraseIdx_cons_succ, List.getElem_cons_succ]
    exact (List.Perm.swap _ _ _).trans ((perm_erase ys k (by simpa using h)).cons y)
theorem ok_names2 {f g : Addr} {fd gd : FuncData} (F : Fun K "_law_names" "_law_names" sNames2 f fd) (T : TA mg) (cN : Cal P w K mg base "_law_next" ["_law_source_here", "_law_many"] 2 spNext g gd) : FnOk P w K mg base CX0 3 f fd ["_law_source_here", "_law_many"] spNames2 := by
  refine F.ok scNames2 (fun vs H Q E h => ?_) (fun cdv A outer s H vs Q E hr h => ?_)
  · obtain ⟨p, m, rfl, _⟩ := h
    rfl
  obtain ⟨p, m, rfl, hp, hm, q⟩ := h
  refine ⟨_, (pss_cons (ps_set (i := 2) scNames2.nd rfl (Or.inl rfl) (pe_lst (pa_cons pe_str (pa_cons pe_str (pa_cons pe_str (pa_cons pe_str (pa_cons pe_str (pa_cons pe_str (pa_cons pe_str (pa_cons pe_str (pa_cons pe_str (pa_cons pe_str (pa_cons pe_str (pa_cons pe_str (pa_cons pe_str (pa_cons pe_str pa_nil)))))))))))))))) (pss_cons (ps_set (i := 3) scNames2.nd rfl (Or.inl rfl) (pe_lst pa_nil)) (pss_cons (ps_for PassesOwn.never rfl (pi_range1 rfl T.z_range (pa_cons (pv 1) pa_nil)) (pg_name (i := 4) scNames2.nd rfl (Or.inl rfl)) (pss_one (ps_expr (pe_bm PySem.F.plainAttrs_list PySem.F.slot_list_append PySem.F.type_list_append mt_append (pv 3) (pa_cons (pe_bm PySem.F.plainAttrs_list PySem.F.slot_list_pop PySem.F.type_list_pop mt_popAt (pv 2) (pa_cons (pe_call cN.ok (hr.mono (by decide)) rfl cN.mg cN.kp cN.bd .nil pass0 (pa_cons (pv 0) (pa_cons (pe_callB call_len_seq (by rfl) T.z_len PySem.boot_len (pa_cons (pv 2) pa_nil)) pa_nil))) pa_nil)) pa_nil))))) (pss_one (ps_ret (pv 3)))))), ?_⟩
  refine ⟨by show 14 ≤ sizeLine; decide, fun a ha => ?_⟩
  refine ⟨Nat.zero_le _, fun r hr' => ?_⟩
  obtain ⟨nra, hr0⟩ := none_upd hr'
  have npa := src_ne hp ha
  have npr := src_ne hp hr0
  refine ⟨_, rfl, _, rfl, ?_, ?_, for_range (n := m) (fun i σ H' => ∃ (o : Option V) (xs ys : List Str), σ = [some (.ref p), some (.int (m : Int)), some (.ref a), some (.ref r), o] ∧ Src H' p ∧ Kept p H H' ∧ H' a = some (.lst (ys.map .str)) ∧ H' r = some (.lst (xs.map .str)) ∧ (xs ++ ys).Perm menu ∧ xs.length = i)
    ⟨none, [], menu, rfl, src_new (src_new hp ha) hr', ((Kept.refl p H).new ha _).new hr' _, by rw [upd_ne nra.symm]; exact upd_same, upd_same, List.Perm.refl _, rfl⟩ ?_ ?_⟩
  · omega
  · omega
  · rintro i σ H1 hi ⟨o, xs, ys, rfl, hs, k1, ea, er, hperm, hlen⟩
    have l14 : (xs ++ ys).length = 14 := hperm.length_eq
    rw [List.length_append] at l14
    have yl : (ys.map V.str).length = ys.length := List.length_map _
    refine ⟨_, rfl, .inl ⟨rfl, _, SqL.of er⟩, _, rfl, .inl ⟨rfl, _, SqL.of ea⟩, _, rfl, _, rfl, a, _, rfl, .inl (SqL.of ea), p, (ys.map V.str).length, rfl, hs, by omega, by omega, fun k H2 hk hs2 kk => ?_⟩
    have ea2 := kk a _ npa.symm ea
    have er2 := kk r _ npr.symm er
    have hk' : k < ys.length := by omega
    have hy : (ys.map V.str)[k]? = some (V.str ys[k]) := by rw [List.getElem?_map, List.getElem?_eq_getElem hk']; rfl
    refine ⟨a, _, (k : Int), k, V.str ys[k], rfl, rfl, ea2, by omega, by omega, seq_nat (by omega), hy, r, _, _, rfl, rfl, (upd_ne nra).trans er2, ?_, ?_⟩
    · rw [List.length_map]
      exact small1000 (by omega)
    · refine ⟨_, xs ++ [ys[k]], ys.eraseIdx k, rfl, src_upd (src_upd hs2 npa) npr, ?_, ?_, ?_, ?_, ?_⟩
      · intro b2 o2 hb e
        have e1 := k1 b2 o2 hb e
        have e2 := kk b2 o2 hb e1
        rw [upd_ne (ne_of_none e hr0), upd_ne (ne_of_none e ha)]
        exact e2
      · rw [upd_ne nra.symm, upd_same, map_erase]
      · rw [upd_same, List.map_append]
        rfl
      · refine List.Perm.trans ?_ hperm
        rw [List.append_assoc]
        exact (List.perm_append_left_iff xs).mpr (perm_erase ys k hk')
      · rw [List.length_append, hlen]
        rfl
  · rintro σ H1 ⟨o, xs, ys, rfl, hs, k1, ea, er, hperm, hlen⟩
    have nd : (xs ++ ys).Nodup := hperm.nodup_iff.mpr (by decide +kernel)
    exact ⟨_, rfl, q r H1 xs hr0 er (List.nodup_append.mp nd).1 (fun x hx => hperm.mem_iff.mp (List.mem_append_left _ hx)) hlen hs k1⟩

theorem big_pow : 10 ^ 13 < 2 ^ 3000 := by decide +kernel
theorem amt_val {x : Str} {n d : Nat} (hx : x ∈ (["min", "low", "burst", "max", "quota", "tops"] : List Str)) (h : AmtOk n d) : ValOk x (.tuple [.int n, .int d]) ∧ (PyData.tuple [.int n, .int d]) ≠ bigD := by
  obtain ⟨h1, h2, h3, h4⟩ := h
  refine ⟨.amt hx (Nat.lt_of_le_of_lt h3 (big_pow)) h1 (Nat.lt_of_le_of_lt h4 big_pow) h2, fun e => ?_⟩
  unfold bigD at e
  injection e with e
  injection e with e _
  injection e with e
  omega
theorem amt_dp {H : Hp} {v : V} {n d : Nat} (h : AmtAt H v n d) : Dp K H v (.tuple [.int n, .int d]) := by
  obtain ⟨p, rfl, h⟩ := h
  exact .tup (SqT.of h) (.cons (.int _) (.cons (.int _) .nil))
theorem ok_value {f g e c : Addr} {fd gd ed cd : FuncData} (F : Fun K "_law_value" "_law_value" sValue2 f fd) (cN : Cal P w K mg base "_law_next" ["_law_source_here", "_law_many"] 2 spNext g gd) (cA : Cal P w K mg base "_law_amount" ["_law_source_here"] 3 spAmount e ed)
    (cO : Cal P w K mg base "_law_one" ["_law_source_here", "_law_things"] 3 (spOne K) c cd) : FnOk P w K mg base CX0 4 f fd ["_law_source_here", "_law_word"] (spValue K) := by
  refine F.ok scValue2 (fun vs H Q E h => ?_) (fun cdv A outer s H vs Q E hr h => ?_)
  · obtain ⟨p, m, rfl, _⟩ := h
    rfl
  obtain ⟨p, x, rfl, hp, hx, q⟩ := h
  have amt : ∀ H1, Src H1 p → Kept p H H1 → x ∈ (["min", "low", "burst", "max", "quota", "tops"] : List Str) → spAmount [.ref p] H1 Q E0 := fun H1 h1 k1 hx => ⟨p, rfl, h1, fun v n d H2 ok at_ s2 k2 => q v _ H2 (amt_val hx ok).1 (amt_val hx ok).2 (amt_dp at_) s2 (k1.trans k2)⟩
  refine ⟨_, (pss_cons (ps_if (pt_cmpR op_in_seq (pv 1) (pe_tup (pa_cons pe_str (pa_cons pe_str (pa_cons pe_str pa_nil)))) (by first | exact nomark _ | rfl)) (pss_one (ps_ret (pe_call cA.ok (hr.mono (by decide)) rfl cA.mg cA.kp cA.bd .nil pass0 (pa_cons (pv 0) pa_nil)))) pss_nil) (pss_cons (ps_if (pt_cmpR op_in_seq (pv 1) (pe_tup (pa_cons pe_str (pa_cons pe_str (pa_cons pe_str pa_nil)))) (by first | exact nomark _ | rfl)) (pss_one (ps_ret (pe_ifExp (pt_cmpR op_eq (pe_call cN.ok (hr.mono (by decide)) rfl cN.mg cN.kp cN.bd .nil pass0 (pa_cons (pv 0) (pa_cons pe_int pa_nil))) pe_int (nomark _)) pe_str (pe_call cA.ok (hr.mono (by decide)) rfl cA.mg cA.kp cA.bd .nil pass0 (pa_cons (pv 0) pa_nil))))) pss_nil) (pss_cons (ps_if (pt_cmpR op_eq (pv 1) pe_str (nomark _)) (pss_one (ps_ret (pe_call cO.ok (hr.mono (by decide)) rfl cO.mg cO.kp cO.bd .nil pass0 (pa_cons (pv 0) (pa_cons (pe_lst (pa_cons pe_non (pa_cons (pe_tup pa_nil) (pa_cons (pe_tup (pa_cons pe_int pa_nil)) (pa_cons (pe_tup (pa_cons pe_int pa_nil)) (pa_cons (pe_tup (pa_cons pe_int (pa_cons pe_int (pa_cons pe_int pa_nil)))) pa_nil)))))) pa_nil))))) pss_nil) (pss_one (ps_ret (pe_call cN.ok (hr.mono (by decide)) rfl cN.mg cN.kp cN.bd .nil pass0 (pa_cons (pv 0) (pa_cons pe_int pa_nil)))))))), ?_⟩
  refine ⟨_, rfl, by show 3 ≤ sizeLine; decide, fun a ha => ⟨a, _, rfl, .inr (SqT.of upd_same), rfl, rfl, ?_⟩⟩
  have s1 := src_new (o := .tup [.str "min", .str "low", .str "burst"]) hp ha
  have k1 := (Kept.refl p H).new ha (.tup [.str "min", .str "low", .str "burst"])
  simp only [leftW, List.mem_cons, List.not_mem_nil, or_false] at hx
  have no1 : ∀ {G : Prop}, True → G → G := fun _ g => g
  have ints_ok : ∀ {H1 : Hp} {t : Addr} {xs : List Int}, x = "sets" → RiseOk (-1) xs → xs.length ≤ 64 → xs.length ≠ 2 → SqT K H1 t (xs.map V.int) → Src H1 p → Kept p H H1 → Q (.ref t) H1 := fun {H1 t xs} hx h1 h2 h3 h4 h5 h6 => by
    subst hx
    refine q _ (.tuple (xs.map .int)) H1 (.set h1 h2) (fun e => ?_) (.tup h4 (dp_ofints xs)) h5 h6
    unfold bigD at e
    injection e with e
    have := congrArg List.length e
    rw [List.length_map] at this
    exact h3 this
  rcases hx with rfl | rfl | rfl | rfl | rfl | rfl | rfl | rfl
  · exact ⟨true, congrArg V.bl (by decide +kernel), iteT ⟨_, rfl, amt _ s1 k1 (by decide +kernel)⟩⟩
  · exact ⟨true, congrArg V.bl (by decide +kernel), iteT ⟨_, rfl, amt _ s1 k1 (by decide +kernel)⟩⟩
  iterate 2
    · refine ⟨false, congrArg V.bl (by decide +kernel), iteF ?_⟩
      refine ⟨_, rfl, by show 3 ≤ sizeLine; decide, fun a2 ha2 => ⟨a2, _, rfl, .inr (SqT.of upd_same), rfl, rfl, true, congrArg V.bl (by decide +kernel), iteT ?_⟩⟩
      refine ⟨_, rfl, p, 3, rfl, src_new s1 ha2, by decide, by decide, fun v H3 hv s3 k3 => ⟨rfl, _, rfl, ?_⟩⟩
      have k4 := (k1.new ha2 (.tup [.str "max", .str "quota", .str "tops"])).trans k3
      refine ite2 (fun _ => ?_) (fun _ => ?_)
      · exact q _ (.str "endless") H3 (.endl (by decide +kernel)) (fun e => by cases e) (.str _) s3 k4
      · exact ⟨_, rfl, amt _ s3 k4 (by decide +kernel)⟩
  · exact ⟨true, congrArg V.bl (by decide +kernel), iteT ⟨_, rfl, amt _ s1 k1 (by decide +kernel)⟩⟩
  · refine ⟨false, congrArg V.bl (by decide +kernel), iteF ?_⟩
    refine ⟨_, rfl, by show 3 ≤ sizeLine; decide, fun a2 ha2 => ⟨a2, _, rfl, .inr (SqT.of upd_same), rfl, rfl, true, congrArg V.bl (by decide +kernel), iteT ?_⟩⟩
    refine ⟨_, rfl, p, 3, rfl, src_new s1 ha2, by decide, by decide, fun v H3 hv s3 k3 => ⟨rfl, _, rfl, ?_⟩⟩
    have k4 := (k1.new ha2 (.tup [.str "max", .str "quota", .str "tops"])).trans k3
    refine ite2 (fun _ => ?_) (fun _ => ?_)
    · exact q _ (.str "endless") H3 (.endl (by decide +kernel)) (fun e => by cases e) (.str _) s3 k4
    · exact ⟨_, rfl, amt _ s3 k4 (by decide +kernel)⟩
  · refine ⟨false, congrArg V.bl (by decide +kernel), iteF ?_⟩
    refine ⟨_, rfl, by show 3 ≤ sizeLine; decide, fun a2 ha2 => ⟨a2, _, rfl, .inr (SqT.of upd_same), rfl, rfl, false, congrArg V.bl (by decide +kernel), iteF ?_⟩⟩
    have s2 := src_new (o := .tup [.str "max", .str "quota", .str "tops"]) s1 ha2
    have k2 := k1.new ha2 (.tup [.str "max", .str "quota", .str "tops"])
    refine ⟨_, rfl, rfl, _, rfl, ifT (by decide +kernel) ?_⟩
    refine ⟨_, rfl, Nat.zero_le _, fun t0 h0 => ⟨by show 1 ≤ sizeLine; decide, fun t1 h1 => ⟨by show 1 ≤ sizeLine; decide, fun t2 h2 => ⟨by show 3 ≤ sizeLine; decide, fun t3 h3 => ⟨by show 5 ≤ sizeLine; decide, fun l hl => ?_⟩⟩⟩⟩⟩
    have s7 := src_new (o := .lst [.non, .ref t0, .ref t1, .ref t2, .ref t3]) (src_new (o := .tup [.int 1, .int 5, .int 40]) (src_new (o := .tup [.int 63]) (src_new (o := .tup [.int 0]) (src_new (o := .tup []) s2 h0) h1) h2) h3) hl
    have k7 := ((((k2.new h0 (.tup [])).new h1 (.tup [.int 0])).new h2 (.tup [.int 63])).new h3 (.tup [.int 1, .int 5, .int 40])).new hl (.lst [.non, .ref t0, .ref t1, .ref t2, .ref t3])
    obtain ⟨nl3, hl3⟩ := none_upd hl
    obtain ⟨nl2, hl2⟩ := none_upd hl3
    obtain ⟨nl1, hl1⟩ := none_upd hl2
    obtain ⟨nl0, hl0⟩ := none_upd hl1
    obtain ⟨n32, h32⟩ := none_upd h3
    obtain ⟨n31, h31⟩ := none_upd h32
    obtain ⟨n30, h30⟩ := none_upd h31
    obtain ⟨n21, h21⟩ := none_upd h2
    obtain ⟨n20, h20⟩ := none_upd h21
    obtain ⟨n10, h10⟩ := none_upd h1
    have np0 := src_ne s2 h0
    have np1 := src_ne s2 h10
    have np2 := src_ne s2 h20
    have np3 := src_ne s2 h30
    refine ⟨p, l, _, rfl, s7, SqL.of upd_same, (src_ne s2 hl0).symm, by simp, by show 5 ≤ 1000; decide, fun v H4 hv s4 k4 => ?_⟩
    have kk := k7.trans k4
    simp only [List.mem_cons, List.not_mem_nil, or_false] at hv
    rcases hv with rfl | rfl | rfl | rfl | rfl
    · exact q _ .none H4 .none (fun e => by cases e) .non s4 kk
    · refine ints_ok (xs := []) rfl trivial (by decide) (by decide) (SqT.of (k4 t0 _ np0.symm ?_)) s4 kk
      rw [upd_ne nl0.symm, upd_ne n30.symm, upd_ne n20.symm, upd_ne n10.symm]
      exact upd_same
    · refine ints_ok (xs := [0]) rfl ⟨by decide, by decide, trivial⟩ (by decide) (by decide) (SqT.of (k4 t1 _ np1.symm ?_)) s4 kk
      rw [upd_ne nl1.symm, upd_ne n31.symm, upd_ne n21.symm]
      exact upd_same
    · refine ints_ok (xs := [63]) rfl ⟨by decide, by decide, trivial⟩ (by decide) (by decide) (SqT.of (k4 t2 _ np2.symm ?_)) s4 kk
      rw [upd_ne nl2.symm, upd_ne n32.symm]
      exact upd_same
    · refine ints_ok (xs := [1, 5, 40]) rfl ⟨by decide, by decide, by decide, by decide, by decide, by decide, trivial⟩ (by decide) (by decide) (SqT.of (k4 t3 _ np3.symm ?_)) s4 kk
      rw [upd_ne nl3.symm]
      exact upd_same
  · refine ⟨false, congrArg V.bl (by decide +kernel), iteF ?_⟩
    refine ⟨_, rfl, by show 3 ≤ sizeLine; decide, fun a2 ha2 => ⟨a2, _, rfl, .inr (SqT.of upd_same), rfl, rfl, false, congrArg V.bl (by decide +kernel), iteF ?_⟩⟩
    refine ⟨_, rfl, rfl, _, rfl, ifF (by decide +kernel) ?_⟩
    refine ⟨_, rfl, p, 2, rfl, src_new s1 ha2, by decide, by decide, fun v H3 hv s3 k3 => ?_⟩
    have k4 := (k1.new ha2 (.tup [.str "max", .str "quota", .str "tops"])).trans k3
    exact q _ (.int (v : Int)) H3 (.alone (by omega)) (fun e => by cases e) (.int _) s3 k4

end
end Bd
end

section
namespace Bd
open PySem L2
abbrev sRows2 : Stmt := (top 46)
theorem scRows2 : FnScope ["_law_source_here", "_law_many", "_law_words_here", "_law_names_here", "_law_found", "_law_at", "_law_name", "_law_way", "_law_above", "_law_dues", "_law_spot", "_law_word"] ["_law_source_here", "_law_many", "_law_words_here"] (defScope sRows2) := ⟨rfl, rfl, rfl, by decide +kernel, rfl, by decide +kernel, by decide +kernel⟩
abbrev sLeaves2 : Stmt := (top 47)
theorem scLeaves2 : FnScope ["_law_rows_here", "_law_above", "_law_row"] ["_law_rows_here"] (defScope sLeaves2) := ⟨rfl, rfl, rfl, by decide +kernel, rfl, by decide +kernel, by decide +kernel⟩

def Plain (rows : List RowM) : Prop := ∀ (i : Nat) (r : RowM), rows[i]? = some r → r.dues = [] ∧ (r.above = ("" : Str) ∨ ∃ q ∈ rows.take i, q.name = r.above)
def spRows2 (K : PySem.W.Frag) : Sp := fun vs H Q _ => ∃ (s wl : Addr) (m : Nat), vs = [.ref s, .int (m : Int), .ref wl] ∧ Src H s ∧ m ≤ 12 ∧ H wl = some (.lst []) ∧ wl ≠ s ∧
  ∀ r H' vs rows, H r = none → H' r = some (.lst vs) → Paired (RowAt K H') vs rows → Plain rows → (rows.map (·.name)).Nodup → (∀ x ∈ rows.map (·.name), x ∈ menu) → rows.length = m → Src H' s → Kept s H H' → Q (.ref r) H'
section
variable {P : Program} {w : World} {K : PySem.W.Frag} {mg : Str → Option Value} {base : Heap}
theorem plain_snoc {rows : List RowM} {r : RowM} (h : Plain rows) (h1 : r.dues = []) (h2 : r.above = ("" : Str) ∨ ∃ q ∈ rows, q.name = r.above) : Plain (rows ++ [r]) := by
  intro i q e
  by_cases c : i < rows.length
  · rw [List.getElem?_append_left c] at e
    rw [List.take_append_of_le_length (Nat.le_of_lt c)]
    exact h i q e
  · rw [List.getElem?_append_right (by omega)] at e
    have z : i - rows.length = 0 := by
      cases hz : i - rows.length with
      | zero => rfl
      | succ k =>
        rw [hz] at e
        cases e
    rw [z] at e
    cases Option.some.inj e
    have : i = rows.length := by omega
    rw [this, List.take_left]
    exact ⟨h1, h2⟩
theorem plain_ok {rows : List RowM} (h : Plain rows) : ∀ r ∈ rows, DuesOk r.dues := fun r hr => by
  obtain ⟨m, hm⟩ := List.mem_iff_getElem?.mp hr
  rw [(h m r hm).1]
  exact ⟨List.nodup_nil, fun _ h => nomatch h⟩
theorem ok_rows2 {f g e : Addr} {fd gd ed : FuncData} (F : Fun K "_law_rows" "_law_rows" sRows2 f fd) (T : TA mg) (cN : Cal P w K mg base "_law_next" ["_law_source_here", "_law_many"] 2 spNext g gd) (cM : Cal P w K mg base "_law_names" ["_law_source_here", "_law_many"] 3 spNames2 e ed) :
    FnOk P w K mg base CX0 4 f fd ["_law_source_here", "_law_many", "_law_words_here"] (spRows2 K) := by
  refine F.ok scRows2 (fun vs H Q E h => ?_) (fun cdv A outer s H vs Q E hr h => ?_)
  · obtain ⟨p, wl, m, rfl, _⟩ := h
    rfl
  obtain ⟨p, wl, m, rfl, hp, hm, hwl, nwl, q⟩ := h
  refine ⟨_, (pss_cons (ps_par (i := 3) (j := 4) (by rfl) scRows2.nd rfl rfl (by decide) rfl rfl (pa_cons (pe_call cM.ok (hr.mono (by decide)) rfl cM.mg cM.kp cM.bd .nil pass0 (pa_cons (pv 0) (pa_cons (pv 1) pa_nil))) (pa_cons (pe_lst pa_nil) pa_nil)) (by rfl)) (pss_cons (ps_for PassesOwn.never rfl (pi_enum (by rfl) T.z_enumerate (pa_cons (pv 3) pa_nil)) (pg_tup (by rfl) (pgs_cons (pg_name (i := 5) scRows2.nd rfl (Or.inl rfl)) (pgs_cons (pg_name (i := 6) scRows2.nd rfl (Or.inl rfl)) pgs_nil))) (pss_cons (ps_set (i := 7) scRows2.nd rfl (Or.inl rfl) (pe_call cN.ok (hr.mono (by decide)) rfl cN.mg cN.kp cN.bd .nil pass0 (pa_cons (pv 0) (pa_cons pe_int pa_nil)))) (pss_cons (ps_par (i := 8) (j := 9) (by rfl) scRows2.nd rfl rfl (by decide) rfl rfl (pa_cons pe_str (pa_cons (pe_lst pa_nil) pa_nil)) (by rfl)) (pss_cons (ps_if (PW.pt (pw_and (pt_cmpR op_gt (pv 5) pe_int (nomark _)) (pw_and1 (pt_cmpR op_gt (pv 7) pe_int (nomark _))))) (pss_cons (ps_set (i := 10) scRows2.nd rfl (Or.inl rfl) (pe_ifExp (pt_cmpR op_eq (pv 7) pe_int (nomark _)) (pe_op op_sub (pv 5) pe_int) (pe_call cN.ok (hr.mono (by decide)) rfl cN.mg cN.kp cN.bd .nil pass0 (pa_cons (pv 0) (pa_cons (pv 5) pa_nil))))) (pss_one (ps_set (i := 8) scRows2.nd rfl (Or.inl rfl) (pe_ix ix_list (pv 3) (pv 10) (fun _ _ => rfl))))) pss_nil) (pss_cons (ps_for PassesOwn.never rfl (pi_list (pv 2)) (pg_name (i := 11) scRows2.nd rfl (Or.inl rfl)) (pss_one ps_never)) (pss_one (ps_expr (pe_bm PySem.F.plainAttrs_list PySem.F.slot_list_append PySem.F.type_list_append mt_append (pv 4) (pa_cons (pe_tup (pa_cons (pv 6) (pa_cons (pv 8) (pa_cons (pe_callTy call_tupleF (by rfl) T.z_tuple (by decide +kernel) (pa_cons (pv 9) pa_nil)) pa_nil)))) pa_nil))))))))) (pss_one (ps_ret (pv 4))))), ?_⟩
  refine ⟨_, rfl, _, rfl, p, m, rfl, hp, hm, fun nl H1 xs hnl enl hnd hmem hxl s1 k1 => ?_⟩
  refine ⟨Nat.zero_le _, fun fl hfl => ⟨_, _, rfl, ?_⟩⟩
  have npf := src_ne s1 hfl
  have nfl : H fl = none := k1.free npf.symm hfl
  have npn := src_ne hp hnl
  have nnf : nl ≠ fl := ne_of_none enl hfl
  have nwf : wl ≠ fl := ne_of_none hwl nfl
  refine ⟨_, rfl, nl, xs.map V.str, rfl, SqL.of (by rw [upd_ne nnf]; exact enl), for_it (walk_enum (xs := xs.map V.str)) (fun i σ H' => ∃ (o5 o6 o7 o8 o9 o10 o11 : Option V) (vs : List V) (rows : List RowM), σ = [some (.ref p), some (.int (m : Int)), some (.ref wl), some (.ref nl), some (.ref fl), o5, o6, o7, o8, o9, o10, o11] ∧
      Src H' p ∧ Kept p H H' ∧ H' nl = some (.lst (xs.map V.str)) ∧ H' fl = some (.lst vs) ∧ Paired (RowAt K H') vs rows ∧ rows.map (·.name) = xs.take i ∧ Plain rows)
    ⟨none, none, none, none, none, none, none, [], [], rfl, src_new s1 hfl, k1.new hfl _, by rw [upd_ne nnf]; exact enl, upd_same, .nil, rfl, fun i r e => by simp at e⟩ ?_ ?_ ?_⟩
  · rintro i σ H' _ ⟨_, _, _, _, _, _, _, _, _, _, _, _, e, _⟩
    exact SqL.of e
  · rintro i v σ H2 H3 hi ⟨o5, o6, o7, o8, o9, o10, o11, vs, rows, rfl, s2, k2, en2, ef2, hpr, hnm, hpl⟩ ⟨TT, x, y, rfl, hTT, rfl, hx, hy⟩
    have hx' : x = .int (i : Nat) := (Option.some.inj hx).symm
    subst hx'
    rw [List.length_map] at hi
    obtain ⟨nm, rfl, hnm2⟩ : ∃ nm, y = .str nm ∧ xs[i]? = some nm := by
      have hy : (xs.map V.str)[i]? = some y := hy
      rw [List.getElem?_map] at hy
      obtain ⟨a, b, c⟩ := Option.map_eq_some_iff.mp hy
      exact ⟨a, c.symm, b⟩
    refine ⟨TT, _, rfl, SqT.of upd_same, rfl, _, _, rfl, _, _, rfl, rfl, ?_⟩
    have s3 := src_new (o := .tup [.int (i : Nat), .str nm]) s2 hTT
    have k3 := k2.new hTT (.tup [.int (i : Nat), .str nm])
    have tk3 : TK H2 (upd H2 TT (.tup [.int (i : Nat), .str nm])) := TK.new hTT _
    have nTn := ne_of_none en2 hTT
    have nTf := ne_of_none ef2 hTT
    refine ⟨_, rfl, p, 3, rfl, s3, by decide, by decide, fun way H4 hway s4 k4 => ?_⟩
    refine ⟨Nat.zero_le _, fun d hd => ⟨_, _, rfl, ?_⟩⟩
    have en4 := k4 nl _ npn.symm ((upd_ne nTn).trans en2)
    have ef4 := k4 fl _ npf.symm ((upd_ne nTf).trans ef2)
    have npd := src_ne s4 hd
    have s5 := src_new (o := .lst []) s4 hd
    have k5 := (k3.trans k4).new hd (.lst [])
    have n_n_d := ne_of_none en4 hd
    have n_f_d := ne_of_none ef4 hd
    have en5 : upd H4 d (.lst []) nl = some (.lst (xs.map V.str)) := (upd_ne n_n_d).trans en4
    have ef5 : upd H4 d (.lst []) fl = some (.lst vs) := (upd_ne n_f_d).trans ef4
    have tk5 : TK H2 (upd H4 d (.lst [])) := (tk3.trans (let ⟨_, _, _, z⟩ := s3; TK.kept z k4)).trans (TK.new hd _)
    have ed5 : upd H4 d (.lst []) d = some (.lst []) := upd_same
    have ew5 : upd H4 d (.lst []) wl = some (.lst []) := k5 wl _ nwl hwl
    have rl : rows.length ≤ 12 := by
      have := congrArg List.length hnm
      rw [List.length_map, List.length_take] at this
      omega
    have vl : vs.length = rows.length := Paired.length hpr
    have below : ∀ j, j < i → ∃ a, xs[j]? = some a ∧ ∃ q ∈ rows, q.name = a := fun j hj => by
      have hjx : j < xs.length := by omega
      refine ⟨xs[j], List.getElem?_eq_getElem hjx, ?_⟩
      have hm : xs[j] ∈ rows.map (·.name) := by
        rw [hnm]
        have : (xs.take i)[j]? = some xs[j] := by
          rw [List.getElem?_take_of_lt hj, List.getElem?_eq_getElem hjx]
        exact List.mem_of_getElem? this
      obtain ⟨q, hq, e⟩ := List.mem_map.mp hm
      exact ⟨q, hq, e⟩
    refine ⟨_, rfl, _, _, rfl, rfl, _, rfl, ?_⟩
    refine ite2 (fun c1 => ?_) (fun c1 => ?_)
    · have c1' : (0 : Int) < (i : Int) := of_decide_eq_true c1
      refine ⟨_, rfl, _, _, rfl, rfl, _, rfl, ?_⟩
      refine ite2 (fun c2 => ?_) (fun c2 => ?_)
      · refine ⟨_, rfl, rfl, _, rfl, ite2 (fun c3 => ?_) (fun c3 => ?_)⟩
        · refine ⟨_, rfl, _, _, rfl, rfl, ?_⟩
          obtain ⟨ab, hab, habR⟩ := below (i - 1) (by omega)
          refine ⟨_, rfl, _, rfl, nl, _, _, .str ab, rfl, rfl, SqL.of en5, at_of (j := i - 1) (by show (i : Int) - 1 = ((i - 1 : Nat) : Int); omega) (by rw [List.getElem?_map, hab]; rfl), ?_⟩
          have hsR := s5
          have kR := k5
          have enR := en5
          have efR := ef5
          have edR := ed5
          have ewR := ew5
          have tkR := tk5
          have habR : ab = "" ∨ ∃ q ∈ rows, q.name = ab := .inr habR
          refine ⟨_, rfl, wl, rfl, ⟨_, SqL.of ewR⟩, for_list (xs := []) (fun _ σ' H' => σ' = _ ∧ H' = _) ⟨rfl, rfl⟩ (fun _ _ _ _ ⟨_, e⟩ => by rw [e]; exact SqL.of ewR) (fun i x _ _ hx => by simp at hx) ?_⟩
          rintro _ _ ⟨rfl, rfl⟩
          refine ⟨_, rfl, .inl ⟨rfl, _, SqL.of efR⟩, _, rfl, _, rfl, _, rfl, d, [], rfl, SqL.of edR, fun t o ht ho => ⟨by show 3 ≤ sizeLine; decide, fun ra hra => ?_⟩⟩
          obtain ⟨nrt, hra2⟩ := none_upd hra
          have n_ft := ne_of_none efR ht
          have n_fr := ne_of_none efR hra2
          have n_pt := src_ne hsR ht
          have n_pr := src_ne hsR hra2
          have n_nt := ne_of_none enR ht
          have n_nr := ne_of_none enR hra2
          refine ⟨fl, _, _, rfl, rfl, (upd_ne n_fr).trans ((upd_ne n_ft).trans efR), small1000 (by omega), ?_⟩
          have tkZ := ((tkR.trans (TK.new ht (.frz o (.tup [])))).trans (TK.new hra (.tup [.str nm, .str ab, .ref t]))).trans (TK.lst ((upd_ne n_fr).trans ((upd_ne n_ft).trans efR)) (.lst (vs ++ [.ref ra])))
          refine ⟨_, _, _, _, _, _, _, vs ++ [.ref ra], rows ++ [⟨nm, ab, []⟩], rfl, src_upd (src_new (src_new hsR ht) hra) npf, ?_, (upd_ne nnf).trans ((upd_ne n_nr).trans ((upd_ne n_nt).trans enR)), upd_same, paired_snoc ?_ (paired_monoM (fun v q hq z => tkZ.row (plain_ok hpl q hq) z) hpr), ?_, plain_snoc hpl rfl habR⟩
          · intro b2 o2 hb e
            have z := kR b2 o2 hb e
            rw [upd_ne (ne_of_none e nfl), upd_ne (ne_of_none z hra2), upd_ne (ne_of_none z ht)]
            exact z
          · refine ⟨ra, t, rfl, SqT.of ?_, [], ⟨o, ho, ?_⟩, .nil⟩
            · rw [upd_ne n_fr.symm]
              exact upd_same
            · rw [upd_ne n_ft.symm, upd_ne nrt.symm]
              exact upd_same
          · rw [List.map_append, hnm, List.take_add_one, hnm2]
            rfl
        · refine ⟨_, rfl, _, rfl, p, i, rfl, s5, by omega, by omega, fun sp H6 hsp s6 k6 => ?_⟩
          obtain ⟨ab, hab, habR⟩ := below sp hsp
          have enR := k6 nl _ npn.symm en5
          refine ⟨_, rfl, _, rfl, nl, _, _, .str ab, rfl, rfl, SqL.of enR, at_of (j := sp) rfl (by rw [List.getElem?_map, hab]; rfl), ?_⟩
          have hsR := s6
          have kR := k5.trans k6
          have efR := k6 fl _ npf.symm ef5
          have edR := k6 d _ npd.symm ed5
          have ewR := k6 wl _ nwl ew5
          have tkR := tk5.trans (let ⟨_, _, _, z⟩ := s5; TK.kept z k6)
          have habR : ab = "" ∨ ∃ q ∈ rows, q.name = ab := .inr habR
          refine ⟨_, rfl, wl, rfl, ⟨_, SqL.of ewR⟩, for_list (xs := []) (fun _ σ' H' => σ' = _ ∧ H' = _) ⟨rfl, rfl⟩ (fun _ _ _ _ ⟨_, e⟩ => by rw [e]; exact SqL.of ewR) (fun i x _ _ hx => by simp at hx) ?_⟩
          rintro _ _ ⟨rfl, rfl⟩
          refine ⟨_, rfl, .inl ⟨rfl, _, SqL.of efR⟩, _, rfl, _, rfl, _, rfl, d, [], rfl, SqL.of edR, fun t o ht ho => ⟨by show 3 ≤ sizeLine; decide, fun ra hra => ?_⟩⟩
          obtain ⟨nrt, hra2⟩ := none_upd hra
          have n_ft := ne_of_none efR ht
          have n_fr := ne_of_none efR hra2
          have n_pt := src_ne hsR ht
          have n_pr := src_ne hsR hra2
          have n_nt := ne_of_none enR ht
          have n_nr := ne_of_none enR hra2
          refine ⟨fl, _, _, rfl, rfl, (upd_ne n_fr).trans ((upd_ne n_ft).trans efR), small1000 (by omega), ?_⟩
          have tkZ := ((tkR.trans (TK.new ht (.frz o (.tup [])))).trans (TK.new hra (.tup [.str nm, .str ab, .ref t]))).trans (TK.lst ((upd_ne n_fr).trans ((upd_ne n_ft).trans efR)) (.lst (vs ++ [.ref ra])))
          refine ⟨_, _, _, _, _, _, _, vs ++ [.ref ra], rows ++ [⟨nm, ab, []⟩], rfl, src_upd (src_new (src_new hsR ht) hra) npf, ?_, (upd_ne nnf).trans ((upd_ne n_nr).trans ((upd_ne n_nt).trans enR)), upd_same, paired_snoc ?_ (paired_monoM (fun v q hq z => tkZ.row (plain_ok hpl q hq) z) hpr), ?_, plain_snoc hpl rfl habR⟩
          · intro b2 o2 hb e
            have z := kR b2 o2 hb e
            rw [upd_ne (ne_of_none e nfl), upd_ne (ne_of_none z hra2), upd_ne (ne_of_none z ht)]
            exact z
          · refine ⟨ra, t, rfl, SqT.of ?_, [], ⟨o, ho, ?_⟩, .nil⟩
            · rw [upd_ne n_fr.symm]
              exact upd_same
            · rw [upd_ne n_ft.symm, upd_ne nrt.symm]
              exact upd_same
          · rw [List.map_append, hnm, List.take_add_one, hnm2]
            rfl
      · have hsR := s5
        have kR := k5
        have enR := en5
        have efR := ef5
        have edR := ed5
        have ewR := ew5
        have tkR := tk5
        have habR : ("" : Str) = "" ∨ ∃ q ∈ rows, q.name = ("" : Str) := .inl rfl
        refine ⟨_, rfl, wl, rfl, ⟨_, SqL.of ewR⟩, for_list (xs := []) (fun _ σ' H' => σ' = _ ∧ H' = _) ⟨rfl, rfl⟩ (fun _ _ _ _ ⟨_, e⟩ => by rw [e]; exact SqL.of ewR) (fun i x _ _ hx => by simp at hx) ?_⟩
        rintro _ _ ⟨rfl, rfl⟩
        refine ⟨_, rfl, .inl ⟨rfl, _, SqL.of efR⟩, _, rfl, _, rfl, _, rfl, d, [], rfl, SqL.of edR, fun t o ht ho => ⟨by show 3 ≤ sizeLine; decide, fun ra hra => ?_⟩⟩
        obtain ⟨nrt, hra2⟩ := none_upd hra
        have n_ft := ne_of_none efR ht
        have n_fr := ne_of_none efR hra2
        have n_pt := src_ne hsR ht
        have n_pr := src_ne hsR hra2
        have n_nt := ne_of_none enR ht
        have n_nr := ne_of_none enR hra2
        refine ⟨fl, _, _, rfl, rfl, (upd_ne n_fr).trans ((upd_ne n_ft).trans efR), small1000 (by omega), ?_⟩
        have tkZ := ((tkR.trans (TK.new ht (.frz o (.tup [])))).trans (TK.new hra (.tup [.str nm, .str ("" : Str), .ref t]))).trans (TK.lst ((upd_ne n_fr).trans ((upd_ne n_ft).trans efR)) (.lst (vs ++ [.ref ra])))
        refine ⟨_, _, _, _, _, _, _, vs ++ [.ref ra], rows ++ [⟨nm, ("" : Str), []⟩], rfl, src_upd (src_new (src_new hsR ht) hra) npf, ?_, (upd_ne nnf).trans ((upd_ne n_nr).trans ((upd_ne n_nt).trans enR)), upd_same, paired_snoc ?_ (paired_monoM (fun v q hq z => tkZ.row (plain_ok hpl q hq) z) hpr), ?_, plain_snoc hpl rfl habR⟩
        · intro b2 o2 hb e
          have z := kR b2 o2 hb e
          rw [upd_ne (ne_of_none e nfl), upd_ne (ne_of_none z hra2), upd_ne (ne_of_none z ht)]
          exact z
        · refine ⟨ra, t, rfl, SqT.of ?_, [], ⟨o, ho, ?_⟩, .nil⟩
          · rw [upd_ne n_fr.symm]
            exact upd_same
          · rw [upd_ne n_ft.symm, upd_ne nrt.symm]
            exact upd_same
        · rw [List.map_append, hnm, List.take_add_one, hnm2]
          rfl
    · refine iteF ?_
      have hsR := s5
      have kR := k5
      have enR := en5
      have efR := ef5
      have edR := ed5
      have ewR := ew5
      have tkR := tk5
      have habR : ("" : Str) = "" ∨ ∃ q ∈ rows, q.name = ("" : Str) := .inl rfl
      refine ⟨_, rfl, wl, rfl, ⟨_, SqL.of ewR⟩, for_list (xs := []) (fun _ σ' H' => σ' = _ ∧ H' = _) ⟨rfl, rfl⟩ (fun _ _ _ _ ⟨_, e⟩ => by rw [e]; exact SqL.of ewR) (fun i x _ _ hx => by simp at hx) ?_⟩
      rintro _ _ ⟨rfl, rfl⟩
      refine ⟨_, rfl, .inl ⟨rfl, _, SqL.of efR⟩, _, rfl, _, rfl, _, rfl, d, [], rfl, SqL.of edR, fun t o ht ho => ⟨by show 3 ≤ sizeLine; decide, fun ra hra => ?_⟩⟩
      obtain ⟨nrt, hra2⟩ := none_upd hra
      have n_ft := ne_of_none efR ht
      have n_fr := ne_of_none efR hra2
      have n_pt := src_ne hsR ht
      have n_pr := src_ne hsR hra2
      have n_nt := ne_of_none enR ht
      have n_nr := ne_of_none enR hra2
      refine ⟨fl, _, _, rfl, rfl, (upd_ne n_fr).trans ((upd_ne n_ft).trans efR), small1000 (by omega), ?_⟩
      have tkZ := ((tkR.trans (TK.new ht (.frz o (.tup [])))).trans (TK.new hra (.tup [.str nm, .str ("" : Str), .ref t]))).trans (TK.lst ((upd_ne n_fr).trans ((upd_ne n_ft).trans efR)) (.lst (vs ++ [.ref ra])))
      refine ⟨_, _, _, _, _, _, _, vs ++ [.ref ra], rows ++ [⟨nm, ("" : Str), []⟩], rfl, src_upd (src_new (src_new hsR ht) hra) npf, ?_, (upd_ne nnf).trans ((upd_ne n_nr).trans ((upd_ne n_nt).trans enR)), upd_same, paired_snoc ?_ (paired_monoM (fun v q hq z => tkZ.row (plain_ok hpl q hq) z) hpr), ?_, plain_snoc hpl rfl habR⟩
      · intro b2 o2 hb e
        have z := kR b2 o2 hb e
        rw [upd_ne (ne_of_none e nfl), upd_ne (ne_of_none z hra2), upd_ne (ne_of_none z ht)]
        exact z
      · refine ⟨ra, t, rfl, SqT.of ?_, [], ⟨o, ho, ?_⟩, .nil⟩
        · rw [upd_ne n_fr.symm]
          exact upd_same
        · rw [upd_ne n_ft.symm, upd_ne nrt.symm]
          exact upd_same
      · rw [List.map_append, hnm, List.take_add_one, hnm2]
        rfl
  · rintro σ H2 ⟨o5, o6, o7, o8, o9, o10, o11, vs, rows, rfl, s2, k2, en2, ef2, hpr, hnm, hpl⟩
    rw [List.length_map, List.take_length] at hnm
    exact ⟨_, rfl, q fl H2 vs rows nfl ef2 hpr hpl (by rw [hnm]; exact hnd) (by rw [hnm]; exact hmem) (by
      have := congrArg List.length hnm
      rw [List.length_map] at this
      omega) s2 k2⟩

theorem leaves_le (rows : List RowM) : (leavesOf rows).length ≤ rows.length := by
  unfold leavesOf
  rw [List.length_map]
  exact List.length_filter_le _ _
theorem leaves_not {rows : List RowM} : ∀ x ∈ leavesOf rows, ∀ q ∈ rows, q.above ≠ x := by
  intro x hx q hq e
  obtain ⟨r, hr, rfl⟩ := List.mem_map.mp hx
  have h := (List.mem_filter.mp hr).2
  unfold leafB at h
  have : (rows.any fun q => decide (q.above = r.name)) = true := List.any_eq_true.mpr ⟨q, hq, decide_eq_true e⟩
  rw [this] at h
  cases h
theorem inV_strs (x : Str) (xs : List Str) : inV (V.str x) (xs.map V.str) = xs.any fun y => decide (y = x) := by
  unfold inV
  rw [List.any_map]
  congr 1
def spLeaves (K : PySem.W.Frag) : Sp := fun vs H Q _ => ∃ (a : Addr) (vs' : List V) (rows : List RowM), vs = [.ref a] ∧ H a = some (.lst vs') ∧ Paired (RowAt K H) vs' rows ∧ rows.length ≤ 12 ∧
  ∀ r H' (ls : List Str), H r = none → Same H H' → H' r = some (.lst (ls.map .str)) → ls = leavesOf rows → Q (.ref r) H'
theorem ok_leaves {f : Addr} {fd : FuncData} (F : Fun K "_law_leaves" "_law_leaves" sLeaves2 f fd) : FnOk P w K mg base CX0 1 f fd ["_law_rows_here"] (spLeaves K) := by
  refine F.ok scLeaves2 (fun vs H Q E h => ?_) (fun cdv A outer s H vs Q E hr h => ?_)
  · obtain ⟨a, vs', rows, rfl, _⟩ := h
    rfl
  obtain ⟨a, vs', rows, rfl, ha, hrows, hl, q⟩ := h
  refine ⟨_, (pss_cons (ps_set (i := 1) scLeaves2.nd rfl (Or.inr rfl) (pe_lc (own := [("_law_row", 2)]) (g := gName 2) (tt := tYes) (te := tOp (rIxT K) (tVar 2) (tC (.int 1))) rfl scLeaves2.nd (pi_list (pv 0)) (blkOk_by (own := [("_law_row", 2)]) (N := ["_law_rows_here", "_law_above", "_law_row"]) (sc := defScope sLeaves2) (by decide +kernel)) (fun _ _ _ _ _ => (pg_name (i := 2) scLeaves2.nd rfl (Or.inl rfl))) (fun _ _ _ _ _ => pts_nil) (fun _ _ _ _ _ => (pe_ix ix_tup (pv 2) pe_int (fun _ _ => rfl))))) (pss_one (ps_ret (pe_lc (own := [("_law_row", 2)]) (g := gName 2) (tt := tTest (tOp (rIn K true) (tOp (rIxT K) (tVar 2) (tC (.int 0))) (tVar 1))) (te := tOp (rIxT K) (tVar 2) (tC (.int 0))) rfl scLeaves2.nd (pi_list (pv 0)) (blkOk_by (own := [("_law_row", 2)]) (N := ["_law_rows_here", "_law_above", "_law_row"]) (sc := defScope sLeaves2) (by decide +kernel)) (fun _ _ _ _ _ => (pg_name (i := 2) scLeaves2.nd rfl (Or.inl rfl))) (fun _ _ _ _ _ => (pts_one (pt_cmpR op_notIn_seq (pe_ix ix_tup (pv 2) pe_int (fun _ _ => rfl)) (pv 1) (by first | exact nomark _ | rfl)))) (fun _ _ _ _ _ => (pe_ix ix_tup (pv 2) pe_int (fun _ _ => rfl))))))), ?_⟩
  have vl : vs'.length = rows.length := Paired.length hrows
  refine ⟨_, rfl, a, rfl, ⟨_, SqL.of ha⟩, fun D hD => lc_list (K := K) (a := a) (xs := vs') (fun i H' => H' = upd H D (.lst ((rows.take i).map fun r => .str r.above))) rfl ?_ ?_ ?_⟩
  · rintro i _ _ rfl
    exact SqL.of (by rw [upd_ne (ne_of_none ha hD)]; exact ha)
  · rintro i x _ hx rfl
    obtain ⟨r, hr1, ra, t, rfl, hra, _⟩ := paired_get hrows hx
    have il : i < rows.length := (List.getElem?_eq_some_iff.mp hr1).1
    refine ⟨rfl, ?_⟩
    unfold tYes
    refine iteT ?_
    refine ⟨_, rfl, ra, _, _, _, rfl, rfl, Same.seqT (Same.new (Same.refl H) hD _) hra, rfl, _, upd_same, ?_, ?_⟩
    · rw [List.length_map, List.length_take]
      exact small1000 (by omega)
    · rw [upd_upd, List.take_add_one, hr1, Option.toList_some, List.map_append]
      rfl
  rintro _ rfl
  rw [vl, List.take_length]
  have naD := ne_of_none ha hD
  refine ⟨_, rfl, a, rfl, ⟨_, SqL.of (by rw [upd_ne naD]; exact ha)⟩, fun D2 hD2 => lc_list (K := K) (a := a) (xs := vs') (fun i H' => ∃ ls : List Str, H' = upd (upd H D (.lst (rows.map fun r => .str r.above))) D2 (.lst (ls.map V.str)) ∧ ls = ((rows.take i).filter (leafB rows)).map (·.name) ∧ ls.length ≤ i)
    ⟨[], rfl, rfl, Nat.le_refl _⟩ ?_ ?_ ?_⟩
  · rintro i _ _ ⟨ls, rfl, _⟩
    obtain ⟨_, hD3⟩ := none_upd hD2
    exact SqL.of (by rw [upd_ne (ne_of_none ha hD3), upd_ne naD]; exact ha)
  · rintro i x _ hx ⟨ls, rfl, hls, hli⟩
    obtain ⟨r, hr1, ra, t, rfl, hra, _⟩ := paired_get hrows hx
    have il : i < rows.length := (List.getElem?_eq_some_iff.mp hr1).1
    obtain ⟨nD2, hD3⟩ := none_upd hD2
    have hra2 : SqT K (upd (upd H D (.lst (rows.map fun r => .str r.above))) D2 (.lst (ls.map V.str))) ra [.str r.name, .str r.above, .ref t] := Same.seqT (Same.new (Same.new (Same.refl H) hD _) hD2 _) hra
    refine ⟨rfl, ?_⟩
    refine ⟨_, rfl, ra, _, _, _, rfl, rfl, hra2, rfl, _, rfl, D, rows.map (fun r => .str r.above), rfl, .inl (SqL.of (by rw [upd_ne nD2.symm]; exact upd_same)), rfl, ?_, _, rfl, ?_⟩
    · rw [List.all_map]
      exact List.all_eq_true.mpr fun _ _ => rfl
    · have ec : (!inV (V.str r.name) (rows.map fun r => V.str r.above)) = leafB rows r := by
        have := inV_strs r.name (rows.map (·.above))
        rw [List.map_map] at this
        unfold leafB
        rw [show (rows.map fun r => V.str r.above) = rows.map (V.str ∘ fun r => r.above) from rfl, this, List.any_map]
        rfl
      have et : ((rows.take (i + 1)).filter (leafB rows)).map (·.name) = ls ++ (if leafB rows r = true then [r.name] else []) := by
        rw [List.take_add_one, hr1, Option.toList_some, List.filter_append, List.map_append, hls]
        cases z : leafB rows r with
        | true =>
          rw [List.filter_cons_of_pos z]
          rfl
        | false =>
          rw [List.filter_cons_of_neg (by rw [z]; decide)]
          rfl
      refine ite2 (fun c => ?_) (fun c => ?_)
      · refine ⟨_, rfl, ra, _, _, _, rfl, rfl, hra2, rfl, _, upd_same, ?_, ls ++ [r.name], ?_, ?_, ?_⟩
        · rw [List.length_map]
          exact small1000 (by omega)
        · rw [upd_upd, List.map_append]
          rfl
        · have c2 : (!inV (V.str r.name) (rows.map fun r => V.str r.above)) = true := c
          rw [ec] at c2
          rw [et, if_pos c2]
        · rw [List.length_append, List.length_singleton]
          omega
      · have c2 : (!inV (V.str r.name) (rows.map fun r => V.str r.above)) = false := Bool.eq_false_iff.mpr c
        rw [ec] at c2
        refine ⟨ls, rfl, ?_, by omega⟩
        rw [et, c2]
        exact (List.append_nil ls).symm
  · rintro _ ⟨ls, rfl, hls, hli⟩
    obtain ⟨nD2, hD3⟩ := none_upd hD2
    rw [vl, List.take_length] at hls
    exact q D2 _ ls hD3 (Same.new (Same.new (Same.refl H) hD _) hD2 _) upd_same hls

end
end Bd
end

section
namespace Bd
open PySem L2
abbrev sFull : Stmt := (top 51)
theorem scFull : FnScope ["_law_source_here", "_law_many", "_law_plain", "_law_found", "_law_ends", "_law_name", "_law_above", "_law_dues", "_law_words_here", "_law_word"] ["_law_source_here", "_law_many"] (defScope sFull) := ⟨rfl, rfl, rfl, by decide +kernel, rfl, by decide +kernel, by decide +kernel⟩

def Good (ends : List Str) (r : RowM) : Prop := DuesOk r.dues ∧ (∀ du ∈ r.dues, du.2 ≠ bigD) ∧ ((∃ du ∈ r.dues, du.1 = ("tops" : Str)) → r.name ∈ ends)
/-- rows as the law draws them -/
def LawRows (rows : List RowM) : Prop := RowsOk rows ∧ (∀ r ∈ rows, ∀ du ∈ r.dues, du.2 ≠ bigD) ∧ (∀ x ∈ rows.map (·.name), x ∈ menu)
def spFull (K : PySem.W.Frag) : Sp := fun vs H Q _ => ∃ (s : Addr) (m : Nat), vs = [.ref s, .int (m : Int)] ∧ Src H s ∧ m ≤ 12 ∧
  ∀ r H' vs rows, H r = none → H' r = some (.lst vs) → Paired (RowAt K H') vs rows → LawRows rows → rows.length = m → Src H' s → Kept s H H' → Q (.ref r) H'
theorem menu_ok : ∀ x ∈ menu, NameOk x := by
  intro x hx
  have h : (menu.all fun x => decide (1 ≤ x.length) && decide (x.length ≤ 10) && x.cps.toList.all fun c => decide (97 ≤ c) && decide (c ≤ 122)) = true := by decide +kernel
  have := List.all_eq_true.mp h x hx
  simp only [Bool.and_eq_true, decide_eq_true_eq, List.all_eq_true] at this
  exact ⟨this.1.1, this.1.2, this.2⟩
theorem dueOf_map (f : Str × PyData → PyData) (x : Str) : ∀ l : List (Str × PyData), dueOf (l.map fun wd => (wd.1, f wd)) x = (l.find? fun wd => decide (wd.1 = x)).map f
  | [] => rfl
  | a :: l => by
    rw [List.map_cons]
    unfold dueOf
    by_cases c : a.1 = x
    · rw [List.find?_cons_of_pos (by simpa using c), List.find?_cons_of_pos (by simpa using c)]
      rfl
    · rw [List.find?_cons_of_neg (by simpa using c), List.find?_cons_of_neg (by simpa using c)]
      exact dueOf_map f x l
theorem tops_of (dues : List (Str × PyData)) (h : ¬ ∃ du ∈ dues, du.1 = ("tops" : Str)) : dueOf (fullD dues) "tops" = some (.str "endless") := by
  unfold fullD
  rw [dueOf_map (fun wd => (dueOf dues wd.1).getD wd.2)]
  have e : (leftD.find? fun wd => decide (wd.1 = ("tops" : Str))) = some (("tops" : Str), PyData.str "endless") := by rfl
  rw [e]
  have z : dueOf dues "tops" = none := by
    cases z : dueOf dues "tops" with
    | none => rfl
    | some d => exact absurd ⟨_, dueOf_mem z, rfl⟩ h
  show some ((dueOf dues "tops").getD (.str "endless")) = _
  rw [z]
  rfl
/-- rows with the names and groups above of plain ones, and good dues -/
theorem full_rows_ok {plain rows : List RowM} {ends : List Str} (hp : Plain plain) (hnd : (plain.map (·.name)).Nodup) (hm : ∀ x ∈ plain.map (·.name), x ∈ menu) (hn : rows.map (·.name) = plain.map (·.name)) (ha : rows.map (·.above) = plain.map (·.above))
    (hg : ∀ r ∈ rows, Good ends r) (he : ∀ x ∈ ends, ∀ q ∈ plain, q.above ≠ x) : LawRows rows := by
  have hl : rows.length = plain.length := by
    have := congrArg List.length hn
    simpa using this
  refine ⟨fun i r hr => ?_, fun r hr => (hg r hr).2.1, fun x hx => hm x (by rw [← hn]; exact hx)⟩
  have hmr := List.mem_of_getElem? hr
  have il := (List.getElem?_eq_some_iff.mp hr).1
  have hp1 : plain[i]? = some plain[i] := List.getElem?_eq_getElem (by omega)
  have en : ∀ (j : Nat) (a b : RowM), rows[j]? = some a → plain[j]? = some b → a.name = b.name ∧ a.above = b.above := fun j a b h1 h2 => by
    have z1 : (rows.map (·.name))[j]? = (plain.map (·.name))[j]? := by rw [hn]
    have z2 : (rows.map (·.above))[j]? = (plain.map (·.above))[j]? := by rw [ha]
    rw [List.getElem?_map, List.getElem?_map, h1, h2] at z1 z2
    exact ⟨Option.some.inj z1, Option.some.inj z2⟩
  obtain ⟨e1, e2⟩ := en i r _ hr hp1
  refine ⟨menu_ok _ (hm _ (by rw [e1]; exact List.mem_map.mpr ⟨_, List.mem_of_getElem? hp1, rfl⟩)), (hg r hmr).1, ?_, ?_⟩
  · intro q hq e
    obtain ⟨j, hj⟩ := List.mem_iff_getElem?.mp hq
    have hji : j < i := by
      have := (List.getElem?_eq_some_iff.mp hj).1
      rw [List.length_take] at this
      omega
    rw [List.getElem?_take_of_lt hji] at hj
    have nd2 : (rows.map (·.name)).Nodup := by
      rw [hn]
      exact hnd
    exact fresh_at nd2 hr q hq e
  · rw [e2]
    rcases (hp i _ hp1).2 with z | ⟨q, hq, z⟩
    · exact .inl z
    · right
      obtain ⟨j, hj⟩ := List.mem_iff_getElem?.mp hq
      have hji : j < i := by
        have := (List.getElem?_eq_some_iff.mp hj).1
        rw [List.length_take] at this
        omega
      rw [List.getElem?_take_of_lt hji] at hj
      have hjr : rows[j]? = some (rows[j]'(by omega)) := List.getElem?_eq_getElem (by omega)
      obtain ⟨f1, f2⟩ := en j _ _ hjr hj
      refine ⟨rows[j]'(by omega), ?_, by rw [f1]; exact z, tops_of _ fun h => ?_⟩
      · have : (rows.take i)[j]? = some (rows[j]'(by omega)) := by
          rw [List.getElem?_take_of_lt hji]
          exact hjr
        exact List.mem_of_getElem? this
      · have := (hg _ (List.mem_of_getElem? hjr)).2.2 h
        rw [f1] at this
        exact he _ this _ (List.mem_of_getElem? hp1) z.symm
section
variable {P : Program} {w : World} {K : PySem.W.Frag} {mg : Str → Option Value} {base : Heap}
theorem ok_full {f f1 f2 f3 f4 f5 : Addr} {fd d1 d2 d3 d4 d5 : FuncData} (F : Fun K "_law_full_rows" "_law_full_rows" sFull f fd) (T : TA mg) (cN : Cal P w K mg base "_law_next" ["_law_source_here", "_law_many"] 2 spNext f1 d1) (cR : Cal P w K mg base "_law_rows" ["_law_source_here", "_law_many", "_law_words_here"] 4 (spRows2 K) f2 d2)
    (cL : Cal P w K mg base "_law_leaves" ["_law_rows_here"] 1 (spLeaves K) f3 d3) (cW : Cal P w K mg base "_law_words" [] 1 spWords f4 d4) (cV : Cal P w K mg base "_law_value" ["_law_source_here", "_law_word"] 4 (spValue K) f5 d5) :
    FnOk P w K mg base CX0 5 f fd ["_law_source_here", "_law_many"] (spFull K) := by
  refine F.ok scFull (fun vs H Q E h => ?_) (fun cdv A outer s H vs Q E hr h => ?_)
  · obtain ⟨p, m, rfl, _⟩ := h
    rfl
  obtain ⟨p, m, rfl, hp, hm, q⟩ := h
  refine ⟨_, (pss_cons (ps_par (i := 2) (j := 3) (by rfl) scFull.nd rfl rfl (by decide) rfl rfl (pa_cons (pe_call cR.ok (hr.mono (by decide)) rfl cR.mg cR.kp cR.bd .nil pass0 (pa_cons (pv 0) (pa_cons (pv 1) (pa_cons (pe_lst pa_nil) pa_nil)))) (pa_cons (pe_lst pa_nil) pa_nil)) (by rfl)) (pss_cons (ps_set (i := 4) scFull.nd rfl (Or.inr rfl) (pe_call cL.ok (hr.mono (by decide)) rfl cL.mg cL.kp cL.bd .nil pass0 (pa_cons (pv 2) pa_nil))) (pss_cons (ps_for PassesOwn.never rfl (pi_list (pv 2)) (pg_tup (by rfl) (pgs_cons (pg_name (i := 5) scFull.nd rfl (Or.inr rfl)) (pgs_cons (pg_name (i := 6) scFull.nd rfl (Or.inl rfl)) (pgs_cons (pg_name (i := 7) scFull.nd rfl (Or.inl rfl)) pgs_nil)))) (pss_cons (ps_setLc (i := 8) (own := [("_law_word", 9)]) (g := gName 9) (tt := tAnd (tTest (tOp rEq (tCall spNext [] E0 (tCons (tVar 0) (tCons (tC (.int 3)) tNil))) (tC (.int 0)))) (tOr (tTest (tOp rNe (tVar 9) (tC (.str "tops")))) (tTest (tOp (rIn K false) (tVar 5) (tVar 4))))) (te := tVar 9) rfl scFull.nd rfl rfl (sw_true rfl rfl rfl (by decide +kernel)) (pi_list (pe_call0 cW.ok (hr.mono (by decide)) rfl cW.mg cW.kp cW.bd .nil pass0)) (blkOk_by (own := [("_law_word", 9)]) (N := ["_law_source_here", "_law_many", "_law_plain", "_law_found", "_law_ends", "_law_name", "_law_above", "_law_dues", "_law_words_here", "_law_word"]) (sc := defScope sFull) (by decide +kernel)) (fun _ _ _ _ _ => (pg_name (i := 9) scFull.nd rfl (Or.inl rfl))) (fun _ _ _ _ _ => (pts_one (PW.pt (pw_and (pt_cmpR op_eq (pe_call cN.ok (hr.mono (by decide)) rfl cN.mg cN.kp cN.bd .nil pass0 (pa_cons (pv 0) (pa_cons pe_int pa_nil))) pe_int (nomark _)) (pw_and1 (PW.pt (pw_or (pt_cmpR op_ne (pv 9) pe_str (nomark _)) (pw_or1 (pt_cmpR op_in_seq (pv 5) (pv 4) (by first | exact nomark _ | rfl)))))))))) (fun _ _ _ _ _ => (pv 9))) (pss_cons (ps_set (i := 8) scFull.nd rfl (Or.inl rfl) (pe_ifExp (pt_cmpR op_eq (pe_call cN.ok (hr.mono (by decide)) rfl cN.mg cN.kp cN.bd .nil pass0 (pa_cons (pv 0) (pa_cons pe_int pa_nil))) pe_int (nomark _)) (pe_revL (pv 8)) (pv 8))) (pss_one (ps_expr (pe_bm PySem.F.plainAttrs_list PySem.F.slot_list_append PySem.F.type_list_append mt_append (pv 3) (pa_cons (pe_tup (pa_cons (pv 5) (pa_cons (pv 6) (pa_cons (pe_callTy call_tupleF (by rfl) T.z_tuple (by decide +kernel) (pa_cons (pe_lc (own := [("_law_word", 9)]) (g := gName 9) (tt := tYes) (te := tTup (tCons (tVar 9) (tCons (tCall (spValue K) [] E0 (tCons (tVar 0) (tCons (tVar 9) tNil))) tNil))) rfl scFull.nd (pi_list (pv 8)) (blkOk_by (own := [("_law_word", 9)]) (N := ["_law_source_here", "_law_many", "_law_plain", "_law_found", "_law_ends", "_law_name", "_law_above", "_law_dues", "_law_words_here", "_law_word"]) (sc := defScope sFull) (by decide +kernel)) (fun _ _ _ _ _ => (pg_name (i := 9) scFull.nd rfl (Or.inl rfl))) (fun _ _ _ _ _ => pts_nil) (fun _ _ _ _ _ => (pe_tup (pa_cons (pv 9) (pa_cons (pe_call cV.ok (hr.mono (by decide)) rfl cV.mg cV.kp cV.bd .nil pass0 (pa_cons (pv 0) (pa_cons (pv 9) pa_nil))) pa_nil))))) pa_nil)) pa_nil)))) pa_nil))))))) (pss_one (ps_ret (pv 3)))))), ?_⟩
  refine ⟨_, rfl, _, rfl, Nat.zero_le _, fun wl hwl => ⟨p, wl, m, rfl, src_new hp hwl, hm, upd_same, (src_ne hp hwl).symm, fun pl H1 pvs plain hpl epl hpr hplain hnd hmem hlen s2 k2 => ?_⟩⟩
  refine ⟨Nat.zero_le _, fun fl hfl => ⟨_, _, rfl, ?_⟩⟩
  have npl := src_ne (src_new (o := .lst []) hp hwl) hpl
  have npf := src_ne s2 hfl
  have n_l_f := ne_of_none epl hfl
  have epl2 : upd H1 fl (.lst []) pl = some (.lst pvs) := (upd_ne n_l_f).trans epl
  refine ⟨_, rfl, pl, pvs, plain, rfl, epl2, paired_mono (fun _ _ z => RowAt.same (Same.new (Same.refl H1) hfl _) z) hpr, by omega, fun el H3 ends hel s3 eel hends => ?_⟩
  have he : ∀ x ∈ ends, ∀ q ∈ plain, q.above ≠ x := by
    rw [hends]
    exact leaves_not
  have hle : ends.length ≤ 12 := by
    have := leaves_le plain
    rw [hends]
    omega
  have s3' : Src H3 p := let ⟨x, y, z, e⟩ := src_new (o := .lst []) s2 hfl; ⟨x, y, z, s3 _ _ e⟩
  have k3 : Kept p H H3 := fun b o hb e => s3 _ _ ((((Kept.refl p H).new hwl (.lst [])).trans k2).new hfl (.lst []) b o hb e)
  have npe := src_ne (src_new (o := .lst []) s2 hfl) hel
  have n_l_e := ne_of_none epl2 hel
  have n_f_e := ne_of_none (upd_same : upd H1 fl (.lst []) fl = some (.lst [])) hel
  have nfl : H fl = none := by
    have z := (k2.free (by exact npf.symm) hfl)
    exact (none_upd z).2
  refine ⟨_, rfl, pl, rfl, ⟨_, SqL.of (s3 _ _ epl2)⟩, for_list (K := K) (a := pl) (xs := pvs) (fun i σ H' => ∃ (o5 o6 o7 o8 o9 : Option V) (fvs : List V) (rows : List RowM), σ = [some (.ref p), some (.int (m : Int)), some (.ref pl), some (.ref fl), some (.ref el), o5, o6, o7, o8, o9] ∧
      Src H' p ∧ Kept p H H' ∧ H' pl = some (.lst pvs) ∧ H' fl = some (.lst fvs) ∧ H' el = some (.lst (ends.map V.str)) ∧ Paired (RowAt K H') pvs plain ∧ Paired (RowAt K H') fvs rows ∧ rows.map (·.name) = (plain.take i).map (·.name) ∧ rows.map (·.above) = (plain.take i).map (·.above) ∧ ∀ r ∈ rows, Good ends r)
    ⟨none, none, none, none, none, [], [], rfl, s3', k3, s3 _ _ epl2, s3 _ _ upd_same, eel, paired_mono (fun _ _ z => RowAt.same ((Same.new (Same.refl H1) hfl _).trans s3) z) hpr, .nil, rfl, rfl, fun _ h => nomatch h⟩ ?_ ?_ ?_⟩
  · rintro i σ H' _ ⟨_, _, _, _, _, _, _, _, _, _, e, _⟩
    exact SqL.of e
  · rintro i x σ H' hi ⟨o5, o6, o7, o8, o9, fvs, rows, rfl, s4, k4, el4, ef4, ee4, hp4, hr4, hn4, ha4, hg4⟩
    obtain ⟨r, hr1, hrow⟩ := paired_get hp4 hi
    obtain ⟨ra, t, rfl, hra, _⟩ := id hrow
    refine ⟨ra, _, rfl, hra, rfl, _, _, rfl, _, _, rfl, _, _, rfl, rfl, ?_⟩
    refine ⟨rfl, fun wl2 hwl2 => ⟨wl2, rfl, ⟨_, SqL.of upd_same⟩, fun D hD => ?_⟩⟩
    have nw2 := src_ne s4 hwl2
    have sb := src_new (o := .lst (leftW.map V.str)) s4 hwl2
    have kb := (Kept.refl p H').new hwl2 (.lst (leftW.map V.str))
    have nDp := src_ne sb hD
    refine lc_list (K := K) (a := wl2) (xs := leftW.map V.str) (fun j G => ∃ ws : List Str, G D = some (.lst (ws.map V.str)) ∧ (∀ x ∈ ws, x ∈ leftW.take j ∧ (x = "tops" → r.name ∈ ends)) ∧ ws.Nodup ∧ ws.length ≤ j ∧ Src G p ∧ Kept p (upd H' wl2 (.lst (leftW.map V.str))) G)
      ⟨[], upd_same, (fun _ h => nomatch h), List.nodup_nil, Nat.le_refl _, src_new sb hD, (Kept.refl p _).new hD _⟩ ?_ ?_ ?_
    · rintro j G _ ⟨ws, _, _, _, _, _, kG⟩
      exact SqL.of (kG wl2 _ nw2.symm upd_same)
    · rintro j x2 G hj ⟨ws, eD, hws, wnd, wlen, sG, kG⟩
      obtain ⟨wd, rfl, hwd⟩ : ∃ wd, x2 = .str wd ∧ leftW[j]? = some wd := by
        rw [List.getElem?_map] at hj
        obtain ⟨a, b, c⟩ := Option.map_eq_some_iff.mp hj
        exact ⟨a, c.symm, b⟩
      have j8 : j < 8 := (List.getElem?_eq_some_iff.mp hwd).1
      have tk1 : leftW.take (j + 1) = leftW.take j ++ [wd] := by
        rw [List.take_add_one, hwd]
        rfl
      have skip : ∀ G2, Src G2 p → Kept p G G2 → ∃ ws : List Str, G2 D = some (.lst (ws.map V.str)) ∧ (∀ x ∈ ws, x ∈ leftW.take (j + 1) ∧ (x = "tops" → r.name ∈ ends)) ∧ ws.Nodup ∧ ws.length ≤ j + 1 ∧ Src G2 p ∧ Kept p (upd H' wl2 (.lst (leftW.map V.str))) G2 := fun G2 s2 k2 =>
        ⟨ws, k2 D _ nDp.symm eD, fun x hx => ⟨by rw [tk1]; exact List.mem_append_left _ (hws x hx).1, (hws x hx).2⟩, wnd, by omega, s2, kG.trans k2⟩
      have keep : ∀ G2, Src G2 p → Kept p G G2 → (wd = "tops" → r.name ∈ ends) → ∃ acc, G2 D = some (.lst acc) ∧ acc.length < sizeLine ∧ ∃ ws : List Str, (upd G2 D (.lst (acc ++ [.str wd]))) D = some (.lst (ws.map V.str)) ∧ (∀ x ∈ ws, x ∈ leftW.take (j + 1) ∧ (x = "tops" → r.name ∈ ends)) ∧ ws.Nodup ∧ ws.length ≤ j + 1 ∧ Src (upd G2 D (.lst (acc ++ [.str wd]))) p ∧
          Kept p (upd H' wl2 (.lst (leftW.map V.str))) (upd G2 D (.lst (acc ++ [.str wd]))) := fun G2 s2 k2 ht => by
        refine ⟨_, k2 D _ nDp.symm eD, ?_, ws ++ [wd], ?_, fun x hx => ?_, ?_, ?_, src_upd s2 nDp, ?_⟩
        · rw [List.length_map]
          exact small1000 (by omega)
        · rw [upd_same, List.map_append]
          rfl
        · rcases List.mem_append.mp hx with h | h
          · exact ⟨by rw [tk1]; exact List.mem_append_left _ (hws x h).1, (hws x h).2⟩
          · cases List.mem_singleton.mp h
            exact ⟨by rw [tk1]; exact List.mem_append_right _ (List.mem_singleton.mpr rfl), ht⟩
        · refine List.nodup_append.mpr ⟨wnd, by simp, fun a ha b hb => ?_⟩
          cases List.mem_singleton.mp hb
          have nd8 : (leftW.map id).Nodup := by
            rw [List.map_id]
            exact leftW_nd
          exact fresh_at nd8 hwd a (hws a ha).1
        · rw [List.length_append, List.length_singleton]
          omega
        · intro b2 o2 hb e
          have z := k2 b2 o2 hb (kG b2 o2 hb e)
          rw [upd_ne (ne_of_none e hD)]
          exact z
      refine ⟨rfl, ?_⟩
      refine ⟨_, rfl, p, 3, rfl, sG, by decide, by decide, fun v G2 hv s2 k2 => ⟨rfl, _, rfl, ?_⟩⟩
      refine ite2 (fun _ => ?_) (fun _ => ?_)
      · refine ⟨_, rfl, rfl, _, rfl, ?_⟩
        refine ite2 (fun c => ?_) (fun c => ?_)
        · refine iteT ⟨_, rfl, keep G2 s2 k2 fun z => ?_⟩
          rw [z, decide_eq_true rfl] at c
          cases c
        · refine ⟨_, rfl, _, rfl, el, ends.map V.str, rfl, .inl (SqL.of (k2 el _ npe.symm (kG el _ npe.symm (kb el _ npe.symm ee4)))), rfl, ?_, _, rfl, ?_⟩
          · rw [List.all_map]
            exact List.all_eq_true.mpr fun _ _ => rfl
          · refine ite2 (fun c2 => ?_) (fun c2 => ?_)
            · refine ⟨_, rfl, keep G2 s2 k2 fun z => ?_⟩
              have c3 : inV (V.str r.name) (ends.map V.str) = true := c2
              unfold inV at c3
              rw [List.any_map] at c3
              obtain ⟨a, ha, hb⟩ := List.any_eq_true.mp c3
              have hb : (a == r.name) = true := hb
              rw [← eq_of_beq hb]
              exact ha
            · exact skip G2 s2 k2
      · exact iteF (skip G2 s2 k2)
    · rintro G ⟨ws, eD, hws, wnd, wlen, sG, kG⟩
      rw [List.length_map, show leftW.length = 8 from rfl] at hws
      have hws8 : ∀ x ∈ ws, x ∈ leftW ∧ (x = "tops" → r.name ∈ ends) := fun x hx => ⟨List.mem_of_mem_take (hws x hx).1, (hws x hx).2⟩
      refine ⟨_, rfl, p, 2, rfl, sG, by decide, by decide, fun v H7 hv s7 k7 => ⟨rfl, _, rfl, ?_⟩⟩
      refine ite2 (fun _ => ?_) (fun _ => ?_)
      · refine ⟨_, rfl, D, ws.map V.str, rfl, SqL.of (k7 D _ nDp.symm eD), fun wa hwa => ?_⟩
        obtain ⟨ws2, hw2⟩ : ∃ ws2, ws2 = ws.reverse := ⟨_, rfl⟩
        obtain ⟨H8, hH8⟩ : ∃ H8, H8 = upd H7 wa (.lst (ws.map V.str).reverse) := ⟨_, rfl⟩
        have ewa : H8 wa = some (.lst (ws2.map V.str)) := by
          rw [hH8, upd_same, hw2, List.map_reverse]
        have hws2 : ∀ x ∈ ws2, x ∈ leftW ∧ (x = "tops" → r.name ∈ ends) := fun x hx => hws8 x (by rw [hw2] at hx; exact List.mem_reverse.mp hx)
        have nd2 : ws2.Nodup := by
          rw [hw2]
          exact (List.reverse_perm ws).nodup_iff.mpr wnd
        have wl8 : ws2.length ≤ 8 := by
          rw [hw2, List.length_reverse]
          exact wlen
        have s8 : Src H8 p := by
          rw [hH8]
          exact src_new s7 hwa
        have k8 : Kept p (upd H' wl2 (.lst (leftW.map V.str))) H8 := by
          rw [hH8]
          exact (kG.trans k7).new hwa _
        rw [← hH8]
        have kf8 := kb.trans k8
        have ef8 := kf8 fl _ npf.symm ef4
        have el8 := kf8 pl _ npl.symm el4
        have ee8 := kf8 el _ npe.symm ee4
        have nwa : wa ≠ p := fun e => by
          obtain ⟨x1, x2, x3, z⟩ := s8
          rw [e, z] at ewa
          cases ws2 with
          | nil => cases ewa
          | cons a b => cases ewa
        refine ⟨_, rfl, .inl ⟨rfl, _, SqL.of ef8⟩, _, rfl, _, rfl, _, rfl, wa, rfl, ⟨_, SqL.of ewa⟩, fun D2 hD2 => lc_list (K := K) (a := wa) (xs := ws2.map V.str) (fun j H' => ∃ (ps : List Addr) (dues : List (Str × PyData)), H' D2 = some (.lst (ps.map V.ref)) ∧ Paired (DueAt K H') ps dues ∧ dues.map (·.1) = ws2.take j ∧ (∀ du ∈ dues, ValOk du.1 du.2 ∧ du.2 ≠ bigD) ∧ Src H' p ∧ Kept p H8 H')
          ⟨[], [], upd_same, .nil, rfl, (fun _ h => nomatch h), src_new s8 hD2, (Kept.refl p H8).new hD2 _⟩ ?_ ?_ ?_⟩
        · rintro j G _ ⟨ps, dues, e1, _, _, _, sG, kG⟩
          exact SqL.of (kG wa _ nwa ewa)
        · rintro j x2 G hj ⟨ps, dues, e1, e2, e3, e4, sG, kG⟩
          obtain ⟨wd, rfl, hwd⟩ : ∃ wd, x2 = .str wd ∧ ws2[j]? = some wd := by
            rw [List.getElem?_map] at hj
            obtain ⟨a, b, c⟩ := Option.map_eq_some_iff.mp hj
            exact ⟨a, c.symm, b⟩
          have hm2 := hws2 wd (List.mem_of_getElem? hwd)
          refine ⟨rfl, ?_⟩
          unfold tYes
          refine iteT ?_
          refine ⟨_, rfl, _, rfl, _, rfl, p, wd, rfl, sG, hm2.1, fun v d H9 hv hb hdp s9 k9 => ⟨by show 2 ≤ sizeLine; decide, fun pr hpr' => ?_⟩⟩
          have nD2 : D2 ≠ p := (src_ne s8 hD2).symm
          have eD9 := k9 D2 _ nD2 e1
          have nDp := ne_of_none eD9 hpr'
          have pl2 : ps.length = dues.length := Paired.length e2
          have dl2 : dues.length ≤ ws2.length := by
            have := congrArg List.length e3
            rw [List.length_map, List.length_take] at this
            omega
          have tk9 : TK G H9 := let ⟨_, _, _, z⟩ := sG; TK.kept z k9
          have tk10 := (tk9.trans (TK.new hpr' (.tup [.str wd, v]))).trans (TK.lst ((upd_ne nDp).trans eD9) (.lst (ps.map V.ref ++ [.ref pr])))
          have hsn : DueAt K (upd (upd H9 pr (.tup [.str wd, v])) D2 (.lst (ps.map V.ref ++ [.ref pr]))) pr (wd, d) := by
            refine ⟨v, SqT.of ?_, ((TK.new hpr' (.tup [.str wd, v])).trans (TK.lst ((upd_ne nDp).trans eD9) (.lst (ps.map V.ref ++ [.ref pr])))).val hv hdp⟩
            rw [upd_ne nDp.symm]
            exact upd_same
          have hold : Paired (DueAt K (upd (upd H9 pr (.tup [.str wd, v])) D2 (.lst (ps.map V.ref ++ [.ref pr])))) ps dues := paired_monoM (fun q du hdu z => by
            obtain ⟨u, z1, z2⟩ := z
            exact ⟨u, tk10.seqT z1, tk10.val (e4 du hdu).1 z2⟩) e2
          refine  ⟨_, (upd_ne nDp).trans eD9, ?_, ps ++ [pr], dues ++ [(wd, d)], ?_, paired_snoc hsn hold, ?_, ?_, src_upd (src_new s9 hpr') nD2.symm, ?_⟩
          · rw [List.length_map]
            exact small1000 (by omega)
          · rw [upd_same, List.map_append]
            rfl
          · rw [List.map_append, e3, List.take_add_one, hwd]
            rfl
          · intro du hdu
            rcases List.mem_append.mp hdu with h | h
            · exact e4 du h
            · cases List.mem_singleton.mp h
              exact ⟨hv, hb⟩
          · intro b2 o2 hb2 e
            have z := k9 b2 o2 hb2 (kG b2 o2 hb2 e)
            rw [upd_ne (ne_of_none e hD2), upd_ne (ne_of_none z hpr')]
            exact z
        · rintro H9 ⟨ps, dues, e1, e2, e3, e4, s9, k9⟩
          rw [List.length_map, List.take_length] at e3
          refine ⟨D2, ps.map V.ref, rfl, SqL.of e1, fun tt o htt ho => ⟨by show 3 ≤ sizeLine; decide, fun rw' hrw => ?_⟩⟩
          obtain ⟨nrt, hrw2⟩ := none_upd hrw
          have kf9 := kf8.trans k9
          have ef9 := kf9 fl _ npf.symm ef4
          have el9 := kf9 pl _ npl.symm el4
          have ee9 := kf9 el _ npe.symm ee4
          have n_ft := ne_of_none ef9 htt
          have n_fr := ne_of_none ef9 hrw2
          have n_lt := ne_of_none el9 htt
          have n_lr := ne_of_none el9 hrw2
          have n_et := ne_of_none ee9 htt
          have n_er := ne_of_none ee9 hrw2
          have ef11 : upd (upd H9 tt (.frz o (.tup (ps.map V.ref)))) rw' (.tup [.str r.name, .str r.above, .ref tt]) fl = some (.lst fvs) := (upd_ne n_fr).trans ((upd_ne n_ft).trans ef9)
          have tkA : TK H' H9 := let ⟨_, _, _, z⟩ := s4; TK.kept z kf9
          have tkB := ((TK.new htt (.frz o (.tup (ps.map V.ref)))).trans (TK.new hrw (.tup [.str r.name, .str r.above, .ref tt]))).trans (TK.lst ef11 (.lst (fvs ++ [.ref rw'])))
          have tkZ := tkA.trans tkB
          have fl2 : fvs.length = rows.length := Paired.length hr4
          have rl2 : rows.length ≤ 12 := by
            have := congrArg List.length hn4
            rw [List.length_map, List.length_map, List.length_take] at this
            omega
          have dok : DuesOk dues := ⟨by rw [e3]; exact nd2, fun du hdu => ⟨(hws2 du.1 (by rw [← e3]; exact List.mem_map.mpr ⟨du, hdu, rfl⟩)).1, (e4 du hdu).1⟩⟩
          refine ⟨fl, _, _, rfl, rfl, ef11, small1000 (by omega), ?_⟩
          refine ⟨_, _, _, _, _, fvs ++ [.ref rw'], rows ++ [⟨r.name, r.above, dues⟩], rfl, src_upd (src_new (src_new s9 htt) hrw) npf, ?_, (upd_ne n_l_f).trans ((upd_ne n_lr).trans ((upd_ne n_lt).trans el9)), upd_same, (upd_ne n_f_e.symm).trans ((upd_ne n_er).trans ((upd_ne n_et).trans ee9)),
            paired_monoM (fun v q hq z => tkZ.row (plain_ok hplain q hq) z) hp4, paired_snoc ?_ (paired_monoM (fun v q hq z => tkZ.row (hg4 q hq).1 z) hr4), ?_, ?_, ?_⟩
          · intro b2 o2 hb e
            have z := kf9 b2 o2 hb (k4 b2 o2 hb e)
            rw [upd_ne (ne_of_none e nfl), upd_ne (ne_of_none z hrw2), upd_ne (ne_of_none z htt)]
            exact z
          · refine ⟨rw', tt, rfl, SqT.of ?_, ps, ⟨o, ho, ?_⟩, paired_monoM (fun q du hdu z => ?_) e2⟩
            · rw [upd_ne n_fr.symm]
              exact upd_same
            · rw [upd_ne n_ft.symm, upd_ne nrt.symm]
              exact upd_same
            · obtain ⟨u, z1, z2⟩ := z
              exact ⟨u, tkB.seqT z1, tkB.val (e4 du hdu).1 z2⟩
          · rw [List.map_append, hn4, List.take_add_one, hr1, Option.toList_some, List.map_append]
            rfl
          · rw [List.map_append, ha4, List.take_add_one, hr1, Option.toList_some, List.map_append]
            rfl
          · intro q hq
            rcases List.mem_append.mp hq with h | h
            · exact hg4 q h
            · cases List.mem_singleton.mp h
              refine ⟨dok, fun du hdu => (e4 du hdu).2, fun ⟨du, hdu, et⟩ => ?_⟩
              exact (hws2 du.1 (by rw [← e3]; exact List.mem_map.mpr ⟨du, hdu, rfl⟩)).2 et
      · have ewa := k7 D _ nDp.symm eD
        obtain ⟨wa, hwaD⟩ : ∃ wa, wa = D := ⟨_, rfl⟩
        obtain ⟨H8, hH8⟩ : ∃ H8, H8 = H7 := ⟨_, rfl⟩
        subst hwaD
        subst hH8
        obtain ⟨ws2, hw2⟩ : ∃ ws2, ws2 = ws := ⟨_, rfl⟩
        subst hw2
        have hws2 := hws8
        have nd2 := wnd
        have wl8 : ws2.length ≤ 8 := wlen
        have s8 := s7
        have k8 := kG.trans k7
        refine ⟨_, rfl, ?_⟩
        have kf8 := kb.trans k8
        have ef8 := kf8 fl _ npf.symm ef4
        have el8 := kf8 pl _ npl.symm el4
        have ee8 := kf8 el _ npe.symm ee4
        have nwa : wa ≠ p := fun e => by
          obtain ⟨x1, x2, x3, z⟩ := s8
          rw [e, z] at ewa
          cases ws2 with
          | nil => cases ewa
          | cons a b => cases ewa
        refine ⟨_, rfl, .inl ⟨rfl, _, SqL.of ef8⟩, _, rfl, _, rfl, _, rfl, wa, rfl, ⟨_, SqL.of ewa⟩, fun D2 hD2 => lc_list (K := K) (a := wa) (xs := ws2.map V.str) (fun j H' => ∃ (ps : List Addr) (dues : List (Str × PyData)), H' D2 = some (.lst (ps.map V.ref)) ∧ Paired (DueAt K H') ps dues ∧ dues.map (·.1) = ws2.take j ∧ (∀ du ∈ dues, ValOk du.1 du.2 ∧ du.2 ≠ bigD) ∧ Src H' p ∧ Kept p H8 H')
          ⟨[], [], upd_same, .nil, rfl, (fun _ h => nomatch h), src_new s8 hD2, (Kept.refl p H8).new hD2 _⟩ ?_ ?_ ?_⟩
        · rintro j G _ ⟨ps, dues, e1, _, _, _, sG, kG⟩
          exact SqL.of (kG wa _ nwa ewa)
        · rintro j x2 G hj ⟨ps, dues, e1, e2, e3, e4, sG, kG⟩
          obtain ⟨wd, rfl, hwd⟩ : ∃ wd, x2 = .str wd ∧ ws2[j]? = some wd := by
            rw [List.getElem?_map] at hj
            obtain ⟨a, b, c⟩ := Option.map_eq_some_iff.mp hj
            exact ⟨a, c.symm, b⟩
          have hm2 := hws2 wd (List.mem_of_getElem? hwd)
          refine ⟨rfl, ?_⟩
          unfold tYes
          refine iteT ?_
          refine ⟨_, rfl, _, rfl, _, rfl, p, wd, rfl, sG, hm2.1, fun v d H9 hv hb hdp s9 k9 => ⟨by show 2 ≤ sizeLine; decide, fun pr hpr' => ?_⟩⟩
          have nD2 : D2 ≠ p := (src_ne s8 hD2).symm
          have eD9 := k9 D2 _ nD2 e1
          have nDp := ne_of_none eD9 hpr'
          have pl2 : ps.length = dues.length := Paired.length e2
          have dl2 : dues.length ≤ ws2.length := by
            have := congrArg List.length e3
            rw [List.length_map, List.length_take] at this
            omega
          have tk9 : TK G H9 := let ⟨_, _, _, z⟩ := sG; TK.kept z k9
          have tk10 := (tk9.trans (TK.new hpr' (.tup [.str wd, v]))).trans (TK.lst ((upd_ne nDp).trans eD9) (.lst (ps.map V.ref ++ [.ref pr])))
          have hsn : DueAt K (upd (upd H9 pr (.tup [.str wd, v])) D2 (.lst (ps.map V.ref ++ [.ref pr]))) pr (wd, d) := by
            refine ⟨v, SqT.of ?_, ((TK.new hpr' (.tup [.str wd, v])).trans (TK.lst ((upd_ne nDp).trans eD9) (.lst (ps.map V.ref ++ [.ref pr])))).val hv hdp⟩
            rw [upd_ne nDp.symm]
            exact upd_same
          have hold : Paired (DueAt K (upd (upd H9 pr (.tup [.str wd, v])) D2 (.lst (ps.map V.ref ++ [.ref pr])))) ps dues := paired_monoM (fun q du hdu z => by
            obtain ⟨u, z1, z2⟩ := z
            exact ⟨u, tk10.seqT z1, tk10.val (e4 du hdu).1 z2⟩) e2
          refine  ⟨_, (upd_ne nDp).trans eD9, ?_, ps ++ [pr], dues ++ [(wd, d)], ?_, paired_snoc hsn hold, ?_, ?_, src_upd (src_new s9 hpr') nD2.symm, ?_⟩
          · rw [List.length_map]
            exact small1000 (by omega)
          · rw [upd_same, List.map_append]
            rfl
          · rw [List.map_append, e3, List.take_add_one, hwd]
            rfl
          · intro du hdu
            rcases List.mem_append.mp hdu with h | h
            · exact e4 du h
            · cases List.mem_singleton.mp h
              exact ⟨hv, hb⟩
          · intro b2 o2 hb2 e
            have z := k9 b2 o2 hb2 (kG b2 o2 hb2 e)
            rw [upd_ne (ne_of_none e hD2), upd_ne (ne_of_none z hpr')]
            exact z
        · rintro H9 ⟨ps, dues, e1, e2, e3, e4, s9, k9⟩
          rw [List.length_map, List.take_length] at e3
          refine ⟨D2, ps.map V.ref, rfl, SqL.of e1, fun tt o htt ho => ⟨by show 3 ≤ sizeLine; decide, fun rw' hrw => ?_⟩⟩
          obtain ⟨nrt, hrw2⟩ := none_upd hrw
          have kf9 := kf8.trans k9
          have ef9 := kf9 fl _ npf.symm ef4
          have el9 := kf9 pl _ npl.symm el4
          have ee9 := kf9 el _ npe.symm ee4
          have n_ft := ne_of_none ef9 htt
          have n_fr := ne_of_none ef9 hrw2
          have n_lt := ne_of_none el9 htt
          have n_lr := ne_of_none el9 hrw2
          have n_et := ne_of_none ee9 htt
          have n_er := ne_of_none ee9 hrw2
          have ef11 : upd (upd H9 tt (.frz o (.tup (ps.map V.ref)))) rw' (.tup [.str r.name, .str r.above, .ref tt]) fl = some (.lst fvs) := (upd_ne n_fr).trans ((upd_ne n_ft).trans ef9)
          have tkA : TK H' H9 := let ⟨_, _, _, z⟩ := s4; TK.kept z kf9
          have tkB := ((TK.new htt (.frz o (.tup (ps.map V.ref)))).trans (TK.new hrw (.tup [.str r.name, .str r.above, .ref tt]))).trans (TK.lst ef11 (.lst (fvs ++ [.ref rw'])))
          have tkZ := tkA.trans tkB
          have fl2 : fvs.length = rows.length := Paired.length hr4
          have rl2 : rows.length ≤ 12 := by
            have := congrArg List.length hn4
            rw [List.length_map, List.length_map, List.length_take] at this
            omega
          have dok : DuesOk dues := ⟨by rw [e3]; exact nd2, fun du hdu => ⟨(hws2 du.1 (by rw [← e3]; exact List.mem_map.mpr ⟨du, hdu, rfl⟩)).1, (e4 du hdu).1⟩⟩
          refine ⟨fl, _, _, rfl, rfl, ef11, small1000 (by omega), ?_⟩
          refine ⟨_, _, _, _, _, fvs ++ [.ref rw'], rows ++ [⟨r.name, r.above, dues⟩], rfl, src_upd (src_new (src_new s9 htt) hrw) npf, ?_, (upd_ne n_l_f).trans ((upd_ne n_lr).trans ((upd_ne n_lt).trans el9)), upd_same, (upd_ne n_f_e.symm).trans ((upd_ne n_er).trans ((upd_ne n_et).trans ee9)),
            paired_monoM (fun v q hq z => tkZ.row (plain_ok hplain q hq) z) hp4, paired_snoc ?_ (paired_monoM (fun v q hq z => tkZ.row (hg4 q hq).1 z) hr4), ?_, ?_, ?_⟩
          · intro b2 o2 hb e
            have z := kf9 b2 o2 hb (k4 b2 o2 hb e)
            rw [upd_ne (ne_of_none e nfl), upd_ne (ne_of_none z hrw2), upd_ne (ne_of_none z htt)]
            exact z
          · refine ⟨rw', tt, rfl, SqT.of ?_, ps, ⟨o, ho, ?_⟩, paired_monoM (fun q du hdu z => ?_) e2⟩
            · rw [upd_ne n_fr.symm]
              exact upd_same
            · rw [upd_ne n_ft.symm, upd_ne nrt.symm]
              exact upd_same
            · obtain ⟨u, z1, z2⟩ := z
              exact ⟨u, tkB.seqT z1, tkB.val (e4 du hdu).1 z2⟩
          · rw [List.map_append, hn4, List.take_add_one, hr1, Option.toList_some, List.map_append]
            rfl
          · rw [List.map_append, ha4, List.take_add_one, hr1, Option.toList_some, List.map_append]
            rfl
          · intro q hq
            rcases List.mem_append.mp hq with h | h
            · exact hg4 q h
            · cases List.mem_singleton.mp h
              refine ⟨dok, fun du hdu => (e4 du hdu).2, fun ⟨du, hdu, et⟩ => ?_⟩
              exact (hws2 du.1 (by rw [← e3]; exact List.mem_map.mpr ⟨du, hdu, rfl⟩)).2 et
  · rintro σ H' ⟨o5, o6, o7, o8, o9, fvs, rows, rfl, s4, k4, el4, ef4, ee4, hp4, hr4, hn4, ha4, hg4⟩
    have xl : pvs.length = plain.length := Paired.length hpr
    rw [xl, List.take_length] at hn4 ha4
    exact ⟨_, rfl, q fl H' fvs rows nfl ef4 hr4 (full_rows_ok hplain hnd hmem hn4 ha4 hg4 he) (by
      have := congrArg List.length hn4
      rw [List.length_map, List.length_map] at this
      omega) s4 k4⟩

end
end Bd
end

section
namespace Bd
open PySem L2
abbrev sCheckGroup : Stmt := (top 35)
theorem scCheckGroup : FnScope ["tree", "name"] ["tree", "name"] (defScope sCheckGroup) := ⟨rfl, rfl, rfl, by decide +kernel, rfl, by decide +kernel, by decide +kernel⟩
abbrev sTNames : Stmt := (inClass (top 33) 2)
theorem scTNames : FnScope ["self"] ["self"] (defScope sTNames) := ⟨rfl, rfl, rfl, by decide +kernel, rfl, by decide +kernel, by decide +kernel⟩
abbrev sTAbove : Stmt := (inClass (top 33) 3)
theorem scTAbove : FnScope ["self", "name"] ["self", "name"] (defScope sTAbove) := ⟨rfl, rfl, rfl, by decide +kernel, rfl, by decide +kernel, by decide +kernel⟩
abbrev sTKids : Stmt := (inClass (top 33) 4)
theorem scTKids : FnScope ["self", "name"] ["self", "name"] (defScope sTKids) := ⟨rfl, rfl, rfl, by decide +kernel, rfl, by decide +kernel, by decide +kernel⟩
abbrev sTLeaves : Stmt := (inClass (top 33) 5)
theorem scTLeaves : FnScope ["self", "name"] ["self"] (defScope sTLeaves) := ⟨rfl, rfl, rfl, by decide +kernel, rfl, by decide +kernel, by decide +kernel⟩
abbrev sTDue : Stmt := (inClass (top 33) 7)
theorem scTDue : FnScope ["self", "name", "word"] ["self", "name", "word"] (defScope sTDue) := ⟨rfl, rfl, rfl, by decide +kernel, rfl, by decide +kernel, by decide +kernel⟩
abbrev sTHanding : Stmt := (inClass (top 33) 8)
theorem scTHanding : FnScope ["self"] ["self"] (defScope sTHanding) := ⟨rfl, rfl, rfl, by decide +kernel, rfl, by decide +kernel, by decide +kernel⟩

/-- a def that may raise, as its callers see it -/
structure CalX (P : Program) (w : World) (K : PySem.W.Frag) (mg : Str → Option Value) (base : Heap) (x : Str) (ps : List Str) (k : Nat) (sp : Sp) (f : Addr) (fd : FuncData) : Prop where
  ok : FnOk P w K mg base (L2.CX P w) k f fd ps sp
  mg : mg x = some (.ref f)
  kp : PySem.W.keepIn K (.ref f) = true
  bd : Binds K fd ps []
/-- an own error without a maker of its own -/
structure XN (K : PySem.W.Frag) (mg : Str → Option Value) (x : Str) (C : Addr) : Prop where
  q : PySem.W.excIn K C [.type "ValueError", .type "Exception", .type "BaseException", .type "object"] "ValueError.__new__" = true
  g : mg x = some (.ref C)
  k : PySem.W.keepIn K (.ref C) = true
  r1 : PySem.W.subIn K (.ref C) (.type "BaseException") = some true
  r2 : PySem.W.typeIn K (.ref C) = some (.type "type")
/-- no text of these -/
def OddN (K : PySem.W.Frag) (H : Hp) (xs : List Str) (v : V) : Prop := (∃ t : String, TyX K H v (.type t) ∧ kitB t "str" = some false) ∨ ∃ x, v = .str x ∧ x ∉ xs
def nms (rows : List RowM) : List Str := rows.map (·.name)
def spCG (K : PySem.W.Frag) (C CN : Addr) : Sp := fun vs H Q E => ∃ (p : Addr) (v : V) (rows : List RowM) (h : Bool) (tk : List (Key × V)), vs = [.ref p, v] ∧ TreeAt K H C p rows h tk ∧
  ((∃ x, v = .str x ∧ x ∈ nms rows ∧ Q .non H) ∨ (OddN K H (nms rows) v ∧ E (.ref CN) none H))
def spTNames (K : PySem.W.Frag) (C : Addr) : Sp := fun vs H Q _ => ∃ (p : Addr) (rows : List RowM) (h : Bool) (tk : List (Key × V)), vs = [.ref p] ∧ TreeAt K H C p rows h tk ∧ ∀ l, H l = none → Q (.ref l) (upd H l (.lst ((nms rows).map .str)))
def spTHanding (K : PySem.W.Frag) (C : Addr) : Sp := fun vs H Q _ => ∃ (p : Addr) (rows : List RowM) (h : Bool) (tk : List (Key × V)), vs = [.ref p] ∧ TreeAt K H C p rows h tk ∧ Q (.bl h) H
def spTAbove (K : PySem.W.Frag) (C CN : Addr) : Sp := fun vs H Q E => ∃ (p : Addr) (v : V) (rows : List RowM) (h : Bool) (tk : List (Key × V)), vs = [.ref p, v] ∧ TreeAt K H C p rows h tk ∧ (nms rows).Nodup ∧
  ((∃ r ∈ rows, v = .str r.name ∧ Q (.str r.above) H) ∨ (OddN K H (nms rows) v ∧ E (.ref CN) none H))
def spTKids (K : PySem.W.Frag) (C CN : Addr) : Sp := fun vs H Q E => ∃ (p : Addr) (v : V) (rows : List RowM) (h : Bool) (tk : List (Key × V)), vs = [.ref p, v] ∧ TreeAt K H C p rows h tk ∧ RowsOk rows ∧
  ((∃ x, v = .str x ∧ x ∈ ("" : Str) :: nms rows ∧ ∀ l, H l = none → Q (.ref l) (upd H l (.lst ((kidsOf rows (Sum.inr x)).map .str)))) ∨ (OddN K H (("" : Str) :: nms rows) v ∧ E (.ref CN) none H))
def spTLeaves (K : PySem.W.Frag) (C : Addr) : Sp := fun vs H Q _ => ∃ (p : Addr) (rows : List RowM) (h : Bool) (tk : List (Key × V)), vs = [.ref p] ∧ TreeAt K H C p rows h tk ∧ RowsOk rows ∧ rows.length ≤ 200 ∧ ∀ l, H l = none → Q (.ref l) (upd H l (.lst ((leavesOf rows).map .str)))
def upOf (rows : List RowM) (x : Str) : Str := ((rows.find? fun r => decide (r.name = x)).map (·.above)).getD ""
def upN (rows : List RowM) : Nat → Str → Str
  | 0, x => x
  | n + 1, x => upOf rows (upN rows n x)
def pathL (rows : List RowM) (x : Str) (m : Nat) : List Str := (List.range m).map fun j => upN rows j x
/-- m steps up to the root, and no fewer -/
def UpM (rows : List RowM) (x : Str) (m : Nat) : Prop := (∀ j < m, upN rows j x ∈ nms rows) ∧ upN rows m x = ""
def spTPath (K : PySem.W.Frag) (C CN : Addr) : Sp := fun vs H Q E => ∃ (p : Addr) (v : V) (rows : List RowM) (h : Bool) (tk : List (Key × V)), vs = [.ref p, v] ∧ TreeAt K H C p rows h tk ∧ (nms rows).Nodup ∧ ("" : Str) ∉ nms rows ∧
  ((∃ x m, v = .str x ∧ x ∈ nms rows ∧ UpM rows x m ∧ m ≤ 200 ∧ ∀ l, H l = none → Q (.ref l) (upd H l (.lst ((pathL rows x m).map .str)))) ∨ (OddN K H (nms rows) v ∧ E (.ref CN) none H))
def spTDue (K : PySem.W.Frag) (C CN CW : Addr) : Sp := fun vs H Q E => ∃ (p : Addr) (v wv : V) (rows : List RowM) (h : Bool) (tk : List (Key × V)), vs = [.ref p, v, wv] ∧ TreeAt K H C p rows h tk ∧ (nms rows).Nodup ∧
  ((∃ r ∈ rows, v = .str r.name ∧ ((∃ x ∈ leftW, wv = .str x ∧ ∀ u d, dueOf (fullD r.dues) x = some d → Dp K H u d → Q u H) ∨ (OddN K H leftW wv ∧ E (.ref CW) none H))) ∨ (OddN K H (nms rows) v ∧ E (.ref CN) none H))
def spIsWord2 (K : PySem.W.Frag) : Sp := fun vs H Q _ => ∃ v : V, vs = [v] ∧ ((∃ x ∈ leftW, v = .str x ∧ Q (.bl true) H) ∨ (OddN K H leftW v ∧ Q (.bl false) H))
section
variable {P : Program} {w : World} {K : PySem.W.Frag} {mg : Str → Option Value} {base : Heap} {aL C CN CW : Addr} {left : List (Key × V)}
theorem par_val (rows : List RowM) (x : Str) : (valV (rows.map fun r => ((Sum.inr r.name : Key), V.str r.above)) (Sum.inr x)).isSome = decide (x ∈ nms rows) := by
  by_cases c : x ∈ nms rows
  · rw [decide_eq_true c]
    refine val_some ?_
    rw [List.map_map]
    obtain ⟨r, hr, e⟩ := List.mem_map.mp c
    exact List.mem_map.mpr ⟨r, hr, by rw [← e]; rfl⟩
  · rw [decide_eq_false c]
    rw [keys_none fun m => c ?_]
    · rfl
    · rw [List.map_map] at m
      obtain ⟨r, hr, e⟩ := List.mem_map.mp m
      exact List.mem_map.mpr ⟨r, hr, Sum.inr.inj e⟩
theorem ok_isWord2 {f : Addr} {fd : FuncData} (F : Fun K "is_word" "is_word" sIsWord f fd) (T : TP P w K mg aL left) : FnOk P w K mg base CX0 1 f fd ["thing"] (spIsWord2 K) := by
  refine F.ok scIsWord (fun vs H Q E h => ?_) (fun cdv A outer s H vs Q E hr h => ?_)
  · obtain ⟨v, rfl, _⟩ := h
    rfl
  obtain ⟨v, rfl, h⟩ := h
  refine ⟨_, (pss_one (ps_ret (pe_and (pe_callB call_isi (by rfl) T.z_isinstance (by decide +kernel) (pa_cons (pv 0) (pa_cons (pe_bltn (v := .ty "str") (u := .type "str") (by rfl) T.z_str (by decide +kernel) rfl) pa_nil))) (pe_one (pe_cmpR op_inT (pv 0) (pe_glob (v := .ref aL) rfl T.g_LEFT_OUT rfl) (by first | exact nomark _ | rfl)))))), ?_⟩
  rcases h with ⟨x, hx, rfl, q⟩ | ⟨⟨t, ty, kt⟩ | ⟨x, rfl, hx⟩, q⟩
  · refine ⟨_, rfl, _, _, _, _, true, rfl, .ty _, .base (.str _), kit_ty (by decide +kernel), true, rfl, ?_⟩
    refine ⟨_, rfl, aL, left, Sum.inr x, rfl, rfl, T.tab, ?_⟩
    rw [val_some (k := (Sum.inr x : Key)) (by rw [T.keys]; exact List.mem_map.mpr ⟨x, hx, rfl⟩)]
    exact q
  · exact ⟨_, rfl, _, _, _, _, false, rfl, .ty _, ty, kit_ty kt, false, rfl, iteF q⟩
  · refine ⟨_, rfl, _, _, _, _, true, rfl, .ty _, .base (.str _), kit_ty (by decide +kernel), true, rfl, ?_⟩
    refine ⟨_, rfl, aL, left, Sum.inr x, rfl, rfl, T.tab, ?_⟩
    rw [keys_none (k := (Sum.inr x : Key)) (by
      rw [T.keys]
      intro m
      obtain ⟨y, hy, e⟩ := List.mem_map.mp m
      exact hx (Sum.inr.inj e ▸ hy))]
    exact q
theorem ok_checkGroup {f : Addr} {fd : FuncData} (F : Fun K "check_group" "check_group" sCheckGroup f fd) (T : TP P w K mg aL left) (TCl : TC K mg C) (XN : XN K mg "NoName" CN) : FnOk P w K mg base (L2.CX P w) 1 f fd ["tree", "name"] (spCG K C CN) := by
  refine F.okX scCheckGroup (fun vs H Q E h => ?_) (fun cdv A outer s H vs Q E hr h => ?_)
  · obtain ⟨p, v, rows, h, tk, rfl, _⟩ := h
    rfl
  obtain ⟨p, v, rows, h, tk, rfl, ⟨dx, po, pp, pk, pt, o1, o2, o3, o4, o5, o6⟩, q⟩ := h
  have hu := hu_of hr
  refine ⟨_, (pss_one (ps_if (PW.pt (pw_or (pt_not (pt_val (pe_callB call_isi (by rfl) T.z_isinstance (by decide +kernel) (pa_cons (pv 1) (pa_cons (pe_bltn (v := .ty "str") (u := .type "str") (by rfl) T.z_str (by decide +kernel) rfl) pa_nil))))) (pw_or1 (pt_cmp (pc_dnotin hu (pv 1) (pe_fld (pv 0) rfl)))))) (pss_one (ps_raise rfl (takes_of rfl rfl rfl rfl) (pmk_own PySem.F.excBase_ValueError XN.q XN.g XN.k (raises_own XN.r1 XN.r2) rfl))) pss_nil)), ?_⟩
  rcases q with ⟨x, rfl, hx, q⟩ | ⟨⟨t, ty, kt⟩ | ⟨x, rfl, hx⟩, q⟩
  · refine ⟨_, rfl, _, _, _, _, true, rfl, .ty _, .base (.str _), kit_ty (by decide +kernel), true, rfl, ?_⟩
    refine iteF ?_
    refine ⟨_, rfl, _, rfl, p, C, dx, _, _, rfl, o1, TCl.cl, TCl.n_parents, tf5_parents, pp, _, rfl, DGet.k (k := Sum.inr x) o3, ?_⟩
    rw [par_val, decide_eq_true hx]
    exact ⟨false, rfl, iteF q⟩
  · exact ⟨_, rfl, _, _, _, _, false, rfl, .ty _, ty, kit_ty kt, false, rfl, iteT q⟩
  · refine ⟨_, rfl, _, _, _, _, true, rfl, .ty _, .base (.str _), kit_ty (by decide +kernel), true, rfl, ?_⟩
    refine iteF ?_
    refine ⟨_, rfl, _, rfl, p, C, dx, _, _, rfl, o1, TCl.cl, TCl.n_parents, tf5_parents, pp, _, rfl, DGet.k (k := Sum.inr x) o3, ?_⟩
    rw [par_val, decide_eq_false hx]
    exact ⟨true, rfl, iteT q⟩
theorem ok_tnames {f : Addr} {fd : FuncData} (F : Fun K "names" "Tree.names" sTNames f fd) (T : TP P w K mg aL left) (TCl : TC K mg C) : FnOk P w K mg base CX0 1 f fd ["self"] (spTNames K C) := by
  refine F.ok scTNames (fun vs H Q E h => ?_) (fun cdv A outer s H vs Q E hr h => ?_)
  · obtain ⟨p, rows, h, tk, rfl, _⟩ := h
    rfl
  obtain ⟨p, rows, h, tk, rfl, ⟨dx, po, pp, pk, pt, o1, o2, o3, o4, o5, o6⟩, q⟩ := h
  refine ⟨_, (pss_one (ps_ret (pe_callTy call_list_of (by rfl) T.z_list (by decide +kernel) (pa_cons (pe_fld (pv 0) rfl) pa_nil)))), ?_⟩
  refine ⟨_, rfl, p, C, dx, _, _, rfl, o1, TCl.cl, TCl.n_order, tf5_order, po, _, rfl, .inl (SqL.of o2), fun l hl => ?_⟩
  have := q l hl
  unfold nms at this
  rw [List.map_map] at this
  exact this
theorem ok_thanding {f : Addr} {fd : FuncData} (F : Fun K "handing" "Tree.handing" sTHanding f fd) (TCl : TC K mg C) : FnOk P w K mg base CX0 1 f fd ["self"] (spTHanding K C) := by
  refine F.ok scTHanding (fun vs H Q E h => ?_) (fun cdv A outer s H vs Q E hr h => ?_)
  · obtain ⟨p, rows, h, tk, rfl, _⟩ := h
    rfl
  obtain ⟨p, rows, h, tk, rfl, ⟨dx, po, pp, pk, pt, o1, o2, o3, o4, o5, o6⟩, q⟩ := h
  refine ⟨_, (pss_one (ps_ret (pe_fld (pv 0) rfl))), ?_⟩
  exact ⟨_, rfl, p, C, dx, _, _, rfl, o1, TCl.cl, TCl.n_hands, tf5_hands, q⟩
theorem par_get {rows : List RowM} (nd : (nms rows).Nodup) {r : RowM} (hr : r ∈ rows) : valV (rows.map fun r => ((Sum.inr r.name : Key), V.str r.above)) (Sum.inr r.name) = some (.str r.above) := by
  have nk : ((rows.map fun r => ((Sum.inr r.name : Key), V.str r.above)).map (·.1)).Nodup := by
    have := nodup_inr nd
    unfold nms at this
    rw [List.map_map] at this ⊢
    exact this
  exact val_nd nk ((Sum.inr r.name : Key), V.str r.above) (List.mem_map.mpr ⟨r, hr, rfl⟩)
theorem ok_tabove {f g : Addr} {fd gd : FuncData} (F : Fun K "above" "Tree.above" sTAbove f fd) (TCl : TC K mg C) (cG : CalX P w K mg base "check_group" ["tree", "name"] 1 (spCG K C CN) g gd) : FnOk P w K mg base (L2.CX P w) 2 f fd ["self", "name"] (spTAbove K C CN) := by
  refine F.okX scTAbove (fun vs H Q E h => ?_) (fun cdv A outer s H vs Q E hr h => ?_)
  · obtain ⟨p, v, rows, h, tk, rfl, _⟩ := h
    rfl
  obtain ⟨p, v, rows, h, tk, rfl, ht, nd, q⟩ := h
  have hu := hu_of hr
  refine ⟨_, (pss_cons (ps_expr (pe_call cG.ok (hr.mono (by decide)) rfl cG.mg cG.kp cG.bd .nil (passes_call (takes_of rfl rfl rfl rfl) fun _ _ _ _ h => h) (pa_cons (pv 0) (pa_cons (pv 1) pa_nil)))) (pss_one (ps_ret (pe_dget hu (pe_fld (pv 0) rfl) (pv 1) (fun _ _ => rfl))))), ?_⟩
  rcases q with ⟨r, hrm, rfl, q⟩ | ⟨odd, q⟩
  · refine ⟨_, rfl, _, rfl, p, _, rows, h, tk, rfl, ht, .inl ⟨_, rfl, List.mem_map.mpr ⟨r, hrm, rfl⟩, ?_⟩⟩
    obtain ⟨dx, po, pp, pk, pt, o1, o2, o3, o4, o5, o6⟩ := ht
    exact ⟨_, rfl, p, C, dx, _, _, rfl, o1, TCl.cl, TCl.n_parents, tf5_parents, _, rfl, pp, _, rfl, dget_of o3 (par_get nd hrm), q⟩
  · exact ⟨_, rfl, _, rfl, p, _, rows, h, tk, rfl, ht, .inr ⟨odd, q⟩⟩
theorem kid_get {H : Hp} {pk : Addr} {rows : List RowM} (h : KidsAt H pk rows) (nd : (nms rows).Nodup) (ne : ("" : Str) ∉ nms rows) {x : Str} (hx : x ∈ ("" : Str) :: nms rows) : ∃ l ks, H pk = some (.dK ks) ∧ valV ks (Sum.inr x) = some (.ref l) ∧ H l = some (.lst ((kidsOf rows (Sum.inr x)).map .str)) := by
  obtain ⟨ks, k1, k2, k3⟩ := h
  have hk : (Sum.inr x : Key) ∈ ks.map (·.1) := by
    rw [k2]
    rcases List.mem_cons.mp hx with rfl | m
    · exact List.mem_cons_self
    · obtain ⟨r, hr, rfl⟩ := List.mem_map.mp m
      exact List.mem_cons_of_mem _ (List.mem_map.mpr ⟨r, hr, rfl⟩)
  obtain ⟨kv, hkv, e⟩ := List.mem_map.mp hk
  have nk : (ks.map (·.1)).Nodup := by
    rw [k2]
    refine List.nodup_cons.mpr ⟨fun m => ?_, ?_⟩
    · obtain ⟨r, hr, e⟩ := List.mem_map.mp m
      exact ne (List.mem_map.mpr ⟨r, hr, Sum.inr.inj e⟩)
    · have := nodup_inr nd
      unfold nms at this
      rw [List.map_map] at this
      exact this
  obtain ⟨l, e1, e2⟩ := k3 kv hkv
  have := val_nd nk kv hkv
  rw [e, e1] at this
  rw [e] at e2
  exact ⟨l, ks, k1, this, e2⟩
theorem kid_val {ks : List (Key × V)} {rows : List RowM} (k2 : ks.map (·.1) = (Sum.inr "" : Key) :: rows.map (fun r => (Sum.inr r.name : Key))) (x : Str) : (valV ks (Sum.inr x)).isSome = decide (x ∈ ("" : Str) :: nms rows) := by
  have e : (Sum.inr x : Key) ∈ ks.map (·.1) ↔ x ∈ ("" : Str) :: nms rows := by
    rw [k2, List.mem_cons, List.mem_cons]
    constructor
    · rintro (z | m)
      · exact .inl (Sum.inr.inj z)
      · obtain ⟨r, hr, z⟩ := List.mem_map.mp m
        exact .inr (List.mem_map.mpr ⟨r, hr, Sum.inr.inj z⟩)
    · rintro (rfl | m)
      · exact .inl rfl
      · obtain ⟨r, hr, rfl⟩ := List.mem_map.mp m
        exact .inr (List.mem_map.mpr ⟨r, hr, rfl⟩)
  by_cases c : x ∈ ("" : Str) :: nms rows
  · rw [decide_eq_true c]
    exact val_some (e.mpr c)
  · rw [decide_eq_false c, keys_none fun m => c (e.mp m)]
    rfl
theorem nms_nd {rows : List RowM} (h : RowsOk rows) : (nms rows).Nodup := by
  have := names_nd h rows.length
  rw [List.take_length] at this
  exact this
theorem nms_ne {rows : List RowM} (h : RowsOk rows) : ("" : Str) ∉ nms rows := fun m => by
  obtain ⟨r, hr, e⟩ := List.mem_map.mp m
  obtain ⟨i, hi⟩ := List.mem_iff_getElem?.mp hr
  have := (h i r hi).1.1
  rw [e] at this
  exact absurd this (by decide +kernel)
theorem ok_tkids {f : Addr} {fd : FuncData} (F : Fun K "children" "Tree.children" sTKids f fd) (T : TP P w K mg aL left) (TCl : TC K mg C) (XN : XN K mg "NoName" CN) : FnOk P w K mg base (L2.CX P w) 1 f fd ["self", "name"] (spTKids K C CN) := by
  refine F.okX scTKids (fun vs H Q E h => ?_) (fun cdv A outer s H vs Q E hr h => ?_)
  · obtain ⟨p, v, rows, h, tk, rfl, _⟩ := h
    rfl
  obtain ⟨p, v, rows, h, tk, rfl, ⟨dx, po, pp, pk, pt, o1, o2, o3, o4, o5, o6⟩, ok, q⟩ := h
  have hu := hu_of hr
  refine ⟨_, (pss_cons (ps_if (PW.pt (pw_or (pt_not (pt_val (pe_callB call_isi (by rfl) T.z_isinstance (by decide +kernel) (pa_cons (pv 1) (pa_cons (pe_bltn (v := .ty "str") (u := .type "str") (by rfl) T.z_str (by decide +kernel) rfl) pa_nil))))) (pw_or1 (pt_cmp (pc_dnotin hu (pv 1) (pe_fld (pv 0) rfl)))))) (pss_one (ps_raise rfl (takes_of rfl rfl rfl rfl) (pmk_own PySem.F.excBase_ValueError XN.q XN.g XN.k (raises_own XN.r1 XN.r2) rfl))) pss_nil) (pss_one (ps_ret (pe_callTy call_list_of (by rfl) T.z_list (by decide +kernel) (pa_cons (pe_dget hu (pe_fld (pv 0) rfl) (pv 1) (fun _ _ => rfl)) pa_nil))))), ?_⟩
  obtain ⟨ks, k1, k2, k3⟩ := id o6
  rcases q with ⟨x, rfl, hx, q⟩ | ⟨⟨t, ty, kt⟩ | ⟨x, rfl, hx⟩, q⟩
  · refine ⟨_, rfl, _, _, _, _, true, rfl, .ty _, .base (.str _), kit_ty (by decide +kernel), true, rfl, ?_⟩
    refine iteF ?_
    refine ⟨_, rfl, _, rfl, p, C, dx, _, _, rfl, o1, TCl.cl, TCl.n_kids, tf5_kids, pk, _, rfl, DGet.k (k := Sum.inr x) k1, ?_⟩
    rw [kid_val k2, decide_eq_true hx]
    refine ⟨false, rfl, iteF ?_⟩
    obtain ⟨l, ks', e1, e2, e3⟩ := kid_get o6 (nms_nd ok) (nms_ne ok) hx
    exact ⟨_, rfl, p, C, dx, _, _, rfl, o1, TCl.cl, TCl.n_kids, tf5_kids, _, rfl, pk, _, rfl, dget_of e1 e2, l, _, rfl, .inl (SqL.of e3), q⟩
  · exact ⟨_, rfl, _, _, _, _, false, rfl, .ty _, ty, kit_ty kt, false, rfl, iteT q⟩
  · refine ⟨_, rfl, _, _, _, _, true, rfl, .ty _, .base (.str _), kit_ty (by decide +kernel), true, rfl, ?_⟩
    refine iteF ?_
    refine ⟨_, rfl, _, rfl, p, C, dx, _, _, rfl, o1, TCl.cl, TCl.n_kids, tf5_kids, pk, _, rfl, DGet.k (k := Sum.inr x) k1, ?_⟩
    rw [kid_val k2, decide_eq_false hx]
    exact ⟨true, rfl, iteT q⟩

end
end Bd
end

section
namespace Bd
open PySem L2
section
variable {P : Program} {w : World} {K : PySem.W.Frag} {mg : Str → Option Value} {base : Heap} {aL C CN CW : Addr} {left : List (Key × V)}
theorem kids_empty (rows : List RowM) (x : Str) : ((kidsOf rows (Sum.inr x)).map V.str).isEmpty = !(rows.any fun q => decide (q.above = x)) := by
  have e : ((kidsOf rows (Sum.inr x)).map V.str).isEmpty = (kidsOf rows (Sum.inr x)).isEmpty := by
    cases kidsOf rows (Sum.inr x) <;> rfl
  rw [e]
  unfold kidsOf
  cases z : rows.any fun q => decide (q.above = x) with
  | true =>
    obtain ⟨q, hq, e⟩ := List.any_eq_true.mp z
    have : q ∈ rows.filter fun r => decide ((Sum.inr r.above : Key) = Sum.inr x) := List.mem_filter.mpr ⟨hq, by simpa using e⟩
    cases w : rows.filter fun r => decide ((Sum.inr r.above : Key) = Sum.inr x) with
    | nil =>
      rw [w] at this
      cases this
    | cons a b => rfl
  | false =>
    have : rows.filter (fun r => decide ((Sum.inr r.above : Key) = Sum.inr x)) = [] := List.filter_eq_nil_iff.mpr fun q hq => by
      have := List.any_eq_false.mp z q hq
      simpa using this
    rw [this]
    rfl
theorem ok_tleaves {f : Addr} {fd : FuncData} (F : Fun K "leaves" "Tree.leaves" sTLeaves f fd) (TCl : TC K mg C) : FnOk P w K mg base CX0 1 f fd ["self"] (spTLeaves K C) := by
  refine F.ok scTLeaves (fun vs H Q E h => ?_) (fun cdv A outer s H vs Q E hr h => ?_)
  · obtain ⟨p, rows, h, tk, rfl, _⟩ := h
    rfl
  obtain ⟨p, rows, h, tk, rfl, ⟨dx, po, pp, pk, pt, o1, o2, o3, o4, o5, o6⟩, ok, len, q⟩ := h
  have hu := hu_of hr
  refine ⟨_, (pss_one (ps_ret (pe_lc (own := [("name", 1)]) (g := gName 1) (tt := tNot (fun σ H Q => tDGet (tFld K (tVar 0) "kids") (tVar 1) σ H fun x H1 => ∃ k, TruV K x H1 k ∧ Q k H1)) (te := tVar 1) rfl scTLeaves.nd (pi_list (pe_fld (pv 0) rfl)) (blkOk_by (own := [("name", 1)]) (N := ["self", "name"]) (sc := defScope sTLeaves) (by decide +kernel)) (fun _ _ _ _ _ => (pg_name (i := 1) scTLeaves.nd rfl (Or.inl rfl))) (fun _ _ _ _ _ => (pts_one (pt_not (pt_truth (pe_dget hu (pe_fld (pv 0) rfl) (pv 1) (fun _ _ => rfl)) (by intro _; rfl))))) (fun _ _ _ _ _ => (pv 1))))), ?_⟩
  refine ⟨_, rfl, p, C, dx, _, _, rfl, o1, TCl.cl, TCl.n_order, tf5_order, po, rfl, ⟨_, SqL.of o2⟩, fun D hD => lc_list (K := K) (a := po) (xs := rows.map fun r => .str r.name) (fun i H' => H' = upd H D (.lst ((((rows.take i).filter (leafB rows)).map (·.name)).map V.str))) rfl ?_ ?_ ?_⟩
  · rintro i _ _ rfl
    exact SqL.of (by rw [upd_ne (ne_of_none o2 hD)]; exact o2)
  · rintro i x _ hx rfl
    obtain ⟨r, hr1, rfl⟩ : ∃ r, rows[i]? = some r ∧ x = .str r.name := by
      rw [List.getElem?_map] at hx
      obtain ⟨a, b, c⟩ := Option.map_eq_some_iff.mp hx
      exact ⟨a, b, c.symm⟩
    have hmem : r.name ∈ ("" : Str) :: nms rows := List.mem_cons_of_mem _ (List.mem_map.mpr ⟨r, List.mem_of_getElem? hr1, rfl⟩)
    obtain ⟨l, ks, e1, e2, e3⟩ := kid_get o6 (nms_nd ok) (nms_ne ok) hmem
    have il : i < rows.length := (List.getElem?_eq_some_iff.mp hr1).1
    have et : (((rows.take (i + 1)).filter (leafB rows)).map (·.name)).map V.str = (((rows.take i).filter (leafB rows)).map (·.name)).map V.str ++ (if leafB rows r = true then [V.str r.name] else []) := by
      rw [List.take_add_one, hr1, Option.toList_some, List.filter_append, List.map_append, List.map_append]
      cases z : leafB rows r with
      | true =>
        rw [List.filter_cons_of_pos z]
        rfl
      | false =>
        rw [List.filter_cons_of_neg (by rw [z]; decide)]
        rfl
    have eb : (!!((kidsOf rows (Sum.inr r.name)).map V.str).isEmpty) = leafB rows r := by
      rw [kids_empty]
      unfold leafB
      simp
    refine ⟨rfl, ?_⟩
    refine ⟨_, rfl, p, C, dx, _, _, rfl, (upd_ne (ne_of_none o1 hD)).trans o1, TCl.cl, TCl.n_kids, tf5_kids, _, rfl, pk, _, rfl, dget_of ((upd_ne (ne_of_none e1 hD)).trans e1) e2, _, .inl ⟨_, SqL.of ((upd_ne (ne_of_none e3 hD)).trans e3), rfl⟩, ?_⟩
    dsimp only
    rw [eb, et]
    cases z : leafB rows r with
    | true =>
      refine iteT ⟨_, rfl, _, upd_same, ?_, ?_⟩
      · rw [List.length_map, List.length_map]
        have := List.length_filter_le (leafB rows) (rows.take i)
        rw [List.length_take] at this
        exact small1000 (by omega)
      · rw [upd_upd]
        rfl
    | false =>
      refine iteF ?_
      rw [if_neg (by decide), List.append_nil]
  · rintro _ rfl
    rw [List.length_map, List.take_length]
    exact q D hD
theorem up_of {rows : List RowM} (nd : (nms rows).Nodup) {r : RowM} (hr : r ∈ rows) : upOf rows r.name = r.above := by
  unfold upOf
  cases e : rows.find? fun q => decide (q.name = r.name) with
  | none =>
    have := List.find?_eq_none.mp e r hr
    simp at this
  | some q =>
    have h1 := List.mem_of_find?_eq_some e
    have h2 : q.name = r.name := by
      have := List.find?_some e
      simpa using this
    have : q = r := by
      obtain ⟨i, hi⟩ := List.mem_iff_getElem?.mp h1
      obtain ⟨j, hj⟩ := List.mem_iff_getElem?.mp hr
      have li := (List.getElem?_eq_some_iff.mp hi)
      have lj := (List.getElem?_eq_some_iff.mp hj)
      obtain ⟨li, ei⟩ := li
      obtain ⟨lj, ej⟩ := lj
      have : i = j := (List.getElem_inj nd (h₀ := by unfold nms; rw [List.length_map]; exact li) (h₁ := by unfold nms; rw [List.length_map]; exact lj)).mp (by
        unfold nms
        rw [List.getElem_map, List.getElem_map, ei, ej, h2])
      subst this
      rw [← ei, ej]
    rw [this]
    rfl
theorem path_snoc (rows : List RowM) (x : Str) (i : Nat) : pathL rows x (i + 1) = pathL rows x i ++ [upN rows i x] := by
  unfold pathL
  rw [List.range_succ, List.map_append]
  rfl
def muL (l : Addr) (m : Nat) : St → Hp → Nat := fun _ H => match H l with
  | some (.lst xs) => m - xs.length
  | _ => 0
theorem muL_at {l : Addr} {m : Nat} {σ : St} {H : Hp} {xs : List V} (h : H l = some (.lst xs)) : muL l m σ H = m - xs.length := by
  unfold muL
  rw [h]
theorem ok_tdue {f g e : Addr} {fd gd ed : FuncData} (F : Fun K "due" "Tree.due" sTDue f fd) (TCl : TC K mg C) (XW : XN K mg "NoWord" CW) (cG : CalX P w K mg base "check_group" ["tree", "name"] 1 (spCG K C CN) g gd) (cW : Cal P w K mg base "is_word" ["thing"] 1 (spIsWord2 K) e ed) :
    FnOk P w K mg base (L2.CX P w) 2 f fd ["self", "name", "word"] (spTDue K C CN CW) := by
  refine F.okX scTDue (fun vs H Q E h => ?_) (fun cdv A outer s H vs Q E hr h => ?_)
  · obtain ⟨p, v, wv, rows, h, tk, rfl, _⟩ := h
    rfl
  obtain ⟨p, v, wv, rows, h, tk, rfl, ht, nd, q⟩ := h
  have hu := hu_of hr
  refine ⟨_, (pss_cons (ps_expr (pe_call cG.ok (hr.mono (by decide)) rfl cG.mg cG.kp cG.bd .nil (passes_call (takes_of rfl rfl rfl rfl) fun _ _ _ _ h => h) (pa_cons (pv 0) (pa_cons (pv 1) pa_nil)))) (pss_cons (ps_if (pt_not (pt_val (pe_call cW.ok (hr.mono (by decide)) rfl cW.mg cW.kp cW.bd .nil pass0 (pa_cons (pv 2) pa_nil)))) (pss_one (ps_raise rfl (takes_of rfl rfl rfl rfl) (pmk_own PySem.F.excBase_ValueError XW.q XW.g XW.k (raises_own XW.r1 XW.r2) rfl))) pss_nil) (pss_one (ps_ret (pe_dget hu (pe_dget hu (pe_fld (pv 0) rfl) (pv 1) (fun _ _ => rfl)) (pv 2) (fun _ _ => rfl)))))), ?_⟩
  rcases q with ⟨r, hrm, rfl, q⟩ | ⟨odd, q⟩
  · refine ⟨_, rfl, _, rfl, p, _, rows, h, tk, rfl, ht, .inl ⟨_, rfl, List.mem_map.mpr ⟨r, hrm, rfl⟩, ?_⟩⟩
    obtain ⟨dx, po, pp, pk, pt, o1, o2, o3, o4, o5, o6⟩ := ht
    rcases q with ⟨x, hx, rfl, q⟩ | ⟨odd, q⟩
    · refine ⟨_, rfl, _, rfl, .inl ⟨x, hx, rfl, true, rfl, iteF ?_⟩⟩
      obtain ⟨kv, hkv, hk1, d, hk2, fk, fk1, fk2⟩ := paired_of o5 r hrm
      have nt : (tk.map (·.1)).Nodup := by
        rw [td_keys (fun _ _ z => z.1) o5]
        have := nodup_inr nd
        unfold nms at this
        rw [List.map_map] at this
        exact this
      have g1 : valV tk (Sum.inr r.name : Key) = some (.ref d) := by
        have := val_nd nt kv hkv
        rw [hk1, hk2] at this
        exact this
      obtain ⟨u, du, g2, g3, g4⟩ : ∃ u du, valV fk (Sum.inr x : Key) = some u ∧ dueOf (fullD r.dues) x = some du ∧ Dp K H u du := by
        rcases val_due x fk2 with ⟨_, z⟩ | ⟨u, d2, z1, z2, z3⟩
        · exfalso
          unfold fullD at z
          unfold dueOf at z
          rw [Option.map_eq_none_iff, List.find?_eq_none] at z
          rw [← leftD_words] at hx
          obtain ⟨wd, h1, h2⟩ := List.mem_map.mp hx
          exact z _ (List.mem_map.mpr ⟨wd, h1, rfl⟩) (by simpa using h2)
        · exact ⟨u, d2, z1, z2, z3⟩
      exact ⟨_, rfl, p, C, dx, _, _, rfl, o1, TCl.cl, TCl.n_table, tf5_table, _, rfl, pt, _, rfl, dget_of o4 g1, _, rfl, d, _, rfl, dget_of fk1 g2, q u du g3 g4⟩
    · exact ⟨_, rfl, _, rfl, .inr ⟨odd, false, rfl, iteT q⟩⟩
  · exact ⟨_, rfl, _, rfl, p, _, rows, h, tk, rfl, ht, .inr ⟨odd, q⟩⟩
end
end Bd
end

section
namespace Bd
open PySem L2 PySem.Spec PyProof.Rows
section
variable {X : Cx}
/-- xs.count(y), all flat -/
theorem mt_fcount : MtR X "list.count" (fun x xs H Q => ∃ (a : Addr) (ys : List V) (y : V), x = V.ref a ∧ xs = [y] ∧ SqL X.K H a ys ∧ flatV y = true ∧ ys.all flatV = true ∧ Q (.int ((ys.countP fun z => eqV z y : Nat) : Int)) H) := by
  intro pins s σ H x xs v us Q I rx rxs h
  obtain ⟨a, ys, y, rfl, rfl, hs, fy, fys, q⟩ := h
  cases rx
  cases rxs with
  | cons ry rt =>
    rename_i uy ut
    cases rt
    obtain ⟨its, rv, ⟨⟨cls, dd, data, sl⟩, n, ho, hc, hdn, hd⟩, hlen⟩ := I.list hs
    simp only at hc hd
    subst hc hd
    refine call_meets PySem.F.slot_list_count ⟨_, ho, rfl⟩ PySem.F.entry_list_count (PySem.F.args_list_count_2 _ _)
      (SeqAt.list_countAt a its.toArray n dd sl uy (eqU y)) ⟨ho, fun u' hu' => mem_eqAt ry fy rv fys u' (by simpa using hu'), ?_⟩
    have ec : its.toArray.toList.countP (eqU y) = ys.countP fun z => eqV z y := by
      show its.countP (eqU y) = _
      clear q hs ho hlen hdn
      induction rv with
      | nil => rfl
      | cons r1 r2 ih =>
        have f1 := fys
        rw [List.all_cons, Bool.and_eq_true] at f1
        rw [List.countP_cons, List.countP_cons, ih f1.2, eqU_of r1 f1.1]
    refine ⟨.int ((ys.countP fun z => eqV z y : Nat) : Int), H, I.tok _, ⟨s.toks, ?_⟩, q⟩
    rw [← ec]
/-- d.update(e), both dicts with keys ints and texts -/
def rUpd : V → List V → Hp → VK → Prop := fun x xs H Q => ∃ (a b : Addr) (ks ls : List (Key × V)), x = .ref a ∧ xs = [.ref b] ∧ a ≠ b ∧ H a = some (.dK ks) ∧ H b = some (.dK ls) ∧ ks.length + ls.length ≤ 1000 ∧ Q .non (upd H a (.dK (mergeK ks ls)))
theorem mtd_update : MtR X "dict.update" rUpd := by
  intro pins s σ H x xs v us Q I rx rxs h
  obtain ⟨a, b, ks, ls, rfl, rfl, ne, ha, hb, hz, q⟩ := h
  cases rx
  cases rxs with
  | cons ry rt =>
    cases rt
    cases ry
    obtain ⟨z0, lo0, vs0, r0, d0⟩ := dk_of I.hok ha
    obtain ⟨z1, lo1, vs1, r1, d1⟩ := dk_of I.hok hb
    have hm : (mergeK ks ls).length ≤ sizeLine := by
      have := length_mergeK ls ks
      exact small (by omega)
    refine call_meetsIn PySem.F.slot_dict_update d0.typeIs PySem.F.entry_dict_update (PySem.F.args_dict_update_2 _ _) (meets_dict_update (mixKind X.prog X.w) a b ne lo1)
      ⟨vs0, vs1, d0, d1, small (by rw [← r0.length, ← r1.length]; omega), fun h' hmm _ hs => ?_⟩
    have he : ∃ q, h'.get? a = some q := let ⟨q, _, _, hq, _⟩ := hmm; ⟨q, hq⟩
    exact ⟨.non, _, d_write (t' := s.toks) I (by rw [ha]; exact True.intro) hs he (dk_new (H' := upd H a (.dK (mergeK ks ls))) hm lo0 (r1.merge r0) hmm), rfl, q⟩
end
end Bd
end

section
namespace Bd
open PySem L2

theorem full_val {dues : List (Str × PyData)} (h : ∀ x ∈ dues, ValOk x.1 x.2) : ∀ wd ∈ fullD dues, ValOk wd.1 wd.2 := by
  intro wd m
  unfold fullD at m
  obtain ⟨ld, hl, rfl⟩ := List.mem_map.mp m
  show ValOk ld.1 ((dueOf dues ld.1).getD ld.2)
  cases c : dueOf dues ld.1 with
  | none => exact (leftD_ok ld hl).2
  | some d => exact h _ (dueOf_mem c)
theorem rows_due {rows : List RowM} (h : RowsOk rows) : ∀ r ∈ rows, DuesOk r.dues := fun r hr => by
  obtain ⟨j, hj⟩ := List.mem_iff_getElem?.mp hr
  exact (h j r hj).2.1
theorem TreeAt.same {K : PySem.W.Frag} {H H' : Hp} {C p : Addr} {rows : List RowM} {h : Bool} {tk : List (Key × V)} (k : Same H H') (ok : RowsOk rows) (t : TreeAt K H C p rows h tk) : TreeAt K H' C p rows h tk := by
  obtain ⟨dx, po, pp, pk, pt, o1, o2, o3, o4, o5, ks, k1, k2, k3⟩ := t
  refine ⟨dx, po, pp, pk, pt, k _ _ o1, k _ _ o2, k _ _ o3, k _ _ o4, paired_monoM (fun kv r hr z => ?_) o5, ks, k _ _ k1, k2, fun kv hkv => ?_⟩
  · obtain ⟨z1, d, z2, kvs, z3, z4⟩ := z
    exact ⟨z1, d, z2, kvs, k _ _ z3, paired_monoM (fun kv wd hw z => ⟨z.1, (TK.of k).val (full_val (fun x hx => ((rows_due ok r hr).2 x hx).2) wd hw) z.2⟩) z4⟩
  · obtain ⟨l, e1, e2⟩ := k3 kv hkv
    exact ⟨l, e1, k _ _ e2⟩
theorem rows_same {K : PySem.W.Frag} {H H' : Hp} (k : Same H H') {xs : List V} {rows : List RowM} (h : Paired (RowAt K H) xs rows) : Paired (RowAt K H') xs rows := paired_mono (fun _ _ z => RowAt.same k z) h
theorem kids_flt (rows : List RowM) (x : Str) : kidsOf rows (Sum.inr x) = (rows.filter fun r => decide (r.above = x)).map (·.name) := by
  unfold kidsOf
  congr 1
  refine List.filter_congr fun r _ => ?_
  by_cases c : r.above = x
  · rw [decide_eq_true c, c]
    simp
  · rw [decide_eq_false c]
    exact decide_eq_false fun z => c (Sum.inr.inj z)
theorem dec_strs (a b : Str) : decide (V.str a = V.str b) = decide (a = b) := by
  by_cases c : a = b
  · rw [c]
    simp
  · rw [decide_eq_false c]
    exact decide_eq_false fun z => c (V.str.inj z)
theorem flt_take (f : RowM → Bool) {rows : List RowM} {i : Nat} {r : RowM} (h : rows[i]? = some r) : (((rows.take (i + 1)).filter f).map (·.name)).map V.str = (((rows.take i).filter f).map (·.name)).map V.str ++ (if f r = true then [V.str r.name] else []) := by
  rw [List.take_add_one, h, Option.toList_some, List.filter_append, List.map_append, List.map_append]
  cases z : f r with
  | true =>
    rw [List.filter_cons_of_pos z]
    rfl
  | false =>
    rw [List.filter_cons_of_neg (by rw [z]; decide)]
    rfl
theorem ne_self {xs ys : List Str} (e : xs = ys) : (!PyData.eqv (.list (xs.map .str)) (.list (ys.map .str))) = false := by
  rw [eqv_strL, decide_eq_true e]
  rfl
theorem dp_strL {K : PySem.W.Frag} {H : Hp} {a : Addr} {xs : List Str} (h : H a = some (.lst (xs.map V.str))) : Dp K H (.ref a) (.list (xs.map .str)) := .lst (SqL.of h) (dp_strs xs)
theorem lay_nms {rows : List RowM} (ok : RowsOk rows) : ∀ x ∈ nms rows, PyData.canLay0 (.str x) = true := fun x hx => by
  obtain ⟨r, hr, rfl⟩ := List.mem_map.mp hx
  obtain ⟨m, hm⟩ := List.mem_iff_getElem?.mp hr
  exact lay_name (ok m r hm).1
theorem kids_in (rows : List RowM) (k : Key) : ∀ x ∈ kidsOf rows k, x ∈ nms rows := fun x hx => by
  obtain ⟨r, hr, rfl⟩ := List.mem_map.mp hx
  exact List.mem_map.mpr ⟨r, (List.mem_filter.mp hr).1, rfl⟩
theorem leaves_in (rows : List RowM) : ∀ x ∈ leavesOf rows, x ∈ nms rows := fun x hx => by
  obtain ⟨r, hr, rfl⟩ := List.mem_map.mp hx
  exact List.mem_map.mpr ⟨r, (List.mem_filter.mp hr).1, rfl⟩
theorem same_upd2 {H : Hp} {a b : Addr} {o u : HO} (ha : H a = none) (hb : upd H a o b = none) : Same H (upd (upd H a o) b u) := Same.new (Same.new (Same.refl H) ha o) hb u
theorem none_of_same {H H' : Hp} {a : Addr} (s : Same H H') (h : H' a = none) : H a = none := s.free h
/-- a list that is not in H may be changed -/
theorem Same.ch {H H1 : Hp} {a : Addr} (s : Same H H1) (h : H a = none) (o : HO) : Same H (upd H1 a o) := fun b u e => by
  rw [upd_ne (ne_of_none e h)]
  exact s b u e
end Bd
end

section
namespace Bd
open PySem L2
abbrev sSaid : Stmt := (top 48)
theorem scSaid : FnScope ["_law_ask", "e", "_law_marks"] ["_law_ask"] (defScope sSaid) := ⟨rfl, rfl, rfl, by decide +kernel, rfl, by decide +kernel, by decide +kernel⟩

section
variable {X : Cx}
/-- isinstance(e, c), e the exception that the suite holds, of an own class without a dict -/
theorem call_isE2 {a : Addr} {oe : Obj} {cls : Value} {d : Option Addr} {pn : List (Addr × Obj)} (hz : Zc cls d oe) (hf : ∃ vs, oe.data = .fields vs) :
    CallR (X.suite a ((a, oe) :: pn)) (.builtin "isinstance") (fun xs H Q => ∃ (D : Addr) (c : V) (cv : Value) (b : Bool), cls = .ref D ∧ d = none ∧ ExcC X.K D ∧ xs = [.ref a, c] ∧ (∀ u, RelV c u → u = cv) ∧ PySem.W.kitOne X.K (.ref D) cv = some b ∧ Q (.bl b) H) := by
  intro pins s σ H xs us Q I r h
  obtain ⟨D, c, cv, b, rfl, rfl, C, rfl, hcv, e, q⟩ := h
  exact call_isE C hz hf pins s σ H _ us Q I r ⟨c, cv, b, rfl, hcv, e, q⟩
end
/-- what of the errors' classes the law asks -/
structure XS (mg : Str → Option Value) (CE : Addr) (ec : Nat → Addr) : Prop where
  gE : mg "DueError" = some (.ref CE)
  z_VE : mg "ValueError" = none
  z_isi : mg "isinstance" = none
  g0 : mg "NoTree" = some (.ref (ec 0))
  g1 : mg "NoName" = some (.ref (ec 1))
  g2 : mg "NoWord" = some (.ref (ec 2))
  g3 : mg "NoDue" = some (.ref (ec 3))
  g4 : mg "NoUses" = some (.ref (ec 4))
  g5 : mg "NoKind" = some (.ref (ec 5))
  g6 : mg "NoAmount" = some (.ref (ec 6))
/-- the i-th class, raised -/
structure XD (K : PySem.W.Frag) (CE : Addr) (ec : Nat → Addr) (i : Nat) : Prop where
  exc : ExcC K (ec i)
  exm : PySem.W.exmOne K (.ref (ec i)) (.ref CE) = some true
  m : ∀ j < 7, PySem.W.kitOne K (.ref (ec i)) (.ref (ec j)) = some (decide (j = i))
  v : PySem.W.kitOne K (.ref (ec i)) (.type "ValueError") = some true
def saidW : List Str := ["tree", "name", "word", "due", "uses", "kind", "amount"]
/-- what the def that calls the lambda makes of its reading -/
def TSaid (K : PySem.W.Frag) (CE : Addr) (ec : Nat → Addr) : (XK → Hp → VK → Prop) → Hp → VK → Prop := fun tl H Q =>
  tl (fun cls d H' => ∃ (i : Nat) (x : Str), cls = .ref (ec i) ∧ d = none ∧ 0 < i ∧ i < 7 ∧ XD K CE ec i ∧ saidW[i]? = some x ∧ ∀ H'', Same H' H'' → Q (.str x) H'') H (fun _ H' => Q .non H')
section
variable {X : Cx} {CE : Addr} {ec : Nat → Addr}
abbrev cxSaid (X : Cx) (g : Addr) (cdg : Value) (s : Shared) (H : Hp) : Cx := (cxOf C8.CX0 X.prog X.w X.K X.mg X.base ["_law_ask", "e", "_law_marks"] "_law_said" (defScope sSaid) g cdg X.A X.stack s H C8.E0).nox
/-- the suite of the first except clause -/
def excSuite (st : Stmt) : List Stmt := match defBody st with
  | .Try _ (.ExceptHandler _ _ su _ :: _) _ _ _ :: _ => su
  | _ => []
theorem ty_only {T : String} : ∀ u, RelV (.ty T) u → u = .type T := fun u r => r
theorem ref_only {a : Addr} : ∀ u, RelV (.ref a) u → u = .ref a := fun u r => r
theorem said_gives {q : Str} {g : Addr} {cdg : Value} (XS : XS X.mg CE ec) :
    LamX.GivesTo X ["_law_ask", "e", "_law_marks"] "_law_said" (defScope sSaid) g cdg (defBody sSaid) "_law_ask" q (TSaid X.K CE ec) := by
  intro f c' s H Q tl act hc h
  refine ⟨_, pss_cons (ps_try_as (X := (cxOf C8.CX0 X.prog X.w X.K X.mg X.base ["_law_ask", "e", "_law_marks"] "_law_said" (defScope sSaid) g cdg X.A X.stack s H C8.E0).nox) (i := 1) (c := .ref CE)
      (ts := fun a cls d D σ H2 => σ.length = 3 → ∀ (oe : Obj) (pn : List (Addr × Obj)), Zc cls d oe → (∃ vs, oe.data = .fields vs) → ∃ t, PSs ((cxSaid X g cdg s H).suite a ((a, oe) :: pn)) (excSuite sSaid) t ∧ t D σ H2) (tb := fun W D σ H => ∃ Ech : XK, (∀ cls d σ' H', Ech cls d H' → W cls d σ' H') ∧ σ[0]? = some (some (.ref f)) ∧ H c' = some (LamX.CodeO c' q) ∧ tl Ech H fun _ H' => D.nx σ H')
      rfl rfl scSaid.nd rfl rfl ⟨rfl, by decide, .inl XS.gE⟩ takes0 (fun W pn xe tk _ => ?_) (fun a oe cls d pn hz hf => ⟨fun pins s' σ' H' D I h' => by
        obtain ⟨t, h1, h2⟩ := h' I.len oe pn hz hf
        exact h1.run pins s' σ' H' D I h2⟩)) (pss_one (ps_ret pe_non)), ?_⟩
  · refine ⟨fun pins s' σ H' D I h' => ?_⟩
    obtain ⟨Ech, hW, h1, h2, h3⟩ := h'
    exact (pss_one (ps_expr (act W pn xe Ech _ _ tk hW))).run pins s' σ H' D I ⟨h1, h2, h3⟩
  · refine ⟨fun cls d H' => ∃ (i : Nat) (x : Str), cls = .ref (ec i) ∧ d = none ∧ 0 < i ∧ i < 7 ∧ XD X.K CE ec i ∧ saidW[i]? = some x ∧ ∀ H'', Same H' H'' → Q (.str x) H'', fun cls d σ' H' hE => ?_, rfl, hc, h⟩
    obtain ⟨i, x, rfl, rfl, i0, i7, D, hx, q⟩ := hE
    refine ⟨true, D.exm, fun _ a ha hl oe pn hz hf => ?_, fun z => by cases z⟩
    rw [List.length_set] at hl
    obtain ⟨x0, x1, x2, rfl⟩ : ∃ x0 x1 x2, σ' = [x0, x1, x2] := by
      match σ', hl with
      | [x0, x1, x2], _ => exact ⟨x0, x1, x2, rfl⟩
    refine ⟨_, (pss_cons (ps_set (i := 2) scSaid.nd rfl (Or.inl rfl) (pe_lst (pa_cons (pe_callB (call_isE2 hz hf) (by rfl) XS.z_isi (by decide +kernel) (pa_cons (pv 1) (pa_cons (pe_glob (v := .ref (ec 0)) rfl XS.g0 rfl) pa_nil))) (pa_cons (pe_callB (call_isE2 hz hf) (by rfl) XS.z_isi (by decide +kernel) (pa_cons (pv 1) (pa_cons (pe_glob (v := .ref (ec 1)) rfl XS.g1 rfl) pa_nil))) (pa_cons (pe_callB (call_isE2 hz hf) (by rfl) XS.z_isi (by decide +kernel) (pa_cons (pv 1) (pa_cons (pe_glob (v := .ref (ec 2)) rfl XS.g2 rfl) pa_nil))) (pa_cons (pe_callB (call_isE2 hz hf) (by rfl) XS.z_isi (by decide +kernel) (pa_cons (pv 1) (pa_cons (pe_glob (v := .ref (ec 3)) rfl XS.g3 rfl) pa_nil))) pa_nil)))))) (pss_cons (ps_set (i := 2) scSaid.nd rfl (Or.inl rfl) (pe_op op_cat (pv 2) (pe_lst (pa_cons (pe_callB (call_isE2 hz hf) (by rfl) XS.z_isi (by decide +kernel) (pa_cons (pv 1) (pa_cons (pe_glob (v := .ref (ec 4)) rfl XS.g4 rfl) pa_nil))) (pa_cons (pe_callB (call_isE2 hz hf) (by rfl) XS.z_isi (by decide +kernel) (pa_cons (pv 1) (pa_cons (pe_glob (v := .ref (ec 5)) rfl XS.g5 rfl) pa_nil))) (pa_cons (pe_callB (call_isE2 hz hf) (by rfl) XS.z_isi (by decide +kernel) (pa_cons (pv 1) (pa_cons (pe_glob (v := .ref (ec 6)) rfl XS.g6 rfl) pa_nil))) pa_nil)))))) (pss_cons (ps_if (PW.pt (pw_or (pt_cmpR op_ne (pe_bm PySem.F.plainAttrs_list PySem.F.slot_list_count PySem.F.type_list_count mt_fcount (pv 2) (pa_cons pe_bl pa_nil)) pe_int (nomark _)) (pw_or1 (pt_not (pt_val (pe_callB (call_isE2 hz hf) (by rfl) XS.z_isi (by decide +kernel) (pa_cons (pv 1) (pa_cons (pe_bltn (v := .ty "ValueError") (u := .type "ValueError") (by rfl) XS.z_VE (by decide +kernel) rfl) pa_nil)))))))) (pss_one (ps_ret pe_str)) pss_nil) (pss_cons (ps_if (pt_val (pe_ix ix_list (pv 2) pe_int (fun _ _ => rfl))) (pss_one ps_never) pss_nil) (pss_one (ps_ret (pe_ix ix_list (pe_lst (pa_cons pe_str (pa_cons pe_str (pa_cons pe_str (pa_cons pe_str (pa_cons pe_str (pa_cons pe_str (pa_cons pe_str pa_nil)))))))) (pe_bm PySem.F.plainAttrs_list PySem.F.slot_list_index PySem.F.type_list_index mt_index (pv 2) (pa_cons pe_bl pa_nil)) (fun _ _ => rfl)))))))), ?_⟩
    rcases (show i = 1 ∨ i = 2 ∨ i = 3 ∨ i = 4 ∨ i = 5 ∨ i = 6 by omega) with rfl | rfl | rfl | rfl | rfl | rfl
    · obtain rfl := Option.some.inj hx
      refine ⟨_, rfl, ec 1, _, .ref (ec 0), _, rfl, rfl, D.exc, rfl, ref_only, D.m 0 (by decide), _, rfl, ec 1, _, .ref (ec 1), _, rfl, rfl, D.exc, rfl, ref_only, D.m 1 (by decide), _, rfl, ec 1, _, .ref (ec 2), _, rfl, rfl, D.exc, rfl, ref_only, D.m 2 (by decide), _, rfl, ec 1, _, .ref (ec 3), _, rfl, rfl, D.exc, rfl, ref_only, D.m 3 (by decide), by show 4 ≤ sizeLine; decide, fun l1 hl1 => ?_⟩
      refine ⟨_, rfl, _, rfl, ec 1, _, .ref (ec 4), _, rfl, rfl, D.exc, rfl, ref_only, D.m 4 (by decide), _, rfl, ec 1, _, .ref (ec 5), _, rfl, rfl, D.exc, rfl, ref_only, D.m 5 (by decide), _, rfl, ec 1, _, .ref (ec 6), _, rfl, rfl, D.exc, rfl, ref_only, D.m 6 (by decide), by show 3 ≤ sizeLine; decide, fun l2 hl2 => ⟨l1, l2, _, _, rfl, rfl, (upd_ne (none_upd hl2).1.symm).trans upd_same, upd_same, by show 4 + 3 ≤ sizeLine; decide, fun l3 hl3 => ?_⟩⟩
      refine ⟨_, rfl, .inl ⟨rfl, _, SqL.of upd_same⟩, l3, _, .bl true, rfl, rfl, SqL.of upd_same, rfl, rfl, rfl, false, congrArg V.bl (by decide +kernel), iteF ?_⟩
      refine ⟨_, rfl, ec 1, _, .type "ValueError", true, rfl, rfl, D.exc, rfl, ty_only, D.v, true, rfl, iteF ?_⟩
      refine ⟨_, rfl, l3, _, 0, _, rfl, rfl, SqL.of upd_same, rfl, false, congrArg V.bl (by decide +kernel), iteF ?_⟩
      refine ⟨by show 7 ≤ sizeLine; decide, fun l4 hl4 => ?_⟩
      refine ⟨_, rfl, .inl ⟨rfl, _, SqL.of ((upd_ne (none_upd hl4).1.symm).trans upd_same)⟩, l3, _, .bl true, 1, .bl true, rfl, rfl, SqL.of ((upd_ne (none_upd hl4).1.symm).trans upd_same), rfl, rfl, rfl, rfl, ?_, l4, _, _, _, rfl, rfl, SqL.of upd_same, rfl, ?_⟩
      · intro m z hm hz
        rcases (show m = 0 by omega) with rfl
        all_goals
          cases hz
          rfl
      · exact q _ (Same.new (Same.new (Same.new (Same.new (Same.refl _) hl1 _) hl2 _) hl3 _) hl4 _)
    · obtain rfl := Option.some.inj hx
      refine ⟨_, rfl, ec 2, _, .ref (ec 0), _, rfl, rfl, D.exc, rfl, ref_only, D.m 0 (by decide), _, rfl, ec 2, _, .ref (ec 1), _, rfl, rfl, D.exc, rfl, ref_only, D.m 1 (by decide), _, rfl, ec 2, _, .ref (ec 2), _, rfl, rfl, D.exc, rfl, ref_only, D.m 2 (by decide), _, rfl, ec 2, _, .ref (ec 3), _, rfl, rfl, D.exc, rfl, ref_only, D.m 3 (by decide), by show 4 ≤ sizeLine; decide, fun l1 hl1 => ?_⟩
      refine ⟨_, rfl, _, rfl, ec 2, _, .ref (ec 4), _, rfl, rfl, D.exc, rfl, ref_only, D.m 4 (by decide), _, rfl, ec 2, _, .ref (ec 5), _, rfl, rfl, D.exc, rfl, ref_only, D.m 5 (by decide), _, rfl, ec 2, _, .ref (ec 6), _, rfl, rfl, D.exc, rfl, ref_only, D.m 6 (by decide), by show 3 ≤ sizeLine; decide, fun l2 hl2 => ⟨l1, l2, _, _, rfl, rfl, (upd_ne (none_upd hl2).1.symm).trans upd_same, upd_same, by show 4 + 3 ≤ sizeLine; decide, fun l3 hl3 => ?_⟩⟩
      refine ⟨_, rfl, .inl ⟨rfl, _, SqL.of upd_same⟩, l3, _, .bl true, rfl, rfl, SqL.of upd_same, rfl, rfl, rfl, false, congrArg V.bl (by decide +kernel), iteF ?_⟩
      refine ⟨_, rfl, ec 2, _, .type "ValueError", true, rfl, rfl, D.exc, rfl, ty_only, D.v, true, rfl, iteF ?_⟩
      refine ⟨_, rfl, l3, _, 0, _, rfl, rfl, SqL.of upd_same, rfl, false, congrArg V.bl (by decide +kernel), iteF ?_⟩
      refine ⟨by show 7 ≤ sizeLine; decide, fun l4 hl4 => ?_⟩
      refine ⟨_, rfl, .inl ⟨rfl, _, SqL.of ((upd_ne (none_upd hl4).1.symm).trans upd_same)⟩, l3, _, .bl true, 2, .bl true, rfl, rfl, SqL.of ((upd_ne (none_upd hl4).1.symm).trans upd_same), rfl, rfl, rfl, rfl, ?_, l4, _, _, _, rfl, rfl, SqL.of upd_same, rfl, ?_⟩
      · intro m z hm hz
        rcases (show m = 0 ∨ m = 1 by omega) with rfl | rfl
        all_goals
          cases hz
          rfl
      · exact q _ (Same.new (Same.new (Same.new (Same.new (Same.refl _) hl1 _) hl2 _) hl3 _) hl4 _)
    · obtain rfl := Option.some.inj hx
      refine ⟨_, rfl, ec 3, _, .ref (ec 0), _, rfl, rfl, D.exc, rfl, ref_only, D.m 0 (by decide), _, rfl, ec 3, _, .ref (ec 1), _, rfl, rfl, D.exc, rfl, ref_only, D.m 1 (by decide), _, rfl, ec 3, _, .ref (ec 2), _, rfl, rfl, D.exc, rfl, ref_only, D.m 2 (by decide), _, rfl, ec 3, _, .ref (ec 3), _, rfl, rfl, D.exc, rfl, ref_only, D.m 3 (by decide), by show 4 ≤ sizeLine; decide, fun l1 hl1 => ?_⟩
      refine ⟨_, rfl, _, rfl, ec 3, _, .ref (ec 4), _, rfl, rfl, D.exc, rfl, ref_only, D.m 4 (by decide), _, rfl, ec 3, _, .ref (ec 5), _, rfl, rfl, D.exc, rfl, ref_only, D.m 5 (by decide), _, rfl, ec 3, _, .ref (ec 6), _, rfl, rfl, D.exc, rfl, ref_only, D.m 6 (by decide), by show 3 ≤ sizeLine; decide, fun l2 hl2 => ⟨l1, l2, _, _, rfl, rfl, (upd_ne (none_upd hl2).1.symm).trans upd_same, upd_same, by show 4 + 3 ≤ sizeLine; decide, fun l3 hl3 => ?_⟩⟩
      refine ⟨_, rfl, .inl ⟨rfl, _, SqL.of upd_same⟩, l3, _, .bl true, rfl, rfl, SqL.of upd_same, rfl, rfl, rfl, false, congrArg V.bl (by decide +kernel), iteF ?_⟩
      refine ⟨_, rfl, ec 3, _, .type "ValueError", true, rfl, rfl, D.exc, rfl, ty_only, D.v, true, rfl, iteF ?_⟩
      refine ⟨_, rfl, l3, _, 0, _, rfl, rfl, SqL.of upd_same, rfl, false, congrArg V.bl (by decide +kernel), iteF ?_⟩
      refine ⟨by show 7 ≤ sizeLine; decide, fun l4 hl4 => ?_⟩
      refine ⟨_, rfl, .inl ⟨rfl, _, SqL.of ((upd_ne (none_upd hl4).1.symm).trans upd_same)⟩, l3, _, .bl true, 3, .bl true, rfl, rfl, SqL.of ((upd_ne (none_upd hl4).1.symm).trans upd_same), rfl, rfl, rfl, rfl, ?_, l4, _, _, _, rfl, rfl, SqL.of upd_same, rfl, ?_⟩
      · intro m z hm hz
        rcases (show m = 0 ∨ m = 1 ∨ m = 2 by omega) with rfl | rfl | rfl
        all_goals
          cases hz
          rfl
      · exact q _ (Same.new (Same.new (Same.new (Same.new (Same.refl _) hl1 _) hl2 _) hl3 _) hl4 _)
    · obtain rfl := Option.some.inj hx
      refine ⟨_, rfl, ec 4, _, .ref (ec 0), _, rfl, rfl, D.exc, rfl, ref_only, D.m 0 (by decide), _, rfl, ec 4, _, .ref (ec 1), _, rfl, rfl, D.exc, rfl, ref_only, D.m 1 (by decide), _, rfl, ec 4, _, .ref (ec 2), _, rfl, rfl, D.exc, rfl, ref_only, D.m 2 (by decide), _, rfl, ec 4, _, .ref (ec 3), _, rfl, rfl, D.exc, rfl, ref_only, D.m 3 (by decide), by show 4 ≤ sizeLine; decide, fun l1 hl1 => ?_⟩
      refine ⟨_, rfl, _, rfl, ec 4, _, .ref (ec 4), _, rfl, rfl, D.exc, rfl, ref_only, D.m 4 (by decide), _, rfl, ec 4, _, .ref (ec 5), _, rfl, rfl, D.exc, rfl, ref_only, D.m 5 (by decide), _, rfl, ec 4, _, .ref (ec 6), _, rfl, rfl, D.exc, rfl, ref_only, D.m 6 (by decide), by show 3 ≤ sizeLine; decide, fun l2 hl2 => ⟨l1, l2, _, _, rfl, rfl, (upd_ne (none_upd hl2).1.symm).trans upd_same, upd_same, by show 4 + 3 ≤ sizeLine; decide, fun l3 hl3 => ?_⟩⟩
      refine ⟨_, rfl, .inl ⟨rfl, _, SqL.of upd_same⟩, l3, _, .bl true, rfl, rfl, SqL.of upd_same, rfl, rfl, rfl, false, congrArg V.bl (by decide +kernel), iteF ?_⟩
      refine ⟨_, rfl, ec 4, _, .type "ValueError", true, rfl, rfl, D.exc, rfl, ty_only, D.v, true, rfl, iteF ?_⟩
      refine ⟨_, rfl, l3, _, 0, _, rfl, rfl, SqL.of upd_same, rfl, false, congrArg V.bl (by decide +kernel), iteF ?_⟩
      refine ⟨by show 7 ≤ sizeLine; decide, fun l4 hl4 => ?_⟩
      refine ⟨_, rfl, .inl ⟨rfl, _, SqL.of ((upd_ne (none_upd hl4).1.symm).trans upd_same)⟩, l3, _, .bl true, 4, .bl true, rfl, rfl, SqL.of ((upd_ne (none_upd hl4).1.symm).trans upd_same), rfl, rfl, rfl, rfl, ?_, l4, _, _, _, rfl, rfl, SqL.of upd_same, rfl, ?_⟩
      · intro m z hm hz
        rcases (show m = 0 ∨ m = 1 ∨ m = 2 ∨ m = 3 by omega) with rfl | rfl | rfl | rfl
        all_goals
          cases hz
          rfl
      · exact q _ (Same.new (Same.new (Same.new (Same.new (Same.refl _) hl1 _) hl2 _) hl3 _) hl4 _)
    · obtain rfl := Option.some.inj hx
      refine ⟨_, rfl, ec 5, _, .ref (ec 0), _, rfl, rfl, D.exc, rfl, ref_only, D.m 0 (by decide), _, rfl, ec 5, _, .ref (ec 1), _, rfl, rfl, D.exc, rfl, ref_only, D.m 1 (by decide), _, rfl, ec 5, _, .ref (ec 2), _, rfl, rfl, D.exc, rfl, ref_only, D.m 2 (by decide), _, rfl, ec 5, _, .ref (ec 3), _, rfl, rfl, D.exc, rfl, ref_only, D.m 3 (by decide), by show 4 ≤ sizeLine; decide, fun l1 hl1 => ?_⟩
      refine ⟨_, rfl, _, rfl, ec 5, _, .ref (ec 4), _, rfl, rfl, D.exc, rfl, ref_only, D.m 4 (by decide), _, rfl, ec 5, _, .ref (ec 5), _, rfl, rfl, D.exc, rfl, ref_only, D.m 5 (by decide), _, rfl, ec 5, _, .ref (ec 6), _, rfl, rfl, D.exc, rfl, ref_only, D.m 6 (by decide), by show 3 ≤ sizeLine; decide, fun l2 hl2 => ⟨l1, l2, _, _, rfl, rfl, (upd_ne (none_upd hl2).1.symm).trans upd_same, upd_same, by show 4 + 3 ≤ sizeLine; decide, fun l3 hl3 => ?_⟩⟩
      refine ⟨_, rfl, .inl ⟨rfl, _, SqL.of upd_same⟩, l3, _, .bl true, rfl, rfl, SqL.of upd_same, rfl, rfl, rfl, false, congrArg V.bl (by decide +kernel), iteF ?_⟩
      refine ⟨_, rfl, ec 5, _, .type "ValueError", true, rfl, rfl, D.exc, rfl, ty_only, D.v, true, rfl, iteF ?_⟩
      refine ⟨_, rfl, l3, _, 0, _, rfl, rfl, SqL.of upd_same, rfl, false, congrArg V.bl (by decide +kernel), iteF ?_⟩
      refine ⟨by show 7 ≤ sizeLine; decide, fun l4 hl4 => ?_⟩
      refine ⟨_, rfl, .inl ⟨rfl, _, SqL.of ((upd_ne (none_upd hl4).1.symm).trans upd_same)⟩, l3, _, .bl true, 5, .bl true, rfl, rfl, SqL.of ((upd_ne (none_upd hl4).1.symm).trans upd_same), rfl, rfl, rfl, rfl, ?_, l4, _, _, _, rfl, rfl, SqL.of upd_same, rfl, ?_⟩
      · intro m z hm hz
        rcases (show m = 0 ∨ m = 1 ∨ m = 2 ∨ m = 3 ∨ m = 4 by omega) with rfl | rfl | rfl | rfl | rfl
        all_goals
          cases hz
          rfl
      · exact q _ (Same.new (Same.new (Same.new (Same.new (Same.refl _) hl1 _) hl2 _) hl3 _) hl4 _)
    · obtain rfl := Option.some.inj hx
      refine ⟨_, rfl, ec 6, _, .ref (ec 0), _, rfl, rfl, D.exc, rfl, ref_only, D.m 0 (by decide), _, rfl, ec 6, _, .ref (ec 1), _, rfl, rfl, D.exc, rfl, ref_only, D.m 1 (by decide), _, rfl, ec 6, _, .ref (ec 2), _, rfl, rfl, D.exc, rfl, ref_only, D.m 2 (by decide), _, rfl, ec 6, _, .ref (ec 3), _, rfl, rfl, D.exc, rfl, ref_only, D.m 3 (by decide), by show 4 ≤ sizeLine; decide, fun l1 hl1 => ?_⟩
      refine ⟨_, rfl, _, rfl, ec 6, _, .ref (ec 4), _, rfl, rfl, D.exc, rfl, ref_only, D.m 4 (by decide), _, rfl, ec 6, _, .ref (ec 5), _, rfl, rfl, D.exc, rfl, ref_only, D.m 5 (by decide), _, rfl, ec 6, _, .ref (ec 6), _, rfl, rfl, D.exc, rfl, ref_only, D.m 6 (by decide), by show 3 ≤ sizeLine; decide, fun l2 hl2 => ⟨l1, l2, _, _, rfl, rfl, (upd_ne (none_upd hl2).1.symm).trans upd_same, upd_same, by show 4 + 3 ≤ sizeLine; decide, fun l3 hl3 => ?_⟩⟩
      refine ⟨_, rfl, .inl ⟨rfl, _, SqL.of upd_same⟩, l3, _, .bl true, rfl, rfl, SqL.of upd_same, rfl, rfl, rfl, false, congrArg V.bl (by decide +kernel), iteF ?_⟩
      refine ⟨_, rfl, ec 6, _, .type "ValueError", true, rfl, rfl, D.exc, rfl, ty_only, D.v, true, rfl, iteF ?_⟩
      refine ⟨_, rfl, l3, _, 0, _, rfl, rfl, SqL.of upd_same, rfl, false, congrArg V.bl (by decide +kernel), iteF ?_⟩
      refine ⟨by show 7 ≤ sizeLine; decide, fun l4 hl4 => ?_⟩
      refine ⟨_, rfl, .inl ⟨rfl, _, SqL.of ((upd_ne (none_upd hl4).1.symm).trans upd_same)⟩, l3, _, .bl true, 6, .bl true, rfl, rfl, SqL.of ((upd_ne (none_upd hl4).1.symm).trans upd_same), rfl, rfl, rfl, rfl, ?_, l4, _, _, _, rfl, rfl, SqL.of upd_same, rfl, ?_⟩
      · intro m z hm hz
        rcases (show m = 0 ∨ m = 1 ∨ m = 2 ∨ m = 3 ∨ m = 4 ∨ m = 5 by omega) with rfl | rfl | rfl | rfl | rfl | rfl
        all_goals
          cases hz
          rfl
      · exact q _ (Same.new (Same.new (Same.new (Same.new (Same.refl _) hl1 _) hl2 _) hl3 _) hl4 _)
end
end Bd
end

section
namespace Bd
open PySem L2
section
variable {P : Program} {w : World} {K : PySem.W.Frag} {mg : Str → Option Value} {base : Heap}
/-- the rule for a def that lets nothing out, its code object known -/
theorem fun_okC {x qual : Str} {st : Stmt} {f c : Addr} {fd : FuncData} {N ps : List Str} {k : Nat} {sp : Sp} (F : Fun K x qual st f fd) (hc : fd.code = .ref c) (S : FnScope N ps (defScope st)) (len : ∀ vs H Q E, sp vs H Q E → vs.length = ps.length)
    (hbody : ∀ (A : Around) (outer : List Env) (s : Shared) (H : Hp) (vs : List V) (Q : VK) (E : XK), Room k (A.deeper (PyProof.Rows.envOfC qual (defScope st) s.heap.objs.size f (.ref c))) → sp vs H Q E →
      ∃ t, PSs (cxOf CX0 P w K mg base N qual (defScope st) f (.ref c) A outer s H E).nox (defBody st) t ∧ t { nx := fun _ H' => Q .non H', rt := Q } (start N vs) H) : FnOk P w K mg base CX0 (k + 1) f fd ps sp := by
  obtain ⟨oc, od, kV, doc, pm, an, cdv, ct, osl, rfl, lk, hcd⟩ := F.ex
  have e : cdv = .ref c := hc
  subst e
  exact fn_of lk hcd S len fun A outer s H vs Q E hr hsp => let ⟨t, h1, h2⟩ := hbody A outer s H vs Q E hr hsp; ⟨t, h1.nox, h2⟩
end
theorem hu64 {A : Around} {k : Nat} (hr : Room k A) : A.units + 64 < cLine := by
  have := hr.un
  omega
/-- _law_said(lambda: ..) -/
theorem pe_lamcall1 {X : Cx} {T : List (Addr × Str)} {CE : Addr} {ec : Nat → Addr} {g c Pa : Addr} {gd : FuncData} {k : Nat} {params : Arguments} {body : Expr} {scope : Scope} {t : XK → TE} {p lpos pos : Pos} (FS : Fun X.K "_law_said" "_law_said" sSaid g gd) (XSs : XS X.mg CE ec) (hm : X.mg "_law_said" = some (.ref g)) (hk : PySem.W.keepIn X.K (.ref g) = true)
    (bS : Binds X.K gd ["_law_ask"] []) (TB : LamX.TabB X.base X.mg c Pa) (hr : Room (k + 2) X.A)
    (hbody : ∀ (A : Around) (outer : List Env) (s : Shared) (H : Hp) (E : XK) (f c1 : Addr), Room k (A.deeper (LamX.lamEnv X scope s.heap.objs.size f c1)) → PE (LamX.lamCx X A outer s H E scope f c1) body (t E))
    (hg : Gl X "_law_said" := by rfl) (hcode : X.env.code = .ref c := by rfl) (hmT : (Pa, X.env.qual ++ "<lambda>") ∈ T := by exact List.mem_singleton.mpr rfl) (hu : ∀ p ∈ T, p.1 = Pa → p.2 = X.env.qual ++ "<lambda>" := by exact fun p hp _ => by rw [List.mem_singleton.mp hp]) (L : LamX.LamS X.env.scope scope := by exact LamX.lamS_by (by decide +kernel)) (hdef : PySem.defaultsOf params X.env = ([], []) := by rfl)
    (hbind : ∀ (q : Str) (cl : List (Str × Addr)) (pm cv ctv : Value), bindArgs (PySem.W.kla_fn "<lambda>" q params body scope cl pm cv ctv) ⟨[], []⟩ = pure [] := by exact fun _ _ _ _ _ => rfl) :
    PE X (.Call (.Name "_law_said" p) [.Lambda params body scope lpos] [] pos) (LamX.tLam T (TSaid X.K CE ec) t) := by
  obtain ⟨oc, od, kV, doc, pm, an, cdv, ct, osl, rfl, lk, hcd⟩ := FS.ex
  exact LamX.pe_lamcall (Ng := ["_law_ask", "e", "_law_marks"]) hg hm hk lk hcd bS scSaid rfl (Or.inl rfl) (said_gives XSs) TB hcode hmT hu hr L hdef hbind hbody
/-- all but s and the tables stay -/
def KN (s : Addr) (H H' : Hp) : Prop := ∀ b o, b ≠ s → H b = some o → (∀ ps, o ≠ .tbl ps) → H' b = some o
theorem KN.of {s : Addr} {H H' : Hp} (e : Kept s H H') : KN s H H' := fun b o n h _ => e b o n h
theorem KN.same {s : Addr} {H H' : Hp} (e : Same H H') : KN s H H' := fun b o n h _ => e b o h
theorem KN.ext {s : Addr} {H H' : Hp} (e : LamX.ExtN H H') : KN s H H' := fun b o _ h n => e b o h n
theorem KN.trans {s : Addr} {H H1 H2 : Hp} (a : KN s H H1) (b : KN s H1 H2) : KN s H H2 := fun c o n h z => b c o n (a c o n h z) z
theorem KN.tk {s : Addr} {H H' : Hp} (hs : Src H s) (e : KN s H H') : TK H H' := by
  obtain ⟨x, y, z, hs⟩ := hs
  exact ⟨fun b xs h => e b _ (ne_of h hs (by intro z; cases z)) h (fun ps z => by cases z), fun b o u h => e b _ (ne_of h hs (by intro z; cases z)) h (fun ps z => by cases z)⟩
theorem ext_tk {H H' : Hp} (e : LamX.ExtN H H') : TK H H' := ⟨fun b xs h => e b _ h (fun ps z => by cases z), fun b o u h => e b _ h (fun ps z => by cases z)⟩
theorem TreeAt.kn {K : PySem.W.Frag} {H H' : Hp} {s C p : Addr} {rows : List RowM} {h : Bool} {tk : List (Key × V)} (hs : Src H s) (k : KN s H H') (ok : RowsOk rows) (t : TreeAt K H C p rows h tk) : TreeAt K H' C p rows h tk := by
  obtain ⟨dx, po, pp, pk, pt, o1, o2, o3, o4, o5, ks, k1, k2, k3⟩ := t
  have tkk := KN.tk hs k
  obtain ⟨x, y, z, es⟩ := hs
  have nl : ∀ {b : Addr} {xs : List Str}, H b = some (.lst (xs.map V.str)) → b ≠ s := fun {b xs} e => ne_of e es (by
    intro z
    cases xs with
    | nil => cases z
    | cons a b => cases z)
  have o2' : H po = some (.lst ((nms rows).map V.str)) := by
    rw [o2]
    unfold nms
    rw [List.map_map]
    rfl
  refine ⟨dx, po, pp, pk, pt, k _ _ (ne_of o1 es (by intro z; cases z)) o1 (fun ps z => by cases z), k _ _ (nl o2') o2 (fun ps z => by cases z), k _ _ (ne_of o3 es (by intro z; cases z)) o3 (fun ps z => by cases z), k _ _ (ne_of o4 es (by intro z; cases z)) o4 (fun ps z => by cases z), paired_monoM (fun kv r hr z => ?_) o5, ks, k _ _ (ne_of k1 es (by intro z; cases z)) k1 (fun ps z => by cases z), k2, fun kv hkv => ?_⟩
  · obtain ⟨z1, d, z2, kvs, z3, z4⟩ := z
    exact ⟨z1, d, z2, kvs, k _ _ (ne_of z3 es (by intro z; cases z)) z3 (fun ps z => by cases z), paired_monoM (fun kv wd hw z => ⟨z.1, tkk.val (full_val (fun x hx => ((rows_due ok r hr).2 x hx).2) wd hw) z.2⟩) z4⟩
  · obtain ⟨l, e1, e2⟩ := k3 kv hkv
    exact ⟨l, e1, k _ _ (nl e2) e2 (fun ps z => by cases z)⟩
theorem TreeAt.ext {K : PySem.W.Frag} {H H' : Hp} {C p : Addr} {rows : List RowM} {h : Bool} {tk : List (Key × V)} (k : LamX.ExtN H H') (ok : RowsOk rows) (t : TreeAt K H C p rows h tk) : TreeAt K H' C p rows h tk := by
  obtain ⟨dx, po, pp, pk, pt, o1, o2, o3, o4, o5, ks, k1, k2, k3⟩ := t
  have tkk := ext_tk k
  refine ⟨dx, po, pp, pk, pt, k _ _ o1 (fun ps z => by cases z), k _ _ o2 (fun ps z => by cases z), k _ _ o3 (fun ps z => by cases z), k _ _ o4 (fun ps z => by cases z), paired_monoM (fun kv r hr z => ?_) o5, ks, k _ _ k1 (fun ps z => by cases z), k2, fun kv hkv => ?_⟩
  · obtain ⟨z1, d, z2, kvs, z3, z4⟩ := z
    exact ⟨z1, d, z2, kvs, k _ _ z3 (fun ps z => by cases z), paired_monoM (fun kv wd hw z => ⟨z.1, tkk.val (full_val (fun x hx => ((rows_due ok r hr).2 x hx).2) wd hw) z.2⟩) z4⟩
  · obtain ⟨l, e1, e2⟩ := k3 kv hkv
    exact ⟨l, e1, k _ _ e2 (fun ps z => by cases z)⟩
theorem ext_l {K : PySem.W.Frag} {H H' : Hp} {a : Addr} {xs : List V} (e : LamX.ExtN H H') (h : SqL K H a xs) : SqL K H' a xs := by
  rcases h with (h | ⟨o, h⟩) | h
  · exact .inl (.inl (e _ _ h (fun ps z => by cases z)))
  · exact .inl (.inr ⟨o, e _ _ h (fun ps z => by cases z)⟩)
  · exact .inr h
mutual
theorem dp_ext {K : PySem.W.Frag} {H H' : Hp} (e : LamX.ExtN H H') : ∀ (d : PyData) (v : V), Dp K H v d → Dp K H' v d
  | .none, _, h => by
    cases h
    exact .non
  | .bool b, _, h => by
    cases h
    exact .bl b
  | .int i, _, h => by
    cases h
    exact .int i
  | .str x, _, h => by
    cases h
    exact .str x
  | .list ds, _, h => by
    cases h with
    | lst h1 h2 => exact .lst (ext_l e h1) (dp_extAll e ds _ h2)
  | .tuple ds, _, h => by
    cases h with
    | tup h1 h2 => exact .tup ((ext_tk e).seqT h1) (dp_extAll e ds _ h2)
  | .dict _, _, h => nomatch h
theorem dp_extAll {K : PySem.W.Frag} {H H' : Hp} (e : LamX.ExtN H H') : ∀ (ds : List PyData) (vs : List V), DpAll K H vs ds → DpAll K H' vs ds
  | [], _, h => by
    cases h
    exact .nil
  | d :: ds, _, h => by
    cases h with
    | cons h1 h2 => exact .cons (dp_ext e d _ h1) (dp_extAll e ds _ h2)
end
theorem ty_ext {K : PySem.W.Frag} {H H' : Hp} (e : LamX.ExtN H H') {v : V} {t : Value} (h : TyX K H v t) : TyX K H' v t := by
  cases h with
  | base b =>
    cases b with
    | non => exact .base .non
    | bl x => exact .base (.bl x)
    | int x => exact .base (.int x)
    | str x => exact .base (.str x)
    | flt x => exact .base (.flt x)
    | lst h => exact .base (.lst (e _ _ h (fun ps z => by cases z)))
    | frz h => exact .base (.frz (e _ _ h (fun ps z => by cases z)))
    | tup h => exact .base (.tup (e _ _ h (fun ps z => by cases z)))
    | dK h => exact .base (.dK (e _ _ h (fun ps z => by cases z)))
    | dT h => exact .base (.dT (e _ _ h (fun ps z => by cases z)))
    | ins h c a n k m => exact .base (.ins (e _ _ h (fun ps z => by cases z)) c a n k m)
  | byt b => exact .byt b
  | set h => exact .set (e _ _ h (fun ps z => by cases z))
  | kList h c => exact .kList h c
  | kTuple h c => exact .kTuple h c
  | kDict h c => exact .kDict h c
  | fTuple h => exact .fTuple (e _ _ h (fun ps z => by cases z))
  | fDict h => exact .fDict (e _ _ h (fun ps z => by cases z))
theorem odd_ext {K : PySem.W.Frag} {H H' : Hp} (e : LamX.ExtN H H') {xs : List Str} {v : V} (h : OddN K H xs v) : OddN K H' xs v := by
  rcases h with ⟨t, h1, h2⟩ | h
  · exact .inl ⟨t, ty_ext e h1, h2⟩
  · exact .inr h
theorem odd_sub {K : PySem.W.Frag} {H : Hp} {xs ys : List Str} {v : V} (h : OddN K H ys v) (s : ∀ x ∈ xs, x ∈ ys) : OddN K H xs v := by
  rcases h with h | ⟨x, h1, h2⟩
  · exact .inl h
  · exact .inr ⟨x, h1, fun m => h2 (s x m)⟩
/-- a drawn thing that is no name, or the root's -/
def OddV (K : PySem.W.Frag) (H : Hp) (v : V) : Prop := v = .str "" ∨ (OddN K H (("" : Str) :: menu) v ∧ ∃ d, Dp K H v d ∧ SeqAt.shaped d = true ∧ PyData.eqv d (.str "") = false)
theorem src_ext {H H' : Hp} {s : Addr} (e : LamX.ExtN H H') (h : Src H s) : Src H' s := by
  obtain ⟨x, y, z, h⟩ := h
  exact ⟨x, y, z, e _ _ h (fun ps z => by cases z)⟩
theorem tabs_same {T : List (Addr × Str)} {H H' : Hp} (t : LamX.Tabs T H) (e : Same H H') : LamX.Tabs T H' := t.ext e
theorem tabs_kept {T : List (Addr × Str)} {H H' : Hp} {s : Addr} (hs : Src H s) (t : LamX.Tabs T H) (e : Kept s H H') : LamX.Tabs T H' := by
  obtain ⟨x, y, z, hs⟩ := hs
  intro p hp
  obtain ⟨ps, h1, h2, h3⟩ := t p hp
  refine ⟨ps, e _ _ (ne_of h1 hs (by intro z; cases z)) h1, h2, fun pos cv hc => ?_⟩
  obtain ⟨c, g1, g2⟩ := h3 pos cv hc
  exact ⟨c, g1, e _ _ (ne_of g2 hs (by intro z; unfold LamX.CodeO at z; cases z)) g2⟩
theorem name_ok {rows : List RowM} (ok : RowsOk rows) {x : Str} (h : x ∈ nms rows) : NameOk x := by
  obtain ⟨r, hr, rfl⟩ := List.mem_map.mp h
  obtain ⟨i, hi⟩ := List.mem_iff_getElem?.mp hr
  exact (ok i r hi).1
theorem cps_app (x y : Str) : (x ++ y).cps.toList = x.cps.toList ++ y.cps.toList := by
  show (x.cps ++ y.cps).toList = _
  simp
theorem sp_not (x : Str) : x ++ " " ∉ ("" : Str) :: menu := by
  intro m
  have h32 : (32 : Nat) ∈ (x ++ " ").cps.toList := by
    rw [cps_app]
    exact List.mem_append_right _ (by decide +kernel)
  rcases List.mem_cons.mp m with e | m
  · rw [e] at h32
    exact absurd h32 (by decide +kernel)
  · have := (menu_ok _ m).2.2 32 h32
    omega
theorem shaped_tup1 {x : Str} (h : PyData.canLay0 (.str x) = true) : SeqAt.shaped (.tuple [.str x]) = true := by
  have h1 := lay_strs [x] (by intro y hy; rw [List.mem_singleton.mp hy]; exact h)
  have h2 := dep_strs [x]
  rw [List.map_singleton] at h1 h2
  unfold SeqAt.shaped
  rw [PyData.canLay0, h1, PyData.depth, h2]
  rfl
theorem shaped_sp {x : Str} (h : NameOk x) : SeqAt.shaped (.str (x ++ " ")) = true := by
  refine shaped_name ?_
  have e : PyData.canLay0 (.str (x ++ " ")) = (x ++ " ").cps.all (· < 0x110000) := by
    rw [PyData.canLay0]
    rfl
  rw [e, Array.all_eq_true']
  intro c hc
  have hm : c ∈ (x ++ " ").cps.toList := Array.mem_toList_iff.mpr hc
  rw [cps_app] at hm
  rcases List.mem_append.mp hm with m | m
  · have := (h.2.2 c m).2
    exact decide_eq_true (by omega)
  · have : c = 32 := by
      have e : (" " : Str).cps.toList = [32] := by decide +kernel
      rw [e] at m
      exact List.mem_singleton.mp m
    rw [this]
    decide
end Bd
end

section
namespace Bd
open PySem L2 PySem.Spec PyProof.Rows
section
variable {prog : Program} {w : World} {K : Type} [DecidableEq K] {knd : KeyKind prog w K} {A : Around} {E : Value → Shared → Prop} {s : Shared}
/-- {**a, k: v}: the pair stands in a dict of its own, which is merged -/
theorem display_kv {v1 vk vv : Sem Value} {Q : Value → Shared → Prop} (hstr : ∀ e : DictEntry, (∃ k, knd.is k e.key = true) → ∀ a, e.key ≠ .ref a)
    (h : wpAny (model prog w) A v1 (MergeAt knd s.heap.objs.size fun s1 => wpAny (model prog w) A (evalPairs [(vk, vv)]) (fun vs s2 => ∃ kvs, Carries knd vs kvs ∧ s2.heap.DictOf knd s1.heap.objs.size [] ∧
      ∀ h', h'.DictOf knd s1.heap.objs.size (merged [] kvs) → Heap.SameBut s1.heap.objs.size s2.heap h' → MergeAt knd s.heap.objs.size (fun s3 => Q (.ref s.heap.objs.size) s3) (.ref s1.heap.objs.size) { s2 with heap := h', toks := s2.toks + vs.length }) E
        { s1 with heap := s1.heap.push { cls := .type "dict", data := .dict #[] } }) E { s with heap := s.heap.push { cls := .type "dict", data := .dict #[] } }) :
    wpAny (model prog w) A (dictDisplay [(none, v1), (some vk, vv)]) Q E s := by
  unfold dictDisplay
  simp only [List.forIn_cons, List.forIn_nil, List.isEmpty_nil, if_true, pure_bind, bind_assoc, List.nil_append, List.length_singleton, List.isEmpty_cons]
  refine wpAny_bind (wpAny_alloc ?_)
  refine wpAny_bind (wpAny_holding (wpAny_mono h (fun u s1 h1 => ?_) fun _ _ e => e))
  obtain ⟨o, acc, more, rfl, ne, lo, da, db, hz, q⟩ := h1
  refine wpAny_bind (wpAny_onRaise (wpAny_tryCatch (wpAny_onRaise (wpAny_holding (merge_dict ne lo da db hstr hz fun g dg sg => ?_)))))
  simp only [show ((1 : Nat) == 17) = false from rfl, Bool.false_eq_true, if_false, bind_assoc, pure_bind]
  refine wpAny_bind ?_
  rw [if_neg (by intro z; cases z)]
  refine wpAny_bind (wpAny_holding (wpAny_subDict (knd := knd) (by exact Nat.succ_le_succ (Nat.zero_le _)) (wpAny_mono (q g dg sg) (fun vs s2 h2 => ?_) fun _ _ e => e)))
  obtain ⟨kvs, hc, hd, hq⟩ := h2
  refine ⟨kvs, hc, hd, fun h' d' sm => ?_⟩
  obtain ⟨o2, acc2, more2, e2, ne2, lo2, da2, db2, hz2, q2⟩ := hq h' d' sm
  cases e2
  refine wpAny_bind (wpAny_onRaise (wpAny_holding (merge_dict ne2 lo2 da2 db2 hstr hz2 fun g2 dg2 sg2 => ?_)))
  exact wpAny_pure (wpAny_pure (q2 g2 dg2 sg2))
end
/-- {**a, k: v} of a dict with keys ints and texts -/
def tStar (ta tk tv : TE) : TE := fun σ H Q => ∀ p, H p = none → ta σ (upd H p (.dK [])) fun x H1 => ∃ a ka, x = .ref a ∧ H1 p = some (.dK []) ∧ H1 a = some (.dK ka) ∧ p ≠ a ∧
  ∀ q, upd H1 p (.dK (mergeK [] ka)) q = none → tk σ (upd (upd H1 p (.dK (mergeK [] ka))) q (.dK [])) fun x2 H2 => tv σ H2 fun y H3 => ∃ key, x2 = kV key ∧ H3 q = some (.dK []) ∧ H3 p = some (.dK (mergeK [] ka)) ∧ p ≠ q ∧ ka.length ≤ 900 ∧
    Q (.ref p) (upd (upd H3 q (.dK [(key, y)])) p (.dK (putK (mergeK [] ka) key y)))
theorem pe_star {X : Cx} {pos : Pos} {e1 ek ev : Expr} {ta tk tv : TE} (ha : PE X e1 ta) (hk : PE X ek tk) (hv : PE X ev tv) : PE X (.Dict [none, some ek] [e1, ev] pos) (tStar ta tk tv) := by
  refine ⟨fun pins s σ H Q I q => ?_⟩
  have hn := I.hok.fresh (Nat.le_refl s.heap.objs.size)
  rw [arm_eval_Dict]
  refine wpAny_bind (wpAny_standAt ?_)
  show wpAny _ _ (dictDisplay [(none, do let x ← eval e1 X.env; standAt pos; pure x), (some (eval ek X.env), do let x ← eval ev X.env; standAt pos; pure x)]) _ _ _
  refine display_kv (knd := mixKind X.prog X.w) (fun e h => mix_noref e h) ?_
  have I1 := I.laid (a := s.heap.objs.size) (o := .dK []) (h' := s.heap.push { cls := .type "dict", data := .dict #[] }) (t' := s.toks) (fun _ _ q => Heap.get?_push_of_some _ q) (Nat.le_refl _) (dk_empty s.heap I.big)
  refine wpAny_bind (thn (ha.run pins _ σ _ _ I1 (q _ hn)) fun u s1 ⟨x, H1, I2, rx, a, ka, ex, hp, hka, ne, q1⟩ => ?_)
  subst ex
  obtain rfl : u = Value.ref a := rx
  refine wpAny_bind (wpAny_standAt (wpAny_pure ?_))
  obtain ⟨z1, lo1, vs1, r1, d1⟩ := dk_of I2.hok hka
  obtain ⟨z0, lo0, vs0, r0, d0⟩ := dk_of I2.hok hp
  cases r0
  have hz1 : (mergeK [] ka).length ≤ sizeLine := by
    have := length_mergeK ka []
    rw [List.length_nil] at this
    omega
  refine ⟨a, [], vs1, rfl, ne, lo1, d0, d1, by rw [List.length_nil, Nat.zero_add, ← r1.length]; exact z1, fun g dg sg => ?_⟩
  have he : ∃ q, g.get? s.heap.objs.size = some q := let ⟨q, _, _, hq, _⟩ := dg; ⟨q, hq⟩
  have I3 := d_write (t' := s1.toks) I2 (by rw [hp]; exact True.intro) sg he (dk_new (H' := upd H1 s.heap.objs.size (.dK (mergeK [] ka))) hz1 lo0 (r1.merge .nil) dg)
  have hn3 := I3.hok.fresh (Nat.le_refl g.objs.size)
  have I4 := I3.laid (a := g.objs.size) (o := .dK []) (h' := g.push { cls := .type "dict", data := .dict #[] }) (t' := s1.toks) (fun _ _ q => Heap.get?_push_of_some _ q) (Nat.le_refl _) (dk_empty g I3.big)
  have q2 := q1 _ hn3
  have hps := (pps_cons (pos := pos) hk hv pps_nil).run pins _ σ _ (fun ps H3 => match ps with
    | [(x2, y)] => ∃ key, x2 = kV key ∧ H3 g.objs.size = some (.dK []) ∧ H3 s.heap.objs.size = some (.dK (mergeK [] ka)) ∧ s.heap.objs.size ≠ g.objs.size ∧ ka.length ≤ 900 ∧
      Q (.ref s.heap.objs.size) (upd (upd H3 g.objs.size (.dK [(key, y)])) s.heap.objs.size (.dK (putK (mergeK [] ka) key y)))
    | _ => False) I4 q2
  refine thn hps fun ws s3 ⟨ps, H3, I5, rel, hh⟩ => ?_
  rcases ps with _ | ⟨⟨x2, y⟩, _ | ⟨z, zs⟩⟩
  · exact False.elim hh
  · obtain ⟨key, ek2, hq3, hp3, npq, hk9, qq⟩ := hh
    subst ek2
    rcases ws with _ | ⟨⟨b1, b2⟩, wt⟩
    · cases rel
    · obtain ⟨rr, rt⟩ : (RelV (kV key) b1 ∧ RelV y b2) ∧ wt = [] := by
        cases rel with
        | cons p q =>
          cases q
          exact ⟨p, rfl⟩
      subst rt
      obtain ⟨zq, loq, vq, rq, dq⟩ := dk_of I5.hok hq3
      cases rq
      refine ⟨[(key, b2)], ⟨kV_is rr.1, rfl, True.intro⟩, dq, fun h' dg2 sg2 => ?_⟩
      have he2 : ∃ z, h'.get? g.objs.size = some z := let ⟨z, _, _, hz, _⟩ := dg2; ⟨z, hz⟩
      have kv1 : KV [(key, y)] (merged [] [(key, b2)]) := .cons ⟨rfl, rr.2⟩ .nil
      have I6 := d_write (t' := s3.toks + 1) I5 (by rw [hq3]; exact True.intro) sg2 he2 (dk_new (H' := upd H3 g.objs.size (.dK [(key, y)])) (by show 1 ≤ sizeLine; decide) loq kv1 dg2)
      have hp4 : upd H3 g.objs.size (.dK [(key, y)]) s.heap.objs.size = some (.dK (mergeK [] ka)) := (upd_ne npq).trans hp3
      obtain ⟨zp, lop, vp, rp, dp⟩ := dk_of I6.hok hp4
      obtain ⟨zs, los, vs2, rs, ds⟩ := dk_of I6.hok (show upd H3 g.objs.size (.dK [(key, y)]) g.objs.size = some (.dK [(key, y)]) from upd_same)
      have hm : (mergeK [] ka).length ≤ ka.length := by
        have := length_mergeK ka []
        rw [List.length_nil] at this
        omega
      have hz2 : (putK (mergeK [] ka) key y).length ≤ sizeLine := by
        have := length_putK (mergeK [] ka) key y
        exact small (by omega)
      refine ⟨g.objs.size, vp, vs2, rfl, npq, los, dp, ds, small (by rw [← rp.length, ← rs.length]; show (mergeK [] ka).length + 1 ≤ 1000; omega), fun g3 dg3 sg3 => ?_⟩
      have he3 : ∃ z, g3.get? s.heap.objs.size = some z := let ⟨z, _, _, hz, _⟩ := dg3; ⟨z, hz⟩
      exact ⟨.ref s.heap.objs.size, _, d_write (t' := s3.toks + 1) I6 (by rw [hp4]; exact True.intro) sg3 he3 (dk_new (H' := upd (upd H3 g.objs.size (.dK [(key, y)])) s.heap.objs.size (.dK (putK (mergeK [] ka) key y))) hz2 lop (show KV (mergeK (mergeK [] ka) [(key, y)]) _ from rs.merge rp) dg3), rfl, qq⟩
  · exact False.elim hh
end Bd
end

section
namespace Bd
open PySem L2
/-! ### what is none -/
inductive NoInt (K : PySem.W.Frag) (H : Hp) : V → Prop
  | bl (b : Bool) : NoInt K H (.bl b)
  | ty {v : V} {t : String} : TyX K H v (.type t) → kitB t "int" = some false → NoInt K H v
inductive NoAmt (K : PySem.W.Frag) (H : Hp) : V → Prop
  | ty {v : V} {t : String} : TyX K H v (.type t) → kitB t "tuple" = some false → NoAmt K H v
  | len {a : Addr} {xs : List V} : SqT K H a xs → xs.length ≠ 2 → NoAmt K H (.ref a)
  | top {a : Addr} {x y : V} : SqT K H a [x, y] → NoInt K H x → NoAmt K H (.ref a)
  | bot {a : Addr} {i : Int} {y : V} : SqT K H a [.int i, y] → NoInt K H y → NoAmt K H (.ref a)
  | neg {a : Addr} {i j : Int} : SqT K H a [.int i, .int j] → i < 0 ∨ j < 1 → NoAmt K H (.ref a)
  | gcd {a : Addr} {n m : Nat} : SqT K H a [.int n, .int m] → n < 2 ^ 3000 → 0 < m → m < 2 ^ 3000 → Nat.gcd n m ≠ 1 → NoAmt K H (.ref a)
def BadRise (K : PySem.W.Frag) (H : Hp) : Int → List V → Prop
  | _, [] => False
  | p, x :: r => NoInt K H x ∨ (∃ z, x = .int z ∧ ¬ (p < z ∧ z ≤ 63)) ∨ ∃ z, x = .int z ∧ p < z ∧ z ≤ 63 ∧ BadRise K H z r
inductive NoSetV (K : PySem.W.Frag) (H : Hp) : V → Prop
  | ty {v : V} {t : String} : TyX K H v (.type t) → kitB t "tuple" = some false → NoSetV K H v
  | bad {a : Addr} {xs : List V} : SqT K H a xs → BadRise K H (-1) xs → NoSetV K H (.ref a)
def NoEnd (K : PySem.W.Frag) (H : Hp) (v : V) : Prop := (∃ t : String, TyX K H v (.type t) ∧ kitB t "str" = some false) ∨ ∃ x : Str, v = .str x ∧ x ≠ "endless"
/-- a value that the word may not have -/
inductive BadV (K : PySem.W.Frag) (H : Hp) : Str → V → Prop
  | amt {x : Str} {v : V} : x ∈ (["min", "low", "burst"] : List Str) → NoAmt K H v → BadV K H x v
  | lim {x : Str} {v : V} : x ∈ (["max", "quota", "tops"] : List Str) → NoEnd K H v → NoAmt K H v → BadV K H x v
  | set {v : V} : v ≠ .non → NoSetV K H v → BadV K H "sets" v
  | alone {v : V} : NoInt K H v → BadV K H "alone" v
  | aloneI {i : Int} : i ≠ 0 → i ≠ 1 → BadV K H "alone" (.int i)
def spIntU (K : PySem.W.Frag) : Sp := fun vs H Q _ => ∃ v : V, vs = [v] ∧ ((∃ i, v = .int i ∧ Q (.bl true) H) ∨ (NoInt K H v ∧ Q (.bl false) H))
def spNoAmt (K : PySem.W.Frag) : Sp := fun vs H Q _ => ∃ v : V, vs = [v] ∧ NoAmt K H v ∧ Q (.bl false) H
def spNoSet (K : PySem.W.Frag) : Sp := fun vs H Q _ => ∃ v : V, vs = [v] ∧ NoSetV K H v ∧ Q (.bl false) H
def spNoEnd (K : PySem.W.Frag) : Sp := fun vs H Q _ => ∃ v : V, vs = [v] ∧ NoEnd K H v ∧ Q (.bl false) H
def spBadV (K : PySem.W.Frag) : Sp := fun vs H Q _ => ∃ (x : Str) (v : V), vs = [.str x, v] ∧ BadV K H x v ∧ ∀ H', Same H H' → Q (.bl false) H'
theorem ty_same {K : PySem.W.Frag} {H H' : Hp} (e : Same H H') {v : V} {t : Value} (h : TyX K H v t) : TyX K H' v t := ty_ext (LamX.ExtN.of e) h
theorem noInt_same {K : PySem.W.Frag} {H H' : Hp} (e : Same H H') {v : V} (h : NoInt K H v) : NoInt K H' v := by
  cases h with
  | bl b => exact .bl b
  | ty h k => exact .ty (ty_same e h) k
theorem noAmt_same {K : PySem.W.Frag} {H H' : Hp} (e : Same H H') {v : V} (h : NoAmt K H v) : NoAmt K H' v := by
  cases h with
  | ty h k => exact .ty (ty_same e h) k
  | len h k => exact .len (Same.seqT e h) k
  | top h k => exact .top (Same.seqT e h) (noInt_same e k)
  | bot h k => exact .bot (Same.seqT e h) (noInt_same e k)
  | neg h k => exact .neg (Same.seqT e h) k
  | gcd h a b c d => exact .gcd (Same.seqT e h) a b c d
theorem rise_same {K : PySem.W.Frag} {H H' : Hp} (e : Same H H') : ∀ {xs : List V} {p : Int}, BadRise K H p xs → BadRise K H' p xs
  | [], _, h => h
  | x :: r, p, h => by
    rcases h with h | h | ⟨z, h1, h2, h3, h4⟩
    · exact .inl (noInt_same e h)
    · exact .inr (.inl h)
    · exact .inr (.inr ⟨z, h1, h2, h3, rise_same e h4⟩)
theorem noSet_same {K : PySem.W.Frag} {H H' : Hp} (e : Same H H') {v : V} (h : NoSetV K H v) : NoSetV K H' v := by
  cases h with
  | ty h k => exact .ty (ty_same e h) k
  | bad h k => exact .bad (Same.seqT e h) (rise_same e k)
theorem noEnd_same {K : PySem.W.Frag} {H H' : Hp} (e : Same H H') {v : V} (h : NoEnd K H v) : NoEnd K H' v := by
  rcases h with ⟨t, h, k⟩ | h
  · exact .inl ⟨t, ty_same e h, k⟩
  · exact .inr h
theorem badV_same {K : PySem.W.Frag} {H H' : Hp} (e : Same H H') {x : Str} {v : V} (h : BadV K H x v) : BadV K H' x v := by
  cases h with
  | amt m h => exact .amt m (noAmt_same e h)
  | lim m h k => exact .lim m (noEnd_same e h) (noAmt_same e k)
  | set n h => exact .set n (noSet_same e h)
  | alone h => exact .alone (noInt_same e h)
  | aloneI a b => exact .aloneI a b
section
variable {P : Program} {w : World} {K : PySem.W.Frag} {mg : Str → Option Value} {base : Heap} {aL : Addr} {left : List (Key × V)}
/-- two promises of one def -/
theorem fn_or {CX : CXT} {k : Nat} {f : Addr} {fd : FuncData} {ps : List Str} {sp1 sp2 : Sp} (F1 : FnOk P w K mg base CX k f fd ps sp1) (F2 : FnOk P w K mg base CX k f fd ps sp2) : FnOk P w K mg base CX k f fd ps (fun vs H Q E => sp1 vs H Q E ∨ sp2 vs H Q E) := by
  refine ⟨fun vs H Q E h => h.elim (F1.len vs H Q E) (F2.len vs H Q E), fun A outer s H pa vs us Q E hr e0 hb hv h => ?_⟩
  rcases h with h | h
  · exact F1.run A outer s H pa vs us Q E hr e0 hb hv h
  · exact F2.run A outer s H pa vs us Q E hr e0 hb hv h
theorem ok_intU {f : Addr} {fd : FuncData} (F : Fun K "is_integer" "is_integer" sIsInteger f fd) (T : TP P w K mg aL left) : FnOk P w K mg base CX0 1 f fd ["thing"] (spIntU K) := by
  refine F.ok scIsInteger (fun vs H Q E h => ?_) (fun cdv A outer s H vs Q E hr h => ?_)
  · obtain ⟨i, rfl, _⟩ := h
    rfl
  obtain ⟨v, rfl, h⟩ := h
  refine ⟨_, (pss_one (ps_ret (pe_and (pe_callB call_isi (by rfl) T.z_isinstance (by decide +kernel) (pa_cons (pv 0) (pa_cons (pe_bltn (v := .ty "int") (u := .type "int") (by rfl) T.z_int (by decide +kernel) rfl) pa_nil))) (pe_one (pe_not (pe_callB call_isi (by rfl) T.z_isinstance (by decide +kernel) (pa_cons (pv 0) (pa_cons (pe_bltn (v := .ty "bool") (u := .type "bool") (by rfl) T.z_bool (by decide +kernel) rfl) pa_nil)))))))), ?_⟩
  rcases h with ⟨i, rfl, q⟩ | ⟨h, q⟩
  · refine ⟨_, rfl, _, _, _, _, true, rfl, .ty _, .base (.int i), kit_ty (by decide +kernel), true, rfl, ?_⟩
    refine ⟨_, rfl, _, _, _, _, false, rfl, .ty _, .base (.int i), kit_ty (by decide +kernel), false, rfl, ?_⟩
    exact q
  · cases h with
    | bl b =>
      refine ⟨_, rfl, _, _, _, _, true, rfl, .ty _, .base (.bl b), kit_ty (by decide +kernel), true, rfl, ?_⟩
      refine ⟨_, rfl, _, _, _, _, true, rfl, .ty _, .base (.bl b), kit_ty (by decide +kernel), true, rfl, ?_⟩
      exact q
    | ty ty kt => exact ⟨_, rfl, _, _, _, _, false, rfl, .ty _, ty, kit_ty kt, false, rfl, iteF q⟩
theorem ok_noAmt {f g e : Addr} {fd gd ed : FuncData} (F : Fun K "is_amount" "is_amount" sIsAmount f fd) (T : TP P w K mg aL left) (cI : Cal P w K mg base "is_integer" ["thing"] 1 (spIntU K) g gd) (cD : Cal P w K mg base "divisor" ["one", "other"] 1 spDivisor e ed) : FnOk P w K mg base CX0 2 f fd ["thing"] (spNoAmt K) := by
  refine F.ok scIsAmount (fun vs H Q E h => ?_) (fun cdv A outer s H vs Q E hr h => ?_)
  · obtain ⟨i, rfl, _⟩ := h
    rfl
  obtain ⟨v, rfl, h, q⟩ := h
  refine ⟨_, (pss_cons (ps_if (PW.pt (pw_or (pt_not (pt_val (pe_callB call_isi (by rfl) T.z_isinstance (by decide +kernel) (pa_cons (pv 0) (pa_cons (pe_bltn (v := .ty "tuple") (u := .type "tuple") (by rfl) T.z_tuple (by decide +kernel) rfl) pa_nil))))) (pw_or1 (pt_cmpR op_ne (pe_callB call_len_seq (by rfl) T.z_len PySem.boot_len (pa_cons (pv 0) pa_nil)) pe_int (nomark _))))) (pss_one (ps_ret pe_bl)) pss_nil) (pss_cons (ps_asg (pv 0) (pg_tup (by rfl) (pgs_cons (pg_name (i := 1) scIsAmount.nd rfl (Or.inl rfl)) (pgs_cons (pg_name (i := 2) scIsAmount.nd rfl (Or.inl rfl)) pgs_nil)))) (pss_cons (ps_if (PW.pt (pw_or (pt_not (pt_val (pe_call cI.ok (hr.mono (by decide)) rfl cI.mg cI.kp cI.bd .nil pass0 (pa_cons (pv 1) pa_nil)))) (pw_or1 (pt_not (pt_val (pe_call cI.ok (hr.mono (by decide)) rfl cI.mg cI.kp cI.bd .nil pass0 (pa_cons (pv 2) pa_nil))))))) (pss_one (ps_ret pe_bl)) pss_nil) (pss_one (ps_ret (pe_and (pe_cmpR op_ge (pv 1) pe_int (nomark _)) (pe_and (pe_cmpR op_ge (pv 2) pe_int (nomark _)) (pe_one (pe_cmpR op_eq (pe_call cD.ok (hr.mono (by decide)) rfl cD.mg cD.kp cD.bd .nil pass0 (pa_cons (pv 1) (pa_cons (pv 2) pa_nil))) pe_int (nomark _)))))))))), ?_⟩
  have two : ∀ {a : Addr} {xs : List V}, SqT K H a xs → TyX K H (.ref a) (.type "tuple") := fun h => sqt_ty h
  cases h with
  | ty ty kt => exact ⟨_, rfl, _, _, _, _, false, rfl, .ty _, ty, kit_ty kt, false, rfl, iteT q⟩
  | @len a xs ha hl =>
    refine ⟨_, rfl, _, _, _, _, true, rfl, .ty _, sqt_ty ha, kit_ty (by decide +kernel), true, rfl, iteF ?_⟩
    refine ⟨_, rfl, a, _, rfl, .inr ha, rfl, _, rfl, ?_⟩
    have e : (!decide (V.int ((xs.length : Nat) : Int) = V.int 2)) = true := by
      rw [decide_eq_false fun z => hl (by have := V.int.inj z; omega)]
      rfl
    exact ifT e q
  | @top a x y ha hn =>
    refine ⟨_, rfl, _, _, _, _, true, rfl, .ty _, sqt_ty ha, kit_ty (by decide +kernel), true, rfl, iteF ?_⟩
    refine ⟨_, rfl, a, _, rfl, .inr ha, rfl, _, rfl, ?_⟩
    refine iteNS rfl ?_
    refine ⟨_, rfl, a, _, rfl, ha, rfl, ?_⟩
    refine ⟨_, _, rfl, _, _, rfl, rfl, ?_⟩
    exact ⟨_, rfl, _, rfl, .inr ⟨hn, false, rfl, iteT q⟩⟩
  | @bot a i y ha hn =>
    refine ⟨_, rfl, _, _, _, _, true, rfl, .ty _, sqt_ty ha, kit_ty (by decide +kernel), true, rfl, iteF ?_⟩
    refine ⟨_, rfl, a, _, rfl, .inr ha, rfl, _, rfl, ?_⟩
    refine iteNS rfl ?_
    refine ⟨_, rfl, a, _, rfl, ha, rfl, ?_⟩
    refine ⟨_, _, rfl, _, _, rfl, rfl, ?_⟩
    refine ⟨_, rfl, _, rfl, .inl ⟨i, rfl, true, rfl, iteF ?_⟩⟩
    exact ⟨_, rfl, _, rfl, .inr ⟨hn, false, rfl, iteT q⟩⟩
  | @neg a i j ha hn =>
    refine ⟨_, rfl, _, _, _, _, true, rfl, .ty _, sqt_ty ha, kit_ty (by decide +kernel), true, rfl, iteF ?_⟩
    refine ⟨_, rfl, a, _, rfl, .inr ha, rfl, _, rfl, ?_⟩
    refine iteNS rfl ?_
    refine ⟨_, rfl, a, _, rfl, ha, rfl, ?_⟩
    refine ⟨_, _, rfl, _, _, rfl, rfl, ?_⟩
    refine ⟨_, rfl, _, rfl, .inl ⟨i, rfl, true, rfl, iteF ?_⟩⟩
    refine ⟨_, rfl, _, rfl, .inl ⟨j, rfl, true, rfl, iteF ?_⟩⟩
    by_cases c : i < 0
    · exact ⟨_, rfl, _, _, rfl, rfl, false, congrArg V.bl (decide_eq_false (by omega)), iteF q⟩
    · refine ⟨_, rfl, _, _, rfl, rfl, true, bl_t (by omega), iteT ?_⟩
      exact ⟨_, rfl, _, _, rfl, rfl, false, congrArg V.bl (decide_eq_false (by omega)), iteF q⟩
  | @gcd a n m ha h1 h2 h3 h4 =>
    refine ⟨_, rfl, _, _, _, _, true, rfl, .ty _, sqt_ty ha, kit_ty (by decide +kernel), true, rfl, iteF ?_⟩
    refine ⟨_, rfl, a, _, rfl, .inr ha, rfl, _, rfl, ?_⟩
    refine iteNS rfl ?_
    refine ⟨_, rfl, a, _, rfl, ha, rfl, ?_⟩
    refine ⟨_, _, rfl, _, _, rfl, rfl, ?_⟩
    refine ⟨_, rfl, _, rfl, .inl ⟨_, rfl, true, rfl, iteF ?_⟩⟩
    refine ⟨_, rfl, _, rfl, .inl ⟨_, rfl, true, rfl, iteF ?_⟩⟩
    refine ⟨_, rfl, _, _, rfl, rfl, true, bl_t (by omega), iteT ?_⟩
    refine ⟨_, rfl, _, _, rfl, rfl, true, bl_t (by omega), iteT ?_⟩
    refine ⟨_, rfl, _, rfl, n, m, rfl, h1, h3, rfl, ?_⟩
    have e : decide (V.int ((Nat.gcd n m : Nat) : Int) = V.int 1) = false := decide_eq_false fun z => h4 (by have := V.int.inj z; omega)
    show Q (.bl (decide (V.int ((Nat.gcd n m : Nat) : Int) = V.int 1))) H
    rw [e]
    exact q
theorem ok_noEnd {f : Addr} {fd : FuncData} (F : Fun K "is_endless" "is_endless" sIsEndless f fd) (T : TP P w K mg aL left) : FnOk P w K mg base CX0 1 f fd ["thing"] (spNoEnd K) := by
  refine F.ok scIsEndless (fun vs H Q E h => ?_) (fun cdv A outer s H vs Q E hr h => ?_)
  · obtain ⟨v, rfl, _⟩ := h
    rfl
  obtain ⟨v, rfl, h, q⟩ := h
  obtain ⟨tl, hL⟩ := T.g_ENDLESS
  refine ⟨_, (pss_one (ps_ret (pe_and (pe_callB call_isi (by rfl) T.z_isinstance (by decide +kernel) (pa_cons (pv 0) (pa_cons (pe_bltn (v := .ty "str") (u := .type "str") (by rfl) T.z_str (by decide +kernel) rfl) pa_nil))) (pe_one (pe_cmpR op_eq (pv 0) (pe_glob (v := .str "endless") rfl hL ⟨_, rfl⟩) (nomark _)))))), ?_⟩
  rcases h with ⟨t, ty, kt⟩ | ⟨x, rfl, hx⟩
  · exact ⟨_, rfl, _, _, _, _, false, rfl, .ty _, ty, kit_ty kt, false, rfl, iteF q⟩
  · refine ⟨_, rfl, _, _, _, _, true, rfl, .ty _, .base (.str _), kit_ty (by decide +kernel), true, rfl, ?_⟩
    refine ⟨_, rfl, rfl, ?_⟩
    show Q (.bl (decide (V.str x = V.str "endless"))) H
    rw [decide_eq_false fun z => hx (V.str.inj z)]
    exact q
theorem ok_noSet {f g : Addr} {fd gd : FuncData} (F : Fun K "is_set" "is_set" sIsSet f fd) (T : TP P w K mg aL left) (cI : Cal P w K mg base "is_integer" ["thing"] 1 (spIntU K) g gd) : FnOk P w K mg base CX0 2 f fd ["thing"] (spNoSet K) := by
  refine F.ok scIsSet (fun vs H Q E h => ?_) (fun cdv A outer s H vs Q E hr h => ?_)
  · obtain ⟨v, rfl, _⟩ := h
    rfl
  obtain ⟨v, rfl, h, q⟩ := h
  obtain ⟨tl, hL⟩ := T.g_GREATEST_PROCESSOR
  refine ⟨_, (pss_cons (ps_if (pt_not (pt_val (pe_callB call_isi (by rfl) T.z_isinstance (by decide +kernel) (pa_cons (pv 0) (pa_cons (pe_bltn (v := .ty "tuple") (u := .type "tuple") (by rfl) T.z_tuple (by decide +kernel) rfl) pa_nil))))) (pss_one (ps_ret pe_bl)) pss_nil) (pss_cons (ps_set (i := 1) scIsSet.nd rfl (Or.inl rfl) (pe_un un_neg pe_int)) (pss_cons (ps_for PassesOwn.never rfl (pi_tup (pv 0)) (pg_name (i := 2) scIsSet.nd rfl (Or.inl rfl)) (pss_cons (ps_if (PW.pt (pw_or (pt_not (pt_val (pe_call cI.ok (hr.mono (by decide)) rfl cI.mg cI.kp cI.bd .nil pass0 (pa_cons (pv 2) pa_nil)))) (pw_or1 (pt_not (pt_chain op_lt op_le (pv 1) (pv 2) (pe_glob (v := .int 63) rfl hL ⟨_, rfl⟩)))))) (pss_one (ps_ret pe_bl)) pss_nil) (pss_one (ps_set (i := 1) scIsSet.nd rfl (Or.inl rfl) (pv 2))))) (pss_one (ps_ret pe_bl))))), ?_⟩
  cases h with
  | ty ty kt => exact ⟨_, rfl, _, _, _, _, false, rfl, .ty _, ty, kit_ty kt, false, rfl, iteT q⟩
  | @bad a xs ha hb =>
    refine ⟨_, rfl, _, _, _, _, true, rfl, .ty _, sqt_ty ha, kit_ty (by decide +kernel), true, rfl, ?_⟩
    refine iteF ?_
    refine ⟨_, rfl, ?_⟩
    refine ⟨_, rfl, a, rfl, ⟨_, ha⟩, for_tup (xs := xs) (fun i σ H' => H' = H ∧ ∃ (p : Int) (o : Option V), σ = [some (.ref a), some (.int p), o] ∧ BadRise K H p (xs.drop i)) ⟨rfl, -1, none, rfl, hb⟩ ?_ ?_ ?_⟩
    · rintro i σ H' _ ⟨rfl, _⟩
      exact ha
    · rintro i x σ H' hi ⟨rfl, p, o, rfl, hp⟩
      rw [drop_at hi] at hp
      rcases hp with hn | ⟨z, rfl, hz⟩ | ⟨z, rfl, h1, h2, h3⟩
      · exact ⟨_, rfl, _, rfl, .inr ⟨hn, false, rfl, iteT q⟩⟩
      · refine ⟨_, rfl, _, rfl, .inl ⟨z, rfl, true, rfl, iteF ?_⟩⟩
        by_cases c : p < z
        · refine ⟨_, rfl, _, rfl, _, _, rfl, rfl, true, bl_t c, iteT ?_⟩
          refine ⟨_, _, rfl, rfl, false, congrArg V.bl (decide_eq_false fun z2 => hz ⟨c, z2⟩), iteT ?_⟩
          exact q
        · refine ⟨_, rfl, _, rfl, _, _, rfl, rfl, false, congrArg V.bl (decide_eq_false c), iteF ?_⟩
          exact ⟨false, rfl, iteT q⟩
      · refine ⟨_, rfl, _, rfl, .inl ⟨z, rfl, true, rfl, iteF ?_⟩⟩
        refine ⟨_, rfl, _, rfl, _, _, rfl, rfl, true, bl_t h1, ?_⟩
        refine iteT ?_
        refine ⟨_, _, rfl, rfl, true, bl_t h2, ?_⟩
        refine iteF ?_
        refine ⟨_, rfl, ?_⟩
        exact ⟨rfl, z, _, rfl, h3⟩
    · rintro σ H' ⟨rfl, p, o, rfl, hp⟩
      rw [List.drop_length] at hp
      exact hp.elim
theorem ok_badV {f g e c d : Addr} {fd gd ed cd dd : FuncData} (F : Fun K "may_have" "may_have" sMayHave f fd) (T : TP P w K mg aL left) (cA : Cal P w K mg base "is_amount" ["thing"] 2 (spNoAmt K) g gd) (cI : Cal P w K mg base "is_integer" ["thing"] 1 (spIntU K) e ed)
    (cS : Cal P w K mg base "is_set" ["thing"] 2 (spNoSet K) c cd) (cE : Cal P w K mg base "is_endless" ["thing"] 1 (spNoEnd K) d dd) : FnOk P w K mg base CX0 3 f fd ["word", "value"] (spBadV K) := by
  refine F.ok scMayHave (fun vs H Q E h => ?_) (fun cdv A outer s H vs Q E hr h => ?_)
  · obtain ⟨x, v, rfl, _⟩ := h
    rfl
  obtain ⟨x, v, rfl, hok, q⟩ := h
  refine ⟨_, (pss_cons (ps_if (pt_cmpR op_in_seq (pv 0) (pe_tup (pa_cons pe_str (pa_cons pe_str (pa_cons pe_str pa_nil)))) (by first | exact nomark _ | rfl)) (pss_one (ps_ret (pe_call cA.ok (hr.mono (by decide)) rfl cA.mg cA.kp cA.bd .nil pass0 (pa_cons (pv 1) pa_nil)))) pss_nil) (pss_cons (ps_if (pt_cmpR op_eq (pv 0) pe_str (nomark _)) (pss_one (ps_ret (pe_or (pe_cmpR op_isN (pv 1) pe_non (nomark _)) (pe_one (pe_call cS.ok (hr.mono (by decide)) rfl cS.mg cS.kp cS.bd .nil pass0 (pa_cons (pv 1) pa_nil)))))) pss_nil) (pss_cons (ps_if (pt_cmpR op_eq (pv 0) pe_str (nomark _)) (pss_one (ps_ret (pe_and (pe_call cI.ok (hr.mono (by decide)) rfl cI.mg cI.kp cI.bd .nil pass0 (pa_cons (pv 1) pa_nil)) (pe_one (pe_cmpR op_in_seq (pv 1) (pe_tup (pa_cons pe_int (pa_cons pe_int pa_nil))) (by first | exact nomark _ | rfl)))))) pss_nil) (pss_one (ps_ret (pe_or (pe_call cE.ok (hr.mono (by decide)) rfl cE.mg cE.kp cE.bd .nil pass0 (pa_cons (pv 1) pa_nil)) (pe_one (pe_call cA.ok (hr.mono (by decide)) rfl cA.mg cA.kp cA.bd .nil pass0 (pa_cons (pv 1) pa_nil))))))))), ?_⟩
  refine ⟨_, rfl, by show 3 ≤ sizeLine; decide, fun p hp => ⟨p, _, rfl, .inr (SqT.of upd_same), rfl, rfl, ?_⟩⟩
  have s1 := Same.new (Same.refl H) hp (.tup [.str "min", .str "low", .str "burst"])
  cases badV_same s1 hok with
  | amt hw h =>
    simp only [List.mem_cons, List.not_mem_nil, or_false] at hw
    rcases hw with rfl | rfl | rfl
    all_goals
      refine ⟨true, congrArg V.bl (by decide +kernel), iteT ?_⟩
      exact ⟨_, rfl, _, rfl, h, q _ s1⟩
  | lim hw h1 h2 =>
    simp only [List.mem_cons, List.not_mem_nil, or_false] at hw
    rcases hw with rfl | rfl | rfl
    all_goals
      refine ⟨false, congrArg V.bl (by decide +kernel), iteF ?_⟩
      refine ⟨_, rfl, rfl, _, rfl, ifF (by decide +kernel) ?_⟩
      refine ⟨_, rfl, rfl, _, rfl, ifF (by decide +kernel) ?_⟩
      refine ⟨_, rfl, _, rfl, h1, ?_⟩
      refine ⟨false, rfl, ?_⟩
      refine iteF ?_
      exact ⟨_, rfl, _, rfl, h2, q _ s1⟩
  | set hn h =>
    refine ⟨false, congrArg V.bl (by decide +kernel), iteF ?_⟩
    refine ⟨_, rfl, rfl, _, rfl, ifT (by decide +kernel) ?_⟩
    refine ⟨_, rfl, rfl, false, ?_, iteF ?_⟩
    · cases v <;> first | rfl | exact absurd rfl hn
    exact ⟨_, rfl, _, rfl, h, q _ s1⟩
  | alone h =>
    refine ⟨false, congrArg V.bl (by decide +kernel), iteF ?_⟩
    refine ⟨_, rfl, rfl, _, rfl, ifF (by decide +kernel) ?_⟩
    refine ⟨_, rfl, rfl, _, rfl, ifT (by decide +kernel) ?_⟩
    exact ⟨_, rfl, _, rfl, .inr ⟨h, false, rfl, iteF (q _ s1)⟩⟩
  | @aloneI i h0 h1 =>
    refine ⟨false, congrArg V.bl (by decide +kernel), iteF ?_⟩
    refine ⟨_, rfl, rfl, _, rfl, ifF (by decide +kernel) ?_⟩
    refine ⟨_, rfl, rfl, _, rfl, ifT (by decide +kernel) ?_⟩
    refine ⟨_, rfl, _, rfl, .inl ⟨i, rfl, true, rfl, iteT ?_⟩⟩
    refine ⟨_, rfl, by show 2 ≤ sizeLine; decide, fun p2 hp2 => ⟨p2, _, rfl, .inr (SqT.of upd_same), rfl, rfl, ?_⟩⟩
    have e : inV (.int i) [.int 0, .int 1] = false := by
      unfold inV
      simp [eqV, flatV]
      exact ⟨fun z => h0 z.symm, fun z => h1 z.symm⟩
    show Q (.bl (inV (.int i) [.int 0, .int 1])) _
    rw [e]
    exact q _ (Same.new s1 hp2 _)
end
end Bd
end

section
namespace Bd
open PySem L2
/-! ### rows with a due of one of them -/
def setD (dues : List (Str × PyData)) (w : Str) (d : PyData) : List (Str × PyData) := (dues.filter fun du => decide (du.1 ≠ w)) ++ [(w, d)]
def chgR (x w : Str) (d : PyData) (r : RowM) : RowM := if r.name = x then ⟨r.name, r.above, setD r.dues w d⟩ else r
def chg (rows : List RowM) (x w : Str) (d : PyData) : List RowM := rows.map (chgR x w d)
theorem chgR_name (x w : Str) (d : PyData) (r : RowM) : (chgR x w d r).name = r.name := by
  unfold chgR
  split <;> rfl
theorem chgR_above (x w : Str) (d : PyData) (r : RowM) : (chgR x w d r).above = r.above := by
  unfold chgR
  split <;> rfl
theorem chg_names (rows : List RowM) (x w : Str) (d : PyData) : (chg rows x w d).map (·.name) = rows.map (·.name) := by
  unfold chg
  rw [List.map_map]
  exact List.map_congr_left fun r _ => chgR_name x w d r
theorem chg_aboves (rows : List RowM) (x w : Str) (d : PyData) : (chg rows x w d).map (·.above) = rows.map (·.above) := by
  unfold chg
  rw [List.map_map]
  exact List.map_congr_left fun r _ => chgR_above x w d r
theorem chg_len (rows : List RowM) (x w : Str) (d : PyData) : (chg rows x w d).length = rows.length := List.length_map _
theorem dueOf_setD (dues : List (Str × PyData)) (w y : Str) (d : PyData) : dueOf (setD dues w d) y = if y = w then some d else dueOf dues y := by
  unfold dueOf setD
  rw [List.find?_append, List.find?_filter]
  by_cases c : y = w
  · subst c
    rw [if_pos rfl]
    have e : (dues.find? fun a => decide (decide (a.1 ≠ y) = true ∧ decide (a.1 = y) = true)) = none := by
      rw [List.find?_eq_none]
      intro a _
      simp
    rw [e]
    simp
  · rw [if_neg c]
    have e : (dues.find? fun a => decide (decide (a.1 ≠ w) = true ∧ decide (a.1 = y) = true)) = dues.find? fun a => decide (a.1 = y) := by
      congr 1
      funext a
      by_cases z : a.1 = y
      · rw [z]
        simp [c]
      · simp [z]
    rw [e]
    cases z : dues.find? fun a => decide (a.1 = y) with
    | some v => simp
    | none =>
      have n : ¬ w = y := fun e => c e.symm
      simp [n]
theorem fullD_setD (dues : List (Str × PyData)) (w : Str) (d : PyData) : fullD (setD dues w d) = (fullD dues).map fun wd => if wd.1 = w then (wd.1, d) else wd := by
  unfold fullD
  rw [List.map_map]
  refine List.map_congr_left fun wd _ => ?_
  show (wd.1, (dueOf (setD dues w d) wd.1).getD wd.2) = if wd.1 = w then (wd.1, d) else (wd.1, (dueOf dues wd.1).getD wd.2)
  rw [dueOf_setD]
  by_cases c : wd.1 = w
  · rw [if_pos c, if_pos c]
    rfl
  · rw [if_neg c, if_neg c]
theorem setD_ok {dues : List (Str × PyData)} {w : Str} {d : PyData} (h : DuesOk dues) (hw : w ∈ leftW) (hv : ValOk w d) : DuesOk (setD dues w d) := by
  unfold setD
  refine ⟨?_, fun du hdu => ?_⟩
  · rw [List.map_append, List.map_singleton]
    refine List.nodup_append.mpr ⟨(h.1).sublist ((List.filter_sublist).map _), by simp, fun a ha b hb e => ?_⟩
    obtain ⟨du, hdu, rfl⟩ := List.mem_map.mp ha
    have n := (List.mem_filter.mp hdu).2
    rw [List.mem_singleton.mp hb] at e
    simp [e] at n
  · rcases List.mem_append.mp hdu with m | m
    · exact h.2 du (List.mem_filter.mp m).1
    · rw [List.mem_singleton.mp m]
      exact ⟨hw, hv⟩
theorem full_due (dues : List (Str × PyData)) {x : Str} {d : PyData} (h : dueOf leftD x = some d) : dueOf (fullD dues) x = some ((dueOf dues x).getD d) := by
  unfold fullD
  rw [dueOf_map (fun wd => (dueOf dues wd.1).getD wd.2)]
  unfold dueOf at h
  cases e : leftD.find? fun du => decide (du.1 = x) with
  | none =>
    rw [e] at h
    cases h
  | some wd =>
    rw [e] at h
    cases h
    have : wd.1 = x := by
      have := List.find?_some e
      simpa using this
    show some ((dueOf dues wd.1).getD wd.2) = _
    rw [this]
theorem chg_ok {rows : List RowM} {x w : Str} {d : PyData} (ok : RowsOk rows) (hw : w ∈ leftW) (hv : ValOk w d) (ht : w = "tops" → d = .str "endless" ∨ ∀ q ∈ rows, q.above ≠ x) : RowsOk (chg rows x w d) := by
  intro i r hr
  unfold chg at hr
  rw [List.getElem?_map] at hr
  cases e : rows[i]? with
  | none =>
    rw [e] at hr
    cases hr
  | some r0 =>
    rw [e] at hr
    obtain rfl := Option.some.inj hr
    obtain ⟨h1, h2, h3, h4⟩ := ok i r0 e
    refine ⟨by rw [chgR_name]; exact h1, ?_, ?_, ?_⟩
    · unfold chgR
      split
      · exact setD_ok h2 hw hv
      · exact h2
    · intro q hq
      unfold chg at hq
      rw [← List.map_take] at hq
      obtain ⟨q0, hq0, rfl⟩ := List.mem_map.mp hq
      rw [chgR_name, chgR_name]
      exact h3 q0 hq0
    · rw [chgR_above]
      rcases h4 with h4 | ⟨q, hq, hn, hd⟩
      · exact .inl h4
      · refine .inr ⟨chgR x w d q, ?_, by rw [chgR_name]; exact hn, ?_⟩
        · unfold chg
          rw [← List.map_take]
          exact List.mem_map.mpr ⟨q, hq, rfl⟩
        · unfold chgR
          by_cases c : q.name = x
          · rw [if_pos c]
            show dueOf (fullD (setD q.dues w d)) "tops" = some (.str "endless")
            rw [full_due _ (show dueOf leftD "tops" = some (.str "endless") from rfl), dueOf_setD]
            by_cases cw : ("tops" : Str) = w
            · rw [if_pos cw]
              rcases ht cw.symm with z | z
              · rw [z]
                rfl
              · exact absurd (hn.symm.trans c) (z r0 (List.mem_of_getElem? e))
            · rw [if_neg cw, ← full_due _ (show dueOf leftD "tops" = some (.str "endless") from rfl)]
              exact hd
          · rw [if_neg c]
            exact hd
/-- rows that tell the same -/
def FEq (a b : List RowM) : Prop := a.map (·.name) = b.map (·.name) ∧ a.map (·.above) = b.map (·.above) ∧ a.map (fun r => fullD r.dues) = b.map (fun r => fullD r.dues)
theorem FEq.refl (a : List RowM) : FEq a a := ⟨rfl, rfl, rfl⟩
theorem FEq.share {a b : List RowM} (h : FEq a b) (tk tk' : List (Key × V)) : ShareOk tk tk' a b := by
  intro i kv kv' r r' _ _ hr hr' _
  have := congrArg (fun l => l[i]?) h.2.2
  simp only [List.getElem?_map, hr, hr', Option.map_some] at this
  exact Option.some.inj this
theorem zip_dues : ∀ {a b : List RowM}, (∀ r ∈ a, DuesOk r.dues) → a.map (fun r => fullD r.dues) = b.map (fun r => fullD r.dues) → (List.zipWith (fun (r r' : RowM) => duesEqB (fullD r.dues) (fullD r'.dues)) a b).all id = true
  | [], [], _, _ => rfl
  | [], _ :: _, _, e => by cases e
  | _ :: _, [], _, e => by cases e
  | r :: a, r' :: b, h, e => by
    rw [List.map_cons, List.map_cons] at e
    injection e with e1 e2
    rw [List.zipWith_cons_cons, List.all_cons, zip_dues (fun q hq => h q (List.mem_cons_of_mem _ hq)) e2, ← e1, dues_refl (fullD_ok (h r List.mem_cons_self))]
    rfl
theorem FEq.eq {a b : List RowM} (h : FEq a b) (ok : RowsOk a) (f : Bool) : treeEqB a f b f = true := by
  unfold treeEqB
  rw [decide_eq_true h.1, decide_eq_true h.2.1, decide_eq_true rfl, zip_dues (rows_due ok) h.2.2]
  rfl
theorem chg_full (rows : List RowM) (x w : Str) (d : PyData) : (chg rows x w d).map (fun r => fullD r.dues) = rows.map fun r => if r.name = x then (fullD r.dues).map (fun wd => if wd.1 = w then (wd.1, d) else wd) else fullD r.dues := by
  unfold chg
  rw [List.map_map]
  refine List.map_congr_left fun r _ => ?_
  show fullD (chgR x w d r).dues = _
  unfold chgR
  by_cases c : r.name = x
  · rw [if_pos c, if_pos c]
    exact fullD_setD _ _ _
  · rw [if_neg c, if_neg c]
theorem full_mem {dues : List (Str × PyData)} {wd : Str × PyData} (h : wd ∈ fullD dues) : dueOf (fullD dues) wd.1 = some wd.2 := by
  have nd : ((fullD dues).map (·.1)).Nodup := by
    rw [fullD_keys]
    exact leftW_nd
  unfold dueOf
  generalize fullD dues = l at h nd
  induction l with
  | nil => cases h
  | cons a l ih =>
    rw [List.map_cons, List.nodup_cons] at nd
    rcases List.mem_cons.mp h with rfl | m
    · simp
    · have n : ¬ a.1 = wd.1 := fun e => nd.1 (List.mem_map.mpr ⟨wd, m, e.symm⟩)
      rw [List.find?_cons_of_neg (by simpa using n)]
      exact ih m nd.2
theorem nd_same : ∀ {rows : List RowM}, (nms rows).Nodup → ∀ {a b : RowM}, a ∈ rows → b ∈ rows → a.name = b.name → a = b
  | [], _, _, _, h, _, _ => by cases h
  | q :: rows, nd, a, b, ha, hb, e => by
    unfold nms at nd
    rw [List.map_cons, List.nodup_cons] at nd
    rcases List.mem_cons.mp ha with rfl | ha' <;> rcases List.mem_cons.mp hb with rfl | hb'
    · rfl
    · exact absurd (List.mem_map.mpr ⟨b, hb', e.symm⟩) nd.1
    · exact absurd (List.mem_map.mpr ⟨a, ha', e⟩) nd.1
    · exact nd_same nd.2 ha' hb' e
/-- one due put there and back -/
theorem chg_back {rows : List RowM} {r : RowM} {w : Str} {d old : PyData} (ok : RowsOk rows) (hr : r ∈ rows) (ho : dueOf (fullD r.dues) w = some old) : FEq (chg (chg rows r.name w d) r.name w old) rows := by
  refine ⟨by rw [chg_names, chg_names], by rw [chg_aboves, chg_aboves], ?_⟩
  rw [chg_full]
  unfold chg
  rw [List.map_map]
  refine List.map_congr_left fun q hq => ?_
  show (if (chgR r.name w d q).name = r.name then (fullD (chgR r.name w d q).dues).map (fun wd => if wd.1 = w then (wd.1, old) else wd) else fullD (chgR r.name w d q).dues) = fullD q.dues
  rw [chgR_name]
  by_cases c : q.name = r.name
  · obtain rfl : q = r := nd_same (nms_nd ok) hq hr c
    rw [if_pos rfl]
    unfold chgR
    rw [if_pos rfl]
    show (fullD (setD q.dues w d)).map _ = _
    rw [fullD_setD, List.map_map]
    conv => rhs; rw [← List.map_id (fullD q.dues)]
    refine List.map_congr_left fun wd hwd => ?_
    show (if (if wd.1 = w then (wd.1, d) else wd).1 = w then ((if wd.1 = w then (wd.1, d) else wd).1, old) else (if wd.1 = w then (wd.1, d) else wd)) = wd
    by_cases e : wd.1 = w
    · rw [if_pos e, if_pos e]
      have := full_mem hwd
      rw [e, ho] at this
      obtain rfl := Option.some.inj this
      rfl
    · rw [if_neg e, if_neg e]
  · rw [if_neg c]
    unfold chgR
    rw [if_neg c]
/-- dues of unlike words in another order -/
theorem chg_comm (rows : List RowM) (x y v w : Str) (a b : PyData) (h : v ≠ w) : FEq (chg (chg rows x v a) y w b) (chg (chg rows y w b) x v a) := by
  refine ⟨by rw [chg_names, chg_names, chg_names, chg_names], by rw [chg_aboves, chg_aboves, chg_aboves, chg_aboves], ?_⟩
  rw [chg_full, chg_full]
  unfold chg
  rw [List.map_map, List.map_map]
  refine List.map_congr_left fun r _ => ?_
  show (if (chgR x v a r).name = y then (fullD (chgR x v a r).dues).map (fun wd => if wd.1 = w then (wd.1, b) else wd) else fullD (chgR x v a r).dues) = (if (chgR y w b r).name = x then (fullD (chgR y w b r).dues).map (fun wd => if wd.1 = v then (wd.1, a) else wd) else fullD (chgR y w b r).dues)
  rw [chgR_name, chgR_name]
  unfold chgR
  by_cases c1 : r.name = x <;> by_cases c2 : r.name = y
  · rw [if_pos c1, if_pos c2, if_pos c1, if_pos c2]
    show (fullD (setD r.dues v a)).map _ = (fullD (setD r.dues w b)).map _
    rw [fullD_setD, fullD_setD, List.map_map, List.map_map]
    refine List.map_congr_left fun wd _ => ?_
    show (if (if wd.1 = v then (wd.1, a) else wd).1 = w then ((if wd.1 = v then (wd.1, a) else wd).1, b) else (if wd.1 = v then (wd.1, a) else wd)) = (if (if wd.1 = w then (wd.1, b) else wd).1 = v then ((if wd.1 = w then (wd.1, b) else wd).1, a) else (if wd.1 = w then (wd.1, b) else wd))
    by_cases e1 : wd.1 = v
    · have e2 : ¬ wd.1 = w := fun z => h (e1.symm.trans z)
      rw [if_pos e1, if_neg e2, if_neg e2, if_pos e1]
    · by_cases e2 : wd.1 = w
      · rw [if_neg e1, if_pos e2, if_neg e1]
      · rw [if_neg e1, if_neg e2, if_neg e1]
  · rw [if_pos c1, if_neg c2, if_neg c2, if_pos c1]
    exact fullD_setD _ _ _
  · rw [if_neg c1, if_pos c2, if_pos c2, if_neg c1]
    exact (fullD_setD _ _ _).symm
  · rw [if_neg c1, if_neg c2, if_neg c2, if_neg c1]
/-- another due makes another tree -/
theorem chg_ne {rows : List RowM} {r : RowM} {w : Str} {d old : PyData} (ok : RowsOk rows) (hr : r ∈ rows) (ho : dueOf (fullD r.dues) w = some old) (ne : PyData.eqv old d = false) (f : Bool) : treeEqB rows f (chg rows r.name w d) f = false := by
  have key : ∀ {l : List RowM}, r ∈ l → (List.zipWith (fun (r r' : RowM) => duesEqB (fullD r.dues) (fullD r'.dues)) l (chg l r.name w d)).all id = false := by
    intro l
    induction l with
    | nil => intro h; cases h
    | cons q l ih =>
      intro h
      unfold chg
      rw [List.map_cons, List.zipWith_cons_cons, List.all_cons]
      rcases List.mem_cons.mp h with rfl | m
      · have e : duesEqB (fullD r.dues) (fullD (chgR r.name w d r).dues) = false := by
          unfold chgR
          rw [if_pos rfl]
          show duesEqB (fullD r.dues) (fullD (setD r.dues w d)) = false
          rw [fullD_setD]
          unfold duesEqB
          have hm : ∃ wd ∈ fullD r.dues, wd.1 = w ∧ wd.2 = old := by
            unfold dueOf at ho
            obtain ⟨wd, h1, h2⟩ := Option.map_eq_some_iff.mp ho
            exact ⟨wd, List.mem_of_find?_eq_some h1, by simpa using List.find?_some h1, h2⟩
          obtain ⟨wd, hwd, e1, e2⟩ := hm
          generalize fullD r.dues = L at hwd
          induction L with
          | nil => cases hwd
          | cons z L ihL =>
            rw [List.map_cons, List.zipWith_cons_cons, List.all_cons]
            rcases List.mem_cons.mp hwd with rfl | m
            · rw [if_pos e1]
              show (PyData.eqv wd.2 d && _) = false
              rw [e2, ne]
              rfl
            · rw [ihL m]
              exact Bool.and_false _
        show (id (duesEqB (fullD r.dues) (fullD (chgR r.name w d r).dues)) && _) = false
        rw [e]
        rfl
      · have := ih m
        unfold chg at this
        rw [this]
        exact Bool.and_false _
  unfold treeEqB
  rw [key hr]
  simp
end Bd
end

section
namespace Bd
open PySem L2
structure TN (K : PySem.W.Frag) (mg : Str → Option Value) : Prop where
  z_max : mg "max" = none
  z_min : mg "min" = none
  z_isi : mg "isinstance" = none
  z_bool : mg "bool" = none
theorem mkS {H1 : Hp} {x dx C : Addr} (hx : H1 x = none) (hdx : H1 dx = none) (hne : dx ≠ x) : Same H1 (upd (upd H1 dx (.own x)) x (.ins C dx [])) :=
  Same.new (Same.new (Same.refl H1) hdx _) ((upd_ne (Ne.symm hne)).trans hx) _
def spLaw (K : PySem.W.Frag) (Tb : List (Addr × Str)) : Sp := fun vs H Q _ => ∃ (a : Addr) (ns : List Int), vs = [.ref a] ∧ SqL K H a (ns.map V.int) ∧ ns.length ≤ 63 ∧ LamX.Tabs Tb H ∧ ∀ H', Q (.bl true) H'
/-- rows that the law looks at -/
structure LS (K : PySem.W.Frag) (Tb : List (Addr × Str)) (s lp : Addr) (xs : List V) (rows : List RowM) (H2 G : Hp) : Prop where
  src : Src G s
  lst : G lp = some (.lst xs)
  prow : Paired (RowAt K G) xs rows
  base : LamX.ExtN H2 G
  tabs : LamX.Tabs Tb G
theorem LS.same {K : PySem.W.Frag} {Tb : List (Addr × Str)} {s lp : Addr} {xs : List V} {rows : List RowM} {H2 G G' : Hp} (S : LS K Tb s lp xs rows H2 G) (e : Same G G') : LS K Tb s lp xs rows H2 G' :=
  ⟨let ⟨x, y, z, q⟩ := S.src; ⟨x, y, z, e _ _ q⟩, e _ _ S.lst, rows_same e S.prow, S.base.trans (LamX.ExtN.of e), tabs_same S.tabs e⟩
theorem LS.kept {K : PySem.W.Frag} {Tb : List (Addr × Str)} {s lp : Addr} {xs : List V} {rows : List RowM} {H2 G G' : Hp} (ok : RowsOk rows) (n : lp ≠ s) (hs : H2 s = none) (S : LS K Tb s lp xs rows H2 G) (s' : Src G' s) (e : Kept s G G') : LS K Tb s lp xs rows H2 G' := by
  have tk : TK G G' := let ⟨_, _, _, z⟩ := S.src; TK.kept z e
  exact ⟨s', e _ _ n S.lst, paired_monoM (fun v q hq z => tk.row (rows_due ok q hq) z) S.prow, fun b o h z => e b o (ne_of_none h hs) (S.base b o h z), tabs_kept S.src S.tabs e⟩
theorem at_nat {α : Type} {xs : List α} {j : Nat} {v : α} (h : xs[j]? = some v) : atI xs (0 + (j : Int)) = some v := by
  rw [Int.zero_add]
  exact atI_nat h
theorem paired_mem {α β : Type} {F : α → β → Prop} : ∀ {xs : List α} {ys : List β}, Paired F xs ys → ∀ x ∈ xs, ∃ y ∈ ys, F x y
  | _, _, .nil, x, h => nomatch h
  | _, _, .cons a b, x, h => by
    rcases List.mem_cons.mp h with rfl | h
    · exact ⟨_, List.mem_cons_self, a⟩
    · obtain ⟨y, hy, z⟩ := paired_mem b x h
      exact ⟨y, List.mem_cons_of_mem _ hy, z⟩
end Bd
end

section
namespace Bd
open PySem L2
abbrev sTWith : Stmt := (inClass (top 33) 9)
theorem scTWith : FnScope ["self", "name", "word", "value", "changed"] ["self", "name", "word", "value"] (defScope sTWith) := ⟨rfl, rfl, rfl, by decide +kernel, rfl, by decide +kernel, by decide +kernel⟩

theorem merge_nil {kvs : List (Key × V)} (nd : (kvs.map (·.1)).Nodup) : mergeK [] kvs = kvs := by
  have := mergeK_app kvs [] (by simpa using nd)
  simpa using this
theorem putK_in {kvs : List (Key × V)} {k : Key} (v : V) (h : k ∈ kvs.map (·.1)) : putK kvs k v = kvs.map fun kv => if kv.1 = k then (kv.1, v) else kv := by
  obtain ⟨p, hp, e⟩ := List.mem_map.mp h
  exact if_pos (List.any_eq_true.mpr ⟨p, hp, decide_eq_true e⟩)
theorem pv_put {K : PySem.W.Frag} {H : Hp} {v : V} {d : PyData} {w : Str} (hv : Dp K H v d) : ∀ {kvs : List (Key × V)} {ds : List (Str × PyData)}, Paired (fun kv (wd : Str × PyData) => kv.1 = (Sum.inr wd.1 : Key) ∧ Dp K H kv.2 wd.2) kvs ds →
    Paired (fun kv (wd : Str × PyData) => kv.1 = (Sum.inr wd.1 : Key) ∧ Dp K H kv.2 wd.2) (kvs.map fun kv => if kv.1 = (Sum.inr w : Key) then (kv.1, v) else kv) (ds.map fun wd => if wd.1 = w then (wd.1, d) else wd)
  | _, _, .nil => .nil
  | _, _, .cons (a := kv) (b := wd) h t => by
    refine .cons ?_ (pv_put hv t)
    dsimp only
    by_cases c : wd.1 = w
    · rw [if_pos c, if_pos (by rw [h.1, c])]
      exact ⟨h.1, hv⟩
    · rw [if_neg c, if_neg (by rw [h.1]; exact fun z => c (Sum.inr.inj z))]
      exact h
def putT (tk : List (Key × V)) (x : Str) (v : V) : List (Key × V) := tk.map fun kv => if kv.1 = (Sum.inr x : Key) then (kv.1, v) else kv
abbrev TD (K : PySem.W.Frag) (H : Hp) (kv : Key × V) (r : RowM) : Prop := kv.1 = (Sum.inr r.name : Key) ∧ ∃ d, kv.2 = .ref d ∧ FullAt K H d r.dues
theorem td_put {K : PySem.W.Frag} {H : Hp} {x w : Str} {d : PyData} {P2 : Addr} : ∀ {tk : List (Key × V)} {rows : List RowM}, Paired (TD K H) tk rows → (∀ r ∈ rows, r.name = x → FullAt K H P2 (setD r.dues w d)) → Paired (TD K H) (putT tk x (.ref P2)) (chg rows x w d)
  | _, _, .nil, _ => .nil
  | _, _, .cons (a := kv) (b := r) h t, f => by
    refine .cons ?_ (td_put t fun q hq => f q (List.mem_cons_of_mem _ hq))
    show TD K H (if kv.1 = (Sum.inr x : Key) then (kv.1, .ref P2) else kv) (chgR x w d r)
    unfold chgR
    by_cases c : r.name = x
    · rw [if_pos c, if_pos (by rw [h.1, c])]
      exact ⟨h.1, P2, rfl, f r List.mem_cons_self c⟩
    · rw [if_neg c, if_neg (by rw [h.1]; exact fun z => c (Sum.inr.inj z))]
      exact h
theorem td_keys2 {K : PySem.W.Frag} {H : Hp} {tk : List (Key × V)} {rows : List RowM} (h : Paired (TD K H) tk rows) : tk.map (·.1) = rows.map fun r => (Sum.inr r.name : Key) := td_keys (fun _ _ z => z.1) h
theorem chg_kids (rows : List RowM) (x w : Str) (d : PyData) (k : Key) : kidsOf (chg rows x w d) k = kidsOf rows k := by
  unfold kidsOf chg
  rw [List.filter_map, List.map_map]
  have e : ((fun r : RowM => decide ((Sum.inr r.above : Key) = k)) ∘ chgR x w d) = fun r : RowM => decide ((Sum.inr r.above : Key) = k) := by
    funext r
    show decide ((Sum.inr (chgR x w d r).above : Key) = k) = _
    rw [chgR_above]
  rw [e]
  exact List.map_congr_left fun r _ => chgR_name x w d r
/-- a tree that shares all but a due's dict -/
theorem chg_tree {K : PySem.W.Frag} {H H' : Hp} {C p1 dx1 po pp pk P P2 : Addr} {rows : List RowM} {h : Bool} {tk : List (Key × V)} {r : RowM} {x : Str} {d : PyData} (ok : RowsOk rows) (hr : r ∈ rows) (s : Same H H')
    (o2 : H po = some (.lst (rows.map fun r => .str r.name))) (o3 : H pp = some (.dK (rows.map fun r => ((Sum.inr r.name : Key), V.str r.above)))) (o5 : Paired (TD K H) tk rows) (o6 : KidsAt H pk rows)
    (e1 : H' p1 = some (.ins C dx1 (tf5 po pp pk P h))) (eP : H' P = some (.dK (putT tk r.name (.ref P2)))) (f : FullAt K H' P2 (setD r.dues x d)) : TreeAt K H' C p1 (chg rows r.name x d) h (putT tk r.name (.ref P2)) := by
  refine ⟨dx1, po, pp, pk, P, e1, ?_, ?_, eP, ?_, ?_⟩
  · have e : (chg rows r.name x d).map (fun r => V.str r.name) = rows.map fun r => V.str r.name := by
      have := congrArg (List.map V.str) (chg_names rows r.name x d)
      rw [List.map_map, List.map_map] at this
      exact this
    rw [e]
    exact s _ _ o2
  · have e : (chg rows r.name x d).map (fun r => ((Sum.inr r.name : Key), V.str r.above)) = rows.map fun r => ((Sum.inr r.name : Key), V.str r.above) := by
      unfold chg
      rw [List.map_map]
      refine List.map_congr_left fun q _ => ?_
      show ((Sum.inr (chgR r.name x d q).name : Key), V.str (chgR r.name x d q).above) = _
      rw [chgR_name, chgR_above]
    rw [e]
    exact s _ _ o3
  · refine td_put (paired_mono (fun kv q z => ⟨z.1, let ⟨d, e, g⟩ := z.2; ⟨d, e, FullAt.same s g⟩⟩) o5) fun q hq e => ?_
    rw [nd_same (nms_nd ok) hq hr e]
    exact f
  · obtain ⟨ks, k1, k2, k3⟩ := o6
    refine ⟨ks, s _ _ k1, ?_, fun kv hkv => ?_⟩
    · rw [k2]
      congr 1
      have := congrArg (List.map fun n => (Sum.inr n : Key)) (chg_names rows r.name x d)
      rw [List.map_map, List.map_map] at this
      exact this.symm
    · obtain ⟨l, a, b⟩ := k3 kv hkv
      rw [chg_kids]
      exact ⟨l, a, s _ _ b⟩
theorem chg_share {K : PySem.W.Frag} {H : Hp} {tk : List (Key × V)} {rows : List RowM} {x w : Str} {d : PyData} {P2 : Addr} (o5 : Paired (TD K H) tk rows) (n : H P2 = none) : ShareOk tk (putT tk x (.ref P2)) rows (chg rows x w d) := by
  intro i kv kv' r r' a b c e z
  unfold putT at b
  unfold chg at e
  rw [List.getElem?_map, a] at b
  rw [List.getElem?_map, c] at e
  obtain rfl := Option.some.inj b
  obtain rfl := Option.some.inj e
  obtain ⟨r2, h1, h2, d2, h3, f⟩ := paired_get o5 a
  rw [c] at h1
  cases h1
  replace z : kv.2 = (if kv.1 = (Sum.inr x : Key) then (kv.1, V.ref P2) else kv).2 := z
  by_cases q : r.name = x
  · exfalso
    rw [if_pos (by rw [h2, q]), h3] at z
    obtain ⟨fk, f1, _⟩ := f
    have : d2 = P2 := by
      injection z
    rw [this, n] at f1
    cases f1
  · unfold chgR
    rw [if_neg q]
theorem put5_order {po pp pk pt y : Addr} {b : Bool} : putF "order" (.ref y) (tf5 po pp pk pt b) = tf5 y pp pk pt b := by
  unfold tf5
  simp only [putF]
  rw [if_pos True.intro]
theorem put5_parents {po pp pk pt y : Addr} {b : Bool} : putF "parents" (.ref y) (tf5 po pp pk pt b) = tf5 po y pk pt b := by
  unfold tf5
  simp only [putF]
  rw [if_neg (by decide +kernel), if_pos True.intro]
theorem put5_kids {po pp pk pt y : Addr} {b : Bool} : putF "kids" (.ref y) (tf5 po pp pk pt b) = tf5 po pp y pt b := by
  unfold tf5
  simp only [putF]
  rw [if_neg (by decide +kernel), if_neg (by decide +kernel), if_pos True.intro]
theorem put5_table {po pp pk pt y : Addr} {b : Bool} : putF "table" (.ref y) (tf5 po pp pk pt b) = tf5 po pp pk y b := by
  unfold tf5
  simp only [putF]
  rw [if_neg (by decide +kernel), if_neg (by decide +kernel), if_neg (by decide +kernel), if_pos True.intro]
def spWD (K : PySem.W.Frag) (C CN CW CV : Addr) : Sp := fun vs H Q E => ∃ (p : Addr) (v wv dv : V) (rows : List RowM) (h : Bool) (tk : List (Key × V)), vs = [.ref p, v, wv, dv] ∧ TreeAt K H C p rows h tk ∧ RowsOk rows ∧ rows.length ≤ 200 ∧
  ((∃ r ∈ rows, v = .str r.name ∧ ((∃ x ∈ leftW, wv = .str x ∧
      ((∃ d, Dp K H dv d ∧ ValOk x d ∧ (x = "tops" → d = .str "endless" ∨ ∀ q ∈ rows, q.above ≠ r.name) ∧ ∀ p' H' tk', Same H H' → H p' = none → TreeAt K H' C p' (chg rows r.name x d) h tk' → ShareOk tk tk' rows (chg rows r.name x d) → Q (.ref p') H') ∨
       (BadV K H x dv ∧ ∀ H', Same H H' → E (.ref CV) none H') ∨
       (x = "tops" ∧ (∃ q ∈ rows, q.above = r.name) ∧ (∃ n m : Nat, Dp K H dv (.tuple [.int n, .int m]) ∧ ValOk "tops" (.tuple [.int n, .int m])) ∧ ∀ H', Same H H' → E (.ref CV) none H'))) ∨
    (OddN K H leftW wv ∧ E (.ref CW) none H))) ∨ (OddN K H (nms rows) v ∧ E (.ref CN) none H))
section
variable {P : Program} {w : World} {K : PySem.W.Frag} {mg : Str → Option Value} {base : Heap} {aL C CN CW CV : Addr} {left : List (Key × V)}
theorem ok_with {f g e m n i : Addr} {fd gd ed md nd di : FuncData} (F : Fun K "with_due" "Tree.with_due" sTWith f fd) (TCl : TC K mg C) (XW : XN K mg "NoWord" CW) (XV : XN K mg "NoDue" CV) (cG : CalX P w K mg base "check_group" ["tree", "name"] 1 (spCG K C CN) g gd) (cW : Cal P w K mg base "is_word" ["thing"] 1 (spIsWord2 K) e ed)
    (cM : Cal P w K mg base "may_have" ["word", "value"] 3 (fun vs H Q E => spMayHave K vs H Q E ∨ spBadV K vs H Q E) m md) (cE : Cal P w K mg base "is_endless" ["thing"] 1 (spIsEndless K) n nd)
    (M : Mk K C i) (FI : FnOk P w K mg base CX0 7 i di ["self", "rows", "handing"] (spInit K C)) (bI : Binds K di ["self", "rows", "handing"] []) :
    FnOk P w K mg base (L2.CX P w) 9 f fd ["self", "name", "word", "value"] (spWD K C CN CW CV) := by
  refine F.okX scTWith (fun vs H Q E h => ?_) (fun cdv A outer s H vs Q E hr h => ?_)
  · obtain ⟨p, v, wv, dv, rows, h, tk, rfl, _⟩ := h
    rfl
  obtain ⟨p, v, wv, dv, rows, h, tk, rfl, ht, ok, len, q⟩ := h
  have hu := hu_of hr
  refine ⟨_, (pss_cons (ps_expr (pe_call cG.ok (hr.mono (by decide)) rfl cG.mg cG.kp cG.bd .nil (passes_call (takes_of rfl rfl rfl rfl) fun _ _ _ _ h => h) (pa_cons (pv 0) (pa_cons (pv 1) pa_nil)))) (pss_cons (ps_if (pt_not (pt_val (pe_call cW.ok (hr.mono (by decide)) rfl cW.mg cW.kp cW.bd .nil pass0 (pa_cons (pv 2) pa_nil)))) (pss_one (ps_raise rfl (takes_of rfl rfl rfl rfl) (pmk_own PySem.F.excBase_ValueError XW.q XW.g XW.k (raises_own XW.r1 XW.r2) rfl))) pss_nil) (pss_cons (ps_if (pt_not (pt_val (pe_call cM.ok (hr.mono (by decide)) rfl cM.mg cM.kp cM.bd .nil pass0 (pa_cons (pv 2) (pa_cons (pv 3) pa_nil))))) (pss_one (ps_raise rfl (takes_of rfl rfl rfl rfl) (pmk_own PySem.F.excBase_ValueError XV.q XV.g XV.k (raises_own XV.r1 XV.r2) rfl))) pss_nil) (C8.pss_cut (ps_if (PW.pt (pw_and (pt_cmpR op_eq (pv 2) pe_str (nomark _)) (pw_and (pt_truth (pe_dget hu (pe_fld (pv 0) rfl) (pv 1) (fun _ _ => rfl)) (by intro _; rfl)) (pw_and1 (pt_not (pt_val (pe_call cE.ok (hr.mono (by decide)) rfl cE.mg cE.kp cE.bd .nil pass0 (pa_cons (pv 3) pa_nil)))))))) (pss_one (ps_raise rfl (takes_of rfl rfl rfl rfl) (pmk_own PySem.F.excBase_ValueError XV.q XV.g XV.k (raises_own XV.r1 XV.r2) rfl))) pss_nil) (pss_cons (ps_set (i := 4) scTWith.nd rfl (Or.inl rfl) (pe_make M FI (hr.mono (by decide)) rfl TCl.g_Tree bI .nil pass0 (pa_cons (pe_lst pa_nil) (pa_cons (pe_fld (pv 0) rfl) pa_nil)))) (pss_cons (ps_fld (pv 4) (pe_fld (pv 0) rfl) rfl) (pss_cons (ps_fld (pv 4) (pe_fld (pv 0) rfl) rfl) (pss_cons (ps_fld (pv 4) (pe_fld (pv 0) rfl) rfl) (pss_cons (ps_fld (pv 4) (pe_star (pe_fld (pv 0) rfl) (pv 1) (pe_star (pe_dget hu (pe_fld (pv 0) rfl) (pv 1) (fun _ _ => rfl)) (pv 2) (pv 3))) rfl) (pss_one (ps_ret (pv 4)))))))))))), ?_⟩
  rcases q with ⟨r, hrm, rfl, q⟩ | ⟨odd, q⟩
  rotate_left
  · exact ⟨_, rfl, _, rfl, p, _, rows, h, tk, rfl, ht, .inr ⟨odd, q⟩⟩
  refine ⟨_, rfl, _, rfl, p, _, rows, h, tk, rfl, ht, .inl ⟨_, rfl, List.mem_map.mpr ⟨r, hrm, rfl⟩, ?_⟩⟩
  rcases q with ⟨x, hx, rfl, q⟩ | ⟨odd, q⟩
  rotate_left
  · exact ⟨_, rfl, _, rfl, .inr ⟨odd, false, rfl, iteT q⟩⟩
  refine ⟨_, rfl, _, rfl, .inl ⟨x, hx, rfl, true, rfl, iteF ?_⟩⟩
  obtain ⟨dx, po, pp, pk, pt, o1, o2, o3, o4, o5, o6⟩ := id ht
  have nd := nms_nd ok
  have nek : r.name ∈ ("" : Str) :: nms rows := List.mem_cons_of_mem _ (List.mem_map.mpr ⟨r, hrm, rfl⟩)
  obtain ⟨kl, ks, kk1, kk2, kk3⟩ := kid_get o6 nd (nms_ne ok) nek
  rcases q with ⟨d, hd, hv, ht8, q⟩ | ⟨bad, q⟩ | ⟨rfl, hkid, ⟨n1, m1, hd, hv⟩, q⟩
  · refine ⟨_, rfl, _, rfl, .inl ⟨x, dv, d, rfl, hd, hv, fun G s1 => ⟨true, rfl, iteF ?_⟩⟩⟩
    refine ⟨fun σ G2 => G2 = G ∧ σ = [some (.ref p), some (.str r.name), some (.str x), some dv, none], ?_, ?_⟩
    · refine ⟨_, rfl, rfl, ?_⟩
      by_cases c : x = "tops"
      · subst c
        refine ⟨true, congrArg V.bl (decide_eq_true rfl), iteT ?_⟩
        refine ⟨_, rfl, p, C, dx, _, _, rfl, s1 _ _ o1, TCl.cl, TCl.n_kids, tf5_kids, _, rfl, pk, _, rfl, dget_of (s1 _ _ kk1) kk2, _, .inl ⟨_, SqL.of (s1 _ _ kk3), rfl⟩, ?_⟩
        dsimp only
        rw [kids_empty, Bool.not_not]
        cases ek : rows.any fun q => decide (q.above = r.name) with
        | false => exact iteF ⟨rfl, rfl⟩
        | true =>
          refine iteT ?_
          rcases ht8 rfl with rfl | z
          · cases dp_str hd
            exact ⟨_, rfl, _, rfl, .inl ⟨rfl, true, rfl, iteF ⟨rfl, rfl⟩⟩⟩
          · obtain ⟨q, hq, e⟩ := List.any_eq_true.mp ek
            exact absurd (by simpa using e) (z q hq)
      · exact ⟨false, congrArg V.bl (decide_eq_false fun z => c (V.str.inj z)), iteF ⟨rfl, rfl⟩⟩
    · rintro σ G2 ⟨rfl, rfl⟩
      refine ⟨Nat.zero_le _, fun l hl => ?_⟩
      have sL : Same H (upd G2 l (.lst [])) := Same.new s1 hl _
      have el : upd G2 l (.lst []) l = some (.lst []) := upd_same
      generalize upd G2 l (.lst []) = G3 at sL el ⊢
      have ok0 : RowsOk [] := fun i r h => by cases h
      refine ⟨_, rfl, p, C, dx, _, _, rfl, sL _ _ o1, TCl.cl, TCl.n_hands, tf5_hands, ?_⟩
      intro p1 dx1 hp1 hdx1 hn1
      refine ⟨G3, p1, dx1, l, [], [], h, rfl, mkS hp1 hdx1 hn1, hp1, upd_same, el, .nil, ok0, by decide, fun G4 tk1 s4 t4 _ => ⟨rfl, ?_⟩⟩
      obtain ⟨dx2, po1, pp1, pk1, pt1, u1, _⟩ := t4
      have S4 := sL.trans s4
      have hp1H : H p1 = none := sL.free hp1
      have npp : p ≠ p1 := ne_of_none o1 hp1H
      -- the shared parts
      refine ⟨_, rfl, p, C, dx, _, _, rfl, S4 _ _ o1, TCl.cl, TCl.n_order, tf5_order, ?_⟩
      refine ⟨_, rfl, p1, C, dx2, _, rfl, u1, TCl.cl, TCl.n_order, by show 5 < 1000; decide, ?_⟩
      rw [put5_order]
      have S5 : Same H (upd G4 p1 (.ins C dx2 (tf5 po pp1 pk1 pt1 h))) := Same.ch S4 hp1H _
      have u2 : upd G4 p1 (.ins C dx2 (tf5 po pp1 pk1 pt1 h)) p1 = some (.ins C dx2 (tf5 po pp1 pk1 pt1 h)) := upd_same
      generalize upd G4 p1 (.ins C dx2 (tf5 po pp1 pk1 pt1 h)) = G5 at S5 u2 ⊢
      refine ⟨_, rfl, p, C, dx, _, _, rfl, S5 _ _ o1, TCl.cl, TCl.n_parents, tf5_parents, ?_⟩
      refine ⟨_, rfl, p1, C, dx2, _, rfl, u2, TCl.cl, TCl.n_parents, by show 5 < 1000; decide, ?_⟩
      rw [put5_parents]
      have S6 : Same H (upd G5 p1 (.ins C dx2 (tf5 po pp pk1 pt1 h))) := Same.ch S5 hp1H _
      have u3 : upd G5 p1 (.ins C dx2 (tf5 po pp pk1 pt1 h)) p1 = some (.ins C dx2 (tf5 po pp pk1 pt1 h)) := upd_same
      generalize upd G5 p1 (.ins C dx2 (tf5 po pp pk1 pt1 h)) = G6 at S6 u3 ⊢
      refine ⟨_, rfl, p, C, dx, _, _, rfl, S6 _ _ o1, TCl.cl, TCl.n_kids, tf5_kids, ?_⟩
      refine ⟨_, rfl, p1, C, dx2, _, rfl, u3, TCl.cl, TCl.n_kids, by show 5 < 1000; decide, ?_⟩
      rw [put5_kids]
      have S7 : Same H (upd G6 p1 (.ins C dx2 (tf5 po pp pk pt1 h))) := Same.ch S6 hp1H _
      have u4 : upd G6 p1 (.ins C dx2 (tf5 po pp pk pt1 h)) p1 = some (.ins C dx2 (tf5 po pp pk pt1 h)) := upd_same
      generalize upd G6 p1 (.ins C dx2 (tf5 po pp pk pt1 h)) = G7 at S7 u4 ⊢
      -- the table
      have nt : (tk.map (·.1)).Nodup := by
        rw [td_keys2 o5]
        have := nodup_inr nd
        unfold nms at this
        rw [List.map_map] at this
        exact this
      obtain ⟨kv, hkv, hk1, d0, hk2, fk, fk1, fk2⟩ := paired_of o5 r hrm
      have g1 : valV tk (Sum.inr r.name : Key) = some (.ref d0) := by
        have := val_nd nt kv hkv
        rw [hk1, hk2] at this
        exact this
      have ltk : tk.length ≤ 200 := by
        rw [Paired.length o5]
        exact len
      have lfk : fk.length = 8 := by
        rw [Paired.length fk2]
        unfold fullD
        rw [List.length_map]
        rfl
      intro P9 hP9
      have S8 : Same G7 (upd G7 P9 (.dK [])) := Same.new (Same.refl _) hP9 _
      refine ⟨_, rfl, p, C, dx, _, _, rfl, S8 _ _ (S7 _ _ o1), TCl.cl, TCl.n_table, tf5_table, pt, tk, rfl, upd_same, S8 _ _ (S7 _ _ o4), (ne_of_none (S7 _ _ o4) hP9).symm, fun q9 hq9 => ?_⟩
      rw [merge_nil nt] at hq9 ⊢
      have nPq : q9 ≠ P9 := (none_upd hq9).1
      have hq7 : G7 q9 = none := (none_upd (none_upd hq9).2).2
      have S9 : Same G7 (upd (upd (upd G7 P9 (.dK [])) P9 (.dK tk)) q9 (.dK [])) := Same.new (Same.ch S8 hP9 _) hq9 _
      have eP : upd (upd (upd G7 P9 (.dK [])) P9 (.dK tk)) q9 (.dK []) P9 = some (.dK tk) := (upd_ne nPq.symm).trans upd_same
      have eq9 : upd (upd (upd G7 P9 (.dK [])) P9 (.dK tk)) q9 (.dK []) q9 = some (.dK []) := upd_same
      generalize upd (upd (upd G7 P9 (.dK [])) P9 (.dK tk)) q9 (.dK []) = G9 at S9 eP eq9 ⊢
      refine ⟨_, rfl, ?_⟩
      have S79 := S7.trans S9
      intro P2 hP2
      have S10 : Same G9 (upd G9 P2 (.dK [])) := Same.new (Same.refl _) hP2 _
      have S710 := S79.trans S10
      refine ⟨_, rfl, p, C, dx, _, _, rfl, S710 _ _ o1, TCl.cl, TCl.n_table, tf5_table, _, rfl, pt, _, rfl, dget_of (S710 _ _ o4) g1, d0, fk, rfl, upd_same, S710 _ _ fk1, (ne_of_none (S79 _ _ fk1) hP2).symm, fun q2 hq2 => ?_⟩
      rw [merge_nil (full_nd fk2)] at hq2 ⊢
      have n2 : q2 ≠ P2 := (none_upd hq2).1
      have hq29 : G9 q2 = none := (none_upd (none_upd hq2).2).2
      refine ⟨_, rfl, _, rfl, Sum.inr x, rfl, upd_same, (upd_ne n2.symm).trans upd_same, n2.symm, by omega, ?_⟩
      have S11 : Same G9 (upd (upd (upd (upd (upd G9 P2 (.dK [])) P2 (.dK fk)) q2 (.dK [])) q2 (.dK [(Sum.inr x, dv)])) P2 (.dK (putK fk (Sum.inr x) dv))) := Same.ch (Same.ch (Same.new (Same.ch S10 hP2 _) hq2 _) hq29 _) hP2 _
      have e2 : upd (upd (upd (upd (upd G9 P2 (.dK [])) P2 (.dK fk)) q2 (.dK [])) q2 (.dK [(Sum.inr x, dv)])) P2 (.dK (putK fk (Sum.inr x) dv)) P2 = some (.dK (putK fk (Sum.inr x) dv)) := upd_same
      generalize upd (upd (upd (upd (upd G9 P2 (.dK [])) P2 (.dK fk)) q2 (.dK [])) q2 (.dK [(Sum.inr x, dv)])) P2 (.dK (putK fk (Sum.inr x) dv)) = G11 at S11 e2 ⊢
      refine ⟨Sum.inr r.name, rfl, S11 _ _ eq9, S11 _ _ eP, nPq.symm, by omega, ?_⟩
      have n2P : P2 ≠ P9 := (ne_of_none eP hP2).symm
      have n2q : P2 ≠ q9 := (ne_of_none eq9 hP2).symm
      have S12 : Same G7 (upd (upd G11 q9 (.dK [(Sum.inr r.name, .ref P2)])) P9 (.dK (putK tk (Sum.inr r.name) (.ref P2)))) := Same.ch (Same.ch (S9.trans S11) hq7 _) hP9 _
      have f2 : upd (upd G11 q9 (.dK [(Sum.inr r.name, .ref P2)])) P9 (.dK (putK tk (Sum.inr r.name) (.ref P2))) P2 = some (.dK (putK fk (Sum.inr x) dv)) := ((upd_ne n2P).trans (upd_ne n2q)).trans e2
      have fP : upd (upd G11 q9 (.dK [(Sum.inr r.name, .ref P2)])) P9 (.dK (putK tk (Sum.inr r.name) (.ref P2))) P9 = some (.dK (putK tk (Sum.inr r.name) (.ref P2))) := upd_same
      generalize upd (upd G11 q9 (.dK [(Sum.inr r.name, .ref P2)])) P9 (.dK (putK tk (Sum.inr r.name) (.ref P2))) = G12 at S12 f2 fP ⊢
      refine ⟨_, rfl, p1, C, dx2, _, rfl, S12 _ _ u4, TCl.cl, TCl.n_table, by show 5 < 1000; decide, ?_⟩
      rw [put5_table]
      have hP2G : G7 P2 = none := S9.free hP2
      have hP2H : H P2 = none := S7.free hP2G
      have hP9H : H P9 = none := S7.free hP9
      have np1P : P9 ≠ p1 := (ne_of_none u4 hP9).symm
      have np1P2 : P2 ≠ p1 := (ne_of_none u4 hP2G).symm
      have S13 : Same H (upd G12 p1 (.ins C dx2 (tf5 po pp pk P9 h))) := Same.ch (S7.trans S12) hp1H _
      have mk : (Sum.inr r.name : Key) ∈ tk.map (·.1) := List.mem_map.mpr ⟨kv, hkv, hk1⟩
      have mx : (Sum.inr x : Key) ∈ fk.map (·.1) := by
        rw [pv_keys fk2]
        have := congrArg (List.map fun n => (Sum.inr n : Key)) (fullD_keys r.dues)
        rw [List.map_map] at this
        have h2 : (fullD r.dues).map (fun du => (Sum.inr du.1 : Key)) = leftW.map fun n => (Sum.inr n : Key) := this
        rw [h2]
        exact List.mem_map.mpr ⟨x, hx, rfl⟩
      refine ⟨_, rfl, q _ _ (putT tk r.name (.ref P2)) S13 hp1H (chg_tree (P := P9) (P2 := P2) ok hrm S13 o2 o3 o5 o6 upd_same ?_ ⟨_, (upd_ne np1P2).trans f2, ?_⟩) (chg_share o5 hP2H)⟩
      · rw [upd_ne np1P, fP, putK_in _ mk]
        rfl
      · rw [putK_in _ mx, fullD_setD]
        exact pv_put (dp_same S13 _ _ hd) (paired_mono (fun kv wd z => ⟨z.1, dp_same S13 _ _ z.2⟩) fk2)
  · refine ⟨_, rfl, _, rfl, .inr ⟨x, dv, rfl, bad, fun G s1 => ⟨false, rfl, iteT ?_⟩⟩⟩
    exact q _ s1
  · refine ⟨_, rfl, _, rfl, .inl ⟨_, dv, _, rfl, hd, hv, fun G s1 => ⟨true, rfl, iteF ?_⟩⟩⟩
    refine ⟨fun _ _ => False, ?_, fun _ _ z => z.elim⟩
    refine ⟨_, rfl, rfl, true, congrArg V.bl (decide_eq_true rfl), iteT ?_⟩
    refine ⟨_, rfl, p, C, dx, _, _, rfl, s1 _ _ o1, TCl.cl, TCl.n_kids, tf5_kids, _, rfl, pk, _, rfl, dget_of (s1 _ _ kk1) kk2, _, .inl ⟨_, SqL.of (s1 _ _ kk3), rfl⟩, ?_⟩
    dsimp only
    obtain ⟨q0, hq0, e0⟩ := hkid
    rw [kids_empty, Bool.not_not, List.any_eq_true.mpr ⟨q0, hq0, decide_eq_true e0⟩]
    refine iteT ?_
    obtain ⟨a1, rfl, ha1⟩ := dp_two hd
    exact ⟨_, rfl, _, rfl, .inr ⟨a1, _, rfl, Same.seqT s1 ha1, false, rfl, iteT (q _ s1)⟩⟩
end
end Bd
end

section
namespace Bd
open PySem L2
abbrev sWith : Stmt := (top 52)
theorem scWith : FnScope ["_law_lines", "_law_one_here", "_law_word", "_law_value_here", "_law_found", "_law_row", "_law_some", "_law_pair"] ["_law_lines", "_law_one_here", "_law_word", "_law_value_here"] (defScope sWith) := ⟨rfl, rfl, rfl, by decide +kernel, rfl, by decide +kernel, by decide +kernel⟩

theorem stay {H : Hp} {a b : Addr} {o o' : HO} (e : H a = some o) (h : H b = none) : upd H b o' a = some o := (upd_ne (ne_of_none e h)).trans e
def spWith (K : PySem.W.Frag) : Sp := fun vs H Q _ => ∃ (lp : Addr) (xs : List V) (rows : List RowM) (x w : Str) (dv : V) (d : PyData), vs = [.ref lp, .str x, .str w, dv] ∧ H lp = some (.lst xs) ∧ Paired (RowAt K H) xs rows ∧ RowsOk rows ∧ rows.length ≤ 100 ∧ w ∈ leftW ∧ ValOk w d ∧ Dp K H dv d ∧
  ∀ l H' ys, H l = none → Same H H' → H' l = some (.lst ys) → Paired (RowAt K H') ys (chg rows x w d) → Q (.ref l) H'
section
variable {P : Program} {w : World} {K : PySem.W.Frag} {mg : Str → Option Value} {base : Heap}
theorem ok_lwith {f : Addr} {fd : FuncData} (F : Fun K "_law_with" "_law_with" sWith f fd) (T : TA mg) : FnOk P w K mg base CX0 1 f fd ["_law_lines", "_law_one_here", "_law_word", "_law_value_here"] (spWith K) := by
  refine F.ok scWith (fun vs H Q E h => ?_) (fun cdv A outer s H vs Q E hr h => ?_)
  · obtain ⟨lp, xs, rows, x, w, dv, d, rfl, _⟩ := h
    rfl
  obtain ⟨lp, xs, rows, x, w, dv, d, rfl, el, hrows, ok, len, hw, hv, hd, q⟩ := h
  refine ⟨_, (pss_cons (ps_set (i := 4) scWith.nd rfl (Or.inl rfl) (pe_lst pa_nil)) (pss_cons (ps_for PassesOwn.never rfl (pi_list (pv 0)) (pg_name (i := 5) scWith.nd rfl (Or.inr rfl)) (pss_cons (ps_setLc (i := 6) (own := [("_law_pair", 7)]) (g := gName 7) (tt := tOr (tTest (tOp rNe (tOp (rIxT K) (tVar 5) (tC (.int 0))) (tVar 1))) (tTest (tOp rNe (tOp (rIxT K) (tVar 7) (tC (.int 0))) (tVar 2)))) (te := tVar 7) rfl scWith.nd rfl rfl (sw_true rfl rfl rfl (by decide +kernel)) (pi_tup (pe_ix ix_tup (pv 5) pe_int (fun _ _ => rfl))) (blkOk_by (own := [("_law_pair", 7)]) (N := ["_law_lines", "_law_one_here", "_law_word", "_law_value_here", "_law_found", "_law_row", "_law_some", "_law_pair"]) (sc := defScope sWith) (by decide +kernel)) (fun _ _ _ _ _ => (pg_name (i := 7) scWith.nd rfl (Or.inl rfl))) (fun _ _ _ _ _ => (pts_one (PW.pt (pw_or (pt_cmpR op_ne (pe_ix ix_tup (pv 5) pe_int (fun _ _ => rfl)) (pv 1) (nomark _)) (pw_or1 (pt_cmpR op_ne (pe_ix ix_tup (pv 7) pe_int (fun _ _ => rfl)) (pv 2) (nomark _))))))) (fun _ _ _ _ _ => (pv 7))) (pss_one (ps_expr (pe_bm PySem.F.plainAttrs_list PySem.F.slot_list_append PySem.F.type_list_append mt_append (pv 4) (pa_cons (pe_tup (pa_cons (pe_ix ix_tup (pv 5) pe_int (fun _ _ => rfl)) (pa_cons (pe_ix ix_tup (pv 5) pe_int (fun _ _ => rfl)) (pa_cons (pe_callTy call_tupleF (by rfl) T.z_tuple (by decide +kernel) (pa_cons (pe_op op_cat (pv 6) (pe_op op_rep (pe_lst (pa_cons (pe_tup (pa_cons (pv 2) (pa_cons (pv 3) pa_nil))) pa_nil)) (pe_callTy call_int1 (by rfl) T.z_int (by decide +kernel) (pa_cons (pe_cmpR op_eq (pe_ix ix_tup (pv 5) pe_int (fun _ _ => rfl)) (pv 1) (nomark _)) pa_nil)))) pa_nil)) pa_nil)))) pa_nil)))))) (pss_one (ps_ret (pv 4))))), ?_⟩
  have xl : xs.length = rows.length := Paired.length hrows
  have t2 : 2 ≤ sizeLine := by decide
  refine ⟨Nat.zero_le _, fun D0 hD0 => ?_⟩
  have sD0 : Same H (upd H D0 (.lst [])) := Same.new (Same.refl H) hD0 _
  refine ⟨_, rfl, lp, rfl, ⟨_, SqL.of (sD0 _ _ el)⟩, for_list (K := K) (a := lp) (xs := xs) (fun i σ G => ∃ (o5 o6 o7 : Option V) (ys : List V), σ = [some (.ref lp), some (.str x), some (.str w), some dv, some (.ref D0), o5, o6, o7] ∧ G D0 = some (.lst ys) ∧ ys.length = i ∧ Paired (RowAt K G) ys (chg (rows.take i) x w d) ∧ Same H G)
    ⟨none, none, none, [], rfl, upd_same, rfl, .nil, sD0⟩ ?_ ?_ ?_⟩
  · rintro i σ G _ ⟨_, _, _, _, _, _, _, _, sG⟩
    exact SqL.of (sG _ _ el)
  · rintro i v σ G hi ⟨o5, o6, o7, ys, rfl, eD0, yl, hys, sG⟩
    obtain ⟨r, hr1, hrow⟩ := paired_get (rows_same sG hrows) hi
    have hrm := List.mem_of_getElem? hr1
    have hdo := rows_due ok r hrm
    have dl8 : r.dues.length ≤ 8 := words_few hdo.1 fun du hdu => (hdo.2 du hdu).1
    obtain ⟨a, t, rfl, ha, ps, hF, hps⟩ := id hrow
    have il : i < rows.length := (List.getElem?_eq_some_iff.mp hr1).1
    refine ⟨_, rfl, a, _, _, _, rfl, rfl, ha, rfl, t, rfl, ⟨_, hF.seq⟩, fun D hD => ?_⟩
    have psl : ps.length = r.dues.length := Paired.length hps
    refine lc_tup (K := K) (a := t) (xs := ps.map V.ref) (fun j G2 => ∃ ms : List Addr, G2 = upd G D (.lst (ms.map V.ref)) ∧ ms.length ≤ j ∧ Paired (DueAt K G) ms ((r.dues.take j).filter fun du => decide (r.name ≠ x ∨ du.1 ≠ w))) ⟨[], rfl, Nat.le_refl _, .nil⟩ ?_ ?_ ?_
    · rintro j _ _ ⟨ms, rfl, _, _⟩
      exact Same.seqT (Same.new (Same.refl G) hD _) hF.seq
    · rintro j y _ hy ⟨ms, rfl, ml, hms⟩
      obtain ⟨q1, rfl, hq1⟩ := map_ref_get hy
      obtain ⟨du, hdu1, hat1⟩ := paired_get hps hq1
      obtain ⟨u, hu1, hu2⟩ := id hat1
      have jl : j < r.dues.length := (List.getElem?_eq_some_iff.mp hdu1).1
      have sD : Same G (upd G D (.lst (ms.map V.ref))) := Same.new (Same.refl G) hD _
      have tk1 : (r.dues.take (j + 1)) = r.dues.take j ++ [du] := by
        rw [List.take_add_one, hdu1]
        rfl
      have keep : (r.name ≠ x ∨ du.1 ≠ w) → ∃ acc, upd G D (.lst (ms.map V.ref)) D = some (.lst acc) ∧ acc.length < sizeLine ∧ ∃ ms2 : List Addr, upd (upd G D (.lst (ms.map V.ref))) D (.lst (acc ++ [.ref q1])) = upd G D (.lst (ms2.map V.ref)) ∧ ms2.length ≤ j + 1 ∧ Paired (DueAt K G) ms2 ((r.dues.take (j + 1)).filter fun du => decide (r.name ≠ x ∨ du.1 ≠ w)) := fun c => by
        refine ⟨_, upd_same, ?_, ms ++ [q1], ?_, ?_, ?_⟩
        · rw [List.length_map]
          exact small1000 (by omega)
        · rw [upd_upd, List.map_append]
          rfl
        · rw [List.length_append, List.length_singleton]
          omega
        · have e1 : ([du].filter fun du => decide (r.name ≠ x ∨ du.1 ≠ w)) = [du] := by
            rw [List.filter_cons]
            exact if_pos (decide_eq_true c)
          rw [tk1, List.filter_append, e1]
          exact paired_snoc hat1 hms
      have skip : ¬ (r.name ≠ x ∨ du.1 ≠ w) → ∃ ms2 : List Addr, upd G D (.lst (ms.map V.ref)) = upd G D (.lst (ms2.map V.ref)) ∧ ms2.length ≤ j + 1 ∧ Paired (DueAt K G) ms2 ((r.dues.take (j + 1)).filter fun du => decide (r.name ≠ x ∨ du.1 ≠ w)) := fun c => by
        refine ⟨ms, rfl, by omega, ?_⟩
        have e1 : ([du].filter fun du => decide (r.name ≠ x ∨ du.1 ≠ w)) = [] := by
          rw [List.filter_cons]
          exact if_neg fun z => c (of_decide_eq_true z)
        rw [tk1, List.filter_append, e1, List.append_nil]
        exact hms
      refine ⟨rfl, ?_⟩
      refine ⟨_, rfl, a, _, _, _, rfl, rfl, Same.seqT sD ha, rfl, _, rfl, rfl, _, rfl, ?_⟩
      refine ite2 (fun c => ?_) (fun c => ?_)
      · have c2 : r.name ≠ x := fun z => by
          rw [z, decide_eq_true rfl] at c
          cases c
        exact iteT ⟨_, rfl, keep (.inl c2)⟩
      · have c2 : r.name = x := by
          by_cases z : r.name = x
          · exact z
          · exact absurd (show (!decide (V.str r.name = V.str x)) = true by rw [decide_eq_false fun e => z (V.str.inj e)]; rfl) c
        refine ⟨_, rfl, q1, _, _, _, rfl, rfl, Same.seqT sD hu1, rfl, _, rfl, rfl, _, rfl, ?_⟩
        refine ite2 (fun c => ?_) (fun c => ?_)
        · refine ⟨_, rfl, keep (.inr fun z => ?_)⟩
          rw [z, decide_eq_true rfl] at c
          cases c
        · refine skip fun z => ?_
          rcases z with z | z
          · exact z c2
          · exact c (show (!decide (V.str du.1 = V.str w)) = true by rw [decide_eq_false fun e => z (V.str.inj e)]; rfl)
    · rintro _ ⟨ms, rfl, ml, hms⟩
      rw [List.length_map, psl, List.take_length] at hms
      rw [List.length_map] at ml
      have nD0D : D0 ≠ D := ne_of_none eD0 hD
      have sD : Same G (upd G D (.lst (ms.map V.ref))) := Same.new (Same.refl G) hD _
      have eD : upd G D (.lst (ms.map V.ref)) D = some (.lst (ms.map V.ref)) := upd_same
      generalize upd G D (.lst (ms.map V.ref)) = G1 at sD eD ⊢
      refine ⟨_, rfl, .inl ⟨rfl, _, SqL.of (sD _ _ eD0)⟩, ?_⟩
      refine ⟨_, rfl, a, _, _, _, rfl, rfl, Same.seqT sD ha, rfl, _, rfl, a, _, _, _, rfl, rfl, Same.seqT sD ha, rfl, ?_⟩
      refine ⟨_, rfl, _, rfl, _, rfl, t2, fun p1 hp1 => ⟨by show 1 ≤ sizeLine; decide, fun b1 hb1 => ?_⟩⟩
      have s1 : Same G1 (upd G1 p1 (.tup [.str w, dv])) := Same.new (Same.refl _) hp1 _
      have e1 : upd G1 p1 (.tup [.str w, dv]) p1 = some (.tup [.str w, dv]) := upd_same
      generalize upd G1 p1 (.tup [.str w, dv]) = G2 at hb1 s1 e1 ⊢
      have s2 : Same G2 (upd G2 b1 (.lst [.ref p1])) := Same.new (Same.refl _) hb1 _
      have e2 : upd G2 b1 (.lst [.ref p1]) b1 = some (.lst [.ref p1]) := upd_same
      generalize upd G2 b1 (.lst [.ref p1]) = G3 at s2 e2 ⊢
      have S3 := (sD.trans s1).trans s2
      refine ⟨_, rfl, a, _, _, _, rfl, rfl, Same.seqT S3 ha, rfl, _, rfl, rfl, .inr ⟨_, rfl, ?_⟩⟩
      obtain ⟨m, hm, hmx⟩ : ∃ m : Nat, (if decide (V.str r.name = V.str x) = true then (1 : Int) else 0) = (m : Int) ∧ ((m = 1 ∧ r.name = x) ∨ (m = 0 ∧ r.name ≠ x)) := by
        by_cases c : r.name = x
        · exact ⟨1, by rw [c, decide_eq_true rfl]; rfl, .inl ⟨rfl, c⟩⟩
        · exact ⟨0, by rw [decide_eq_false fun e => c (V.str.inj e)]; rfl, .inr ⟨rfl, c⟩⟩
      have m1 : m ≤ 1 := by
        rcases hmx with ⟨z, _⟩ | ⟨z, _⟩ <;> omega
      rw [hm]
      have zl : (List.replicate (m : Int).toNat [V.ref p1]).flatten.length ≤ 1 := by
        rcases hmx with ⟨rfl, _⟩ | ⟨rfl, _⟩
        · exact Nat.le_refl _
        · exact Nat.zero_le _
      refine ⟨b1, _, _, rfl, rfl, e2, by omega, by omega, ?_, fun l2 hl2 => ?_⟩
      · show 1 * (m : Int).toNat ≤ sizeLine
        have : (m : Int).toNat ≤ 1000 := by omega
        exact Nat.le_of_lt (small1000 (by omega))
      have s4 : Same G3 (upd G3 l2 (.lst (List.replicate (m : Int).toNat [V.ref p1]).flatten)) := Same.new (Same.refl _) hl2 _
      have e4 : upd G3 l2 (.lst (List.replicate (m : Int).toNat [V.ref p1]).flatten) l2 = some (.lst (List.replicate (m : Int).toNat [V.ref p1]).flatten) := upd_same
      generalize upd G3 l2 (.lst (List.replicate (m : Int).toNat [V.ref p1]).flatten) = G4 at s4 e4 ⊢
      have S4 := S3.trans s4
      refine ⟨D, l2, _, _, rfl, rfl, s4 _ _ (s2 _ _ (s1 _ _ eD)), e4, ?_, fun l3 hl3 => ?_⟩
      · rw [List.length_map]
        exact Nat.le_of_lt (small1000 (by omega))
      have s5 : Same G4 (upd G4 l3 (.lst (ms.map V.ref ++ (List.replicate (m : Int).toNat [V.ref p1]).flatten))) := Same.new (Same.refl _) hl3 _
      have e5 : upd G4 l3 (.lst (ms.map V.ref ++ (List.replicate (m : Int).toNat [V.ref p1]).flatten)) l3 = some (.lst (ms.map V.ref ++ (List.replicate (m : Int).toNat [V.ref p1]).flatten)) := upd_same
      generalize upd G4 l3 (.lst (ms.map V.ref ++ (List.replicate (m : Int).toNat [V.ref p1]).flatten)) = G5 at s5 e5 ⊢
      have S5 := S4.trans s5
      refine ⟨l3, _, rfl, SqL.of e5, fun tt o htt ho => ⟨by show 3 ≤ sizeLine; decide, fun rw' hrw => ?_⟩⟩
      have s6 : Same G5 (upd G5 tt (.frz o (.tup (ms.map V.ref ++ (List.replicate (m : Int).toNat [V.ref p1]).flatten)))) := Same.new (Same.refl _) htt _
      have e6 : upd G5 tt (.frz o (.tup (ms.map V.ref ++ (List.replicate (m : Int).toNat [V.ref p1]).flatten))) tt = some (.frz o (.tup (ms.map V.ref ++ (List.replicate (m : Int).toNat [V.ref p1]).flatten))) := upd_same
      generalize upd G5 tt (.frz o (.tup (ms.map V.ref ++ (List.replicate (m : Int).toNat [V.ref p1]).flatten))) = G6 at hrw s6 e6 ⊢
      have s7 : Same G6 (upd G6 rw' (.tup [.str r.name, .str r.above, .ref tt])) := Same.new (Same.refl _) hrw _
      have e7 : upd G6 rw' (.tup [.str r.name, .str r.above, .ref tt]) rw' = some (.tup [.str r.name, .str r.above, .ref tt]) := upd_same
      generalize upd G6 rw' (.tup [.str r.name, .str r.above, .ref tt]) = G7 at s7 e7 ⊢
      have S7 := (S5.trans s6).trans s7
      have eD7 := S7 _ _ eD0
      refine ⟨D0, _, _, rfl, rfl, eD7, small1000 (by omega), some (.ref a), some (.ref D), o7, ys ++ [.ref rw'], ?_, upd_same, by rw [List.length_append, yl]; rfl, ?_, Same.ch (sG.trans S7) hD0 _⟩
      · rfl
      · have tkk := TK.lst eD7 (.lst (ys ++ [.ref rw']))
        rw [List.take_add_one, hr1, Option.toList_some]
        unfold chg
        rw [List.map_append]
        have old : Paired (RowAt K (upd G7 D0 (.lst (ys ++ [.ref rw'])))) ys ((rows.take i).map (chgR x w d)) := by
          refine paired_monoM (fun v q hq z => tkk.row ?_ (RowAt.same S7 z)) hys
          obtain ⟨q0, hq0, rfl⟩ := List.mem_map.mp hq
          have dq := rows_due ok q0 (List.mem_of_mem_take hq0)
          unfold chgR
          split
          · exact setD_ok dq hw hv
          · exact dq
        refine paired_snoc ?_ old
        have hd7 : Dp K G7 dv d := dp_same (sG.trans S7) _ _ hd
        have hms7 := paired_mono (fun _ _ z => DueAt.same S7 z) hms
        have f6 := s7 _ _ e6
        have f1 : DueAt K G7 p1 (w, d) := ⟨dv, SqT.of (s7 _ _ (s6 _ _ (s5 _ _ (s4 _ _ (s2 _ _ e1))))), hd7⟩
        have f7 : upd G7 D0 (.lst (ys ++ [.ref rw'])) rw' = some (.tup [.str r.name, .str r.above, .ref tt]) := (upd_ne (ne_of e7 eD7 (by intro z; cases z))).trans e7
        rcases hmx with ⟨rfl, c⟩ | ⟨rfl, c⟩
        · have ec : chgR x w d r = ⟨r.name, r.above, setD r.dues w d⟩ := if_pos c
          rw [ec]
          refine ⟨rw', tt, rfl, SqT.of f7, tkk.dues (setD_ok hdo hw hv) ⟨ms ++ [p1], ⟨o, ho, ?_⟩, ?_⟩⟩
          · rw [f6, List.map_append]
            rfl
          · have e : (r.dues.filter fun du => decide (r.name ≠ x ∨ du.1 ≠ w)) = r.dues.filter fun du => decide (du.1 ≠ w) := by
              refine List.filter_congr fun du _ => ?_
              by_cases z : du.1 = w
              · rw [z, decide_eq_false (by rintro (y | y); exact y c; exact y rfl), decide_eq_false fun y => y rfl]
              · rw [decide_eq_true z, decide_eq_true (Or.inr z)]
            unfold setD
            rw [← e]
            exact paired_snoc f1 hms7
        · have ec : chgR x w d r = r := if_neg c
          rw [ec]
          have e : (r.dues.filter fun du => decide (r.name ≠ x ∨ du.1 ≠ w)) = r.dues := List.filter_eq_self.mpr fun du _ => decide_eq_true (Or.inl c)
          rw [e] at hms7
          refine ⟨rw', tt, rfl, SqT.of f7, tkk.dues hdo ⟨ms, ⟨o, ho, ?_⟩, hms7⟩⟩
          rw [f6]
          show some (HO.frz o (.tup (ms.map V.ref ++ []))) = _
          rw [List.append_nil]
  · rintro σ G ⟨o5, o6, o7, ys, rfl, eD0, yl, hys, sG⟩
    rw [xl, List.take_length] at hys
    exact ⟨_, rfl, q D0 G ys hD0 sG eD0 hys⟩
end
end Bd
end

section
namespace Bd
open PySem L2
abbrev sBad : Stmt := (top 53)
theorem scBad : FnScope ["_law_source_here", "_law_word", "_law_some"] ["_law_source_here", "_law_word"] (defScope sBad) := ⟨rfl, rfl, rfl, by decide +kernel, rfl, by decide +kernel, by decide +kernel⟩

def spBad (K : PySem.W.Frag) : Sp := fun vs H Q _ => ∃ (s : Addr) (x : Str), vs = [.ref s, .str x] ∧ x ∈ leftW ∧ Src H s ∧ ∀ v H', BadV K H' x v → Src H' s → Kept s H H' → Q v H'
section
variable {P : Program} {w : World} {K : PySem.W.Frag} {mg : Str → Option Value} {base : Heap}
theorem ok_bad {f e : Addr} {fd ed : FuncData} (F : Fun K "_law_bad_value" "_law_bad_value" sBad f fd) (T : TA mg) (cO : Cal P w K mg base "_law_one" ["_law_source_here", "_law_things"] 3 (spOne K) e ed) : FnOk P w K mg base CX0 4 f fd ["_law_source_here", "_law_word"] (spBad K) := by
  refine F.ok scBad (fun vs H Q E h => ?_) (fun cdv A outer s H vs Q E hr h => ?_)
  · obtain ⟨s, x, rfl, _⟩ := h
    rfl
  obtain ⟨s, x, rfl, hw, src, q⟩ := h
  refine ⟨_, (pss_cons (ps_if (pt_cmpR op_eq (pv 1) pe_str (nomark _)) (pss_one (ps_ret (pe_call cO.ok (hr.mono (by decide)) rfl cO.mg cO.kp cO.bd .nil pass0 (pa_cons (pv 0) (pa_cons (pe_lst (pa_cons (pe_tup (pa_cons pe_int (pa_cons pe_int pa_nil))) (pa_cons (pe_tup (pa_cons pe_int (pa_cons pe_int pa_nil))) (pa_cons (pe_tup (pa_cons pe_int pa_nil)) (pa_cons (pe_lst (pa_cons pe_int pa_nil)) (pa_cons pe_str (pa_cons pe_int (pa_cons (pe_tup (pa_cons pe_bl pa_nil)) (pa_cons pe_dnewK (pa_cons pe_str pa_nil)))))))))) pa_nil))))) pss_nil) (pss_cons (ps_if (pt_cmpR op_eq (pv 1) pe_str (nomark _)) (pss_one (ps_ret (pe_call cO.ok (hr.mono (by decide)) rfl cO.mg cO.kp cO.bd .nil pass0 (pa_cons (pv 0) (pa_cons (pe_lst (pa_cons pe_int (pa_cons (pe_un un_neg pe_int) (pa_cons pe_bl (pa_cons pe_non (pa_cons (pe_tup (pa_cons pe_int (pa_cons pe_int pa_nil))) (pa_cons pe_str (pa_cons (pe_lst pa_nil) pa_nil)))))))) pa_nil))))) pss_nil) (pss_cons (ps_set (i := 2) scBad.nd rfl (Or.inl rfl) (pe_lst (pa_cons (pe_tup (pa_cons pe_int (pa_cons pe_int pa_nil))) (pa_cons (pe_tup (pa_cons pe_int (pa_cons pe_int pa_nil))) (pa_cons (pe_tup (pa_cons (pe_un un_neg pe_int) (pa_cons pe_int pa_nil))) (pa_cons (pe_tup (pa_cons pe_int pa_nil)) (pa_cons (pe_lst (pa_cons pe_int (pa_cons pe_int pa_nil))) (pa_cons pe_int (pa_cons pe_bl (pa_cons pe_non (pa_cons (pe_tup (pa_cons pe_bl (pa_cons pe_int pa_nil))) (pa_cons (pe_tup (pa_cons pe_int (pa_cons pe_int pa_nil))) (pa_cons pe_str (pa_cons pe_str pa_nil)))))))))))))) (pss_one (ps_ret (pe_call cO.ok (hr.mono (by decide)) rfl cO.mg cO.kp cO.bd .nil pass0 (pa_cons (pv 0) (pa_cons (pe_op op_cat (pv 2) (pe_op op_rep (pe_lst (pa_cons pe_str pa_nil)) (pe_callTy call_int1 (by rfl) T.z_int (by decide +kernel) (pa_cons (pe_cmpR op_in_seq (pv 1) (pe_tup (pa_cons pe_str (pa_cons pe_str (pa_cons pe_str pa_nil)))) (by first | exact nomark _ | rfl)) pa_nil)))) pa_nil)))))))), ?_⟩
  refine ⟨_, rfl, rfl, _, rfl, ?_⟩
  refine ite2 (fun c => ?_) (fun c => ?_)
  · obtain rfl : x = "sets" := V.str.inj (of_decide_eq_true c)
    refine ⟨_, rfl, ?_⟩
    refine ⟨by show 2 ≤ sizeLine; decide, fun aP1 hP1 => ?_⟩
    have sP1 : Same H (upd H aP1 (.tup [.int 1, .int 1])) := Same.new (Same.refl _) hP1 _
    have eP1 : upd H aP1 (.tup [.int 1, .int 1]) aP1 = some (.tup [.int 1, .int 1]) := upd_same
    have nP1 := (src_ne src hP1).symm
    have rP1 := src_new (o := .tup [.int 1, .int 1]) src hP1
    generalize upd H aP1 (.tup [.int 1, .int 1]) = P1 at sP1 eP1 rP1 ⊢
    have SP1 := sP1
    refine ⟨by show 2 ≤ sizeLine; decide, fun aP2 hP2 => ?_⟩
    have sP2 : Same P1 (upd P1 aP2 (.tup [.int 2, .int 1])) := Same.new (Same.refl _) hP2 _
    have eP2 : upd P1 aP2 (.tup [.int 2, .int 1]) aP2 = some (.tup [.int 2, .int 1]) := upd_same
    have nP2 := (src_ne rP1 hP2).symm
    have rP2 := src_new (o := .tup [.int 2, .int 1]) rP1 hP2
    generalize upd P1 aP2 (.tup [.int 2, .int 1]) = P2 at sP2 eP2 rP2 ⊢
    have SP2 := SP1.trans sP2
    have eP1 := sP2 _ _ eP1
    refine ⟨by show 1 ≤ sizeLine; decide, fun aP3 hP3 => ?_⟩
    have sP3 : Same P2 (upd P2 aP3 (.tup [.int 64])) := Same.new (Same.refl _) hP3 _
    have eP3 : upd P2 aP3 (.tup [.int 64]) aP3 = some (.tup [.int 64]) := upd_same
    have nP3 := (src_ne rP2 hP3).symm
    have rP3 := src_new (o := .tup [.int 64]) rP2 hP3
    generalize upd P2 aP3 (.tup [.int 64]) = P3 at sP3 eP3 rP3 ⊢
    have SP3 := SP2.trans sP3
    have eP1 := sP3 _ _ eP1
    have eP2 := sP3 _ _ eP2
    refine ⟨by show 1 ≤ sizeLine; decide, fun aP4 hP4 => ?_⟩
    have sP4 : Same P3 (upd P3 aP4 (.lst [.int 1])) := Same.new (Same.refl _) hP4 _
    have eP4 : upd P3 aP4 (.lst [.int 1]) aP4 = some (.lst [.int 1]) := upd_same
    have nP4 := (src_ne rP3 hP4).symm
    have rP4 := src_new (o := .lst [.int 1]) rP3 hP4
    generalize upd P3 aP4 (.lst [.int 1]) = P4 at sP4 eP4 rP4 ⊢
    have SP4 := SP3.trans sP4
    have eP1 := sP4 _ _ eP1
    have eP2 := sP4 _ _ eP2
    have eP3 := sP4 _ _ eP3
    refine ⟨by show 1 ≤ sizeLine; decide, fun aP5 hP5 => ?_⟩
    have sP5 : Same P4 (upd P4 aP5 (.tup [.bl true])) := Same.new (Same.refl _) hP5 _
    have eP5 : upd P4 aP5 (.tup [.bl true]) aP5 = some (.tup [.bl true]) := upd_same
    have nP5 := (src_ne rP4 hP5).symm
    have rP5 := src_new (o := .tup [.bl true]) rP4 hP5
    generalize upd P4 aP5 (.tup [.bl true]) = P5 at sP5 eP5 rP5 ⊢
    have SP5 := SP4.trans sP5
    have eP1 := sP5 _ _ eP1
    have eP2 := sP5 _ _ eP2
    have eP3 := sP5 _ _ eP3
    have eP4 := sP5 _ _ eP4
    intro aP6 hP6
    have sP6 : Same P5 (upd P5 aP6 (.dK [])) := Same.new (Same.refl _) hP6 _
    have eP6 : upd P5 aP6 (.dK []) aP6 = some (.dK []) := upd_same
    have nP6 := (src_ne rP5 hP6).symm
    have rP6 := src_new (o := .dK []) rP5 hP6
    generalize upd P5 aP6 (.dK []) = P6 at sP6 eP6 rP6 ⊢
    have SP6 := SP5.trans sP6
    have eP1 := sP6 _ _ eP1
    have eP2 := sP6 _ _ eP2
    have eP3 := sP6 _ _ eP3
    have eP4 := sP6 _ _ eP4
    have eP5 := sP6 _ _ eP5
    refine ⟨by show 9 ≤ sizeLine; decide, fun aP7 hP7 => ?_⟩
    have sP7 : Same P6 (upd P6 aP7 (.lst [.ref aP1, .ref aP2, .ref aP3, .ref aP4, .str "1", .int 1, .ref aP5, .ref aP6, .str "endless"])) := Same.new (Same.refl _) hP7 _
    have eP7 : upd P6 aP7 (.lst [.ref aP1, .ref aP2, .ref aP3, .ref aP4, .str "1", .int 1, .ref aP5, .ref aP6, .str "endless"]) aP7 = some (.lst [.ref aP1, .ref aP2, .ref aP3, .ref aP4, .str "1", .int 1, .ref aP5, .ref aP6, .str "endless"]) := upd_same
    have nP7 := (src_ne rP6 hP7).symm
    have rP7 := src_new (o := .lst [.ref aP1, .ref aP2, .ref aP3, .ref aP4, .str "1", .int 1, .ref aP5, .ref aP6, .str "endless"]) rP6 hP7
    generalize upd P6 aP7 (.lst [.ref aP1, .ref aP2, .ref aP3, .ref aP4, .str "1", .int 1, .ref aP5, .ref aP6, .str "endless"]) = P7 at sP7 eP7 rP7 ⊢
    have SP7 := SP6.trans sP7
    have eP1 := sP7 _ _ eP1
    have eP2 := sP7 _ _ eP2
    have eP3 := sP7 _ _ eP3
    have eP4 := sP7 _ _ eP4
    have eP5 := sP7 _ _ eP5
    have eP6 := sP7 _ _ eP6
    refine ⟨s, _, _, rfl, rP7, SqL.of eP7, nP7, (by simp), by show 9 ≤ 1000; decide, fun v H2 hv src2 k2 => ?_⟩
    simp only [List.mem_cons, List.not_mem_nil, or_false] at hv
    rcases hv with rfl | rfl | rfl | rfl | rfl | rfl | rfl | rfl | rfl
    · exact q _ _ (.set (by intro z; cases z) (.bad (SqT.of (k2 _ _ nP1 eP1)) (.inr (.inr ⟨_, rfl, by decide, by decide, (.inr (.inl ⟨_, rfl, by decide⟩))⟩)))) src2 ((Kept.of SP7).trans k2)
    · exact q _ _ (.set (by intro z; cases z) (.bad (SqT.of (k2 _ _ nP2 eP2)) (.inr (.inr ⟨_, rfl, by decide, by decide, (.inr (.inl ⟨_, rfl, by decide⟩))⟩)))) src2 ((Kept.of SP7).trans k2)
    · exact q _ _ (.set (by intro z; cases z) (.bad (SqT.of (k2 _ _ nP3 eP3)) (.inr (.inl ⟨_, rfl, by decide⟩)))) src2 ((Kept.of SP7).trans k2)
    · exact q _ _ (.set (by intro z; cases z) (.ty (.base (.lst (k2 _ _ nP4 eP4))) (by decide +kernel))) src2 ((Kept.of SP7).trans k2)
    · exact q _ _ (.set (by intro z; cases z) (.ty (.base (.str _)) (by decide +kernel))) src2 ((Kept.of SP7).trans k2)
    · exact q _ _ (.set (by intro z; cases z) (.ty (.base (.int _)) (by decide +kernel))) src2 ((Kept.of SP7).trans k2)
    · exact q _ _ (.set (by intro z; cases z) (.bad (SqT.of (k2 _ _ nP5 eP5)) (.inl (.bl _)))) src2 ((Kept.of SP7).trans k2)
    · exact q _ _ (.set (by intro z; cases z) (.ty (.base (.dK (k2 _ _ nP6 eP6))) (by decide +kernel))) src2 ((Kept.of SP7).trans k2)
    · exact q _ _ (.set (by intro z; cases z) (.ty (.base (.str _)) (by decide +kernel))) src2 ((Kept.of SP7).trans k2)
  have n1 : x ≠ "sets" := fun z => c (decide_eq_true (by rw [z]))
  refine ⟨_, rfl, rfl, _, rfl, ?_⟩
  refine ite2 (fun c => ?_) (fun c => ?_)
  · obtain rfl : x = "alone" := V.str.inj (of_decide_eq_true c)
    refine ⟨_, rfl, ?_⟩
    refine ⟨_, rfl, ?_⟩
    refine ⟨by show 2 ≤ sizeLine; decide, fun aP1 hP1 => ?_⟩
    have sP1 : Same H (upd H aP1 (.tup [.int 0, .int 1])) := Same.new (Same.refl _) hP1 _
    have eP1 : upd H aP1 (.tup [.int 0, .int 1]) aP1 = some (.tup [.int 0, .int 1]) := upd_same
    have nP1 := (src_ne src hP1).symm
    have rP1 := src_new (o := .tup [.int 0, .int 1]) src hP1
    generalize upd H aP1 (.tup [.int 0, .int 1]) = P1 at sP1 eP1 rP1 ⊢
    have SP1 := sP1
    refine ⟨Nat.zero_le _, fun aP2 hP2 => ?_⟩
    have sP2 : Same P1 (upd P1 aP2 (.lst [])) := Same.new (Same.refl _) hP2 _
    have eP2 : upd P1 aP2 (.lst []) aP2 = some (.lst []) := upd_same
    have nP2 := (src_ne rP1 hP2).symm
    have rP2 := src_new (o := .lst []) rP1 hP2
    generalize upd P1 aP2 (.lst []) = P2 at sP2 eP2 rP2 ⊢
    have SP2 := SP1.trans sP2
    have eP1 := sP2 _ _ eP1
    refine ⟨by show 7 ≤ sizeLine; decide, fun aP3 hP3 => ?_⟩
    have sP3 : Same P2 (upd P2 aP3 (.lst [.int 2, .int (-1), .bl true, .non, .ref aP1, .str "1", .ref aP2])) := Same.new (Same.refl _) hP3 _
    have eP3 : upd P2 aP3 (.lst [.int 2, .int (-1), .bl true, .non, .ref aP1, .str "1", .ref aP2]) aP3 = some (.lst [.int 2, .int (-1), .bl true, .non, .ref aP1, .str "1", .ref aP2]) := upd_same
    have nP3 := (src_ne rP2 hP3).symm
    have rP3 := src_new (o := .lst [.int 2, .int (-1), .bl true, .non, .ref aP1, .str "1", .ref aP2]) rP2 hP3
    generalize upd P2 aP3 (.lst [.int 2, .int (-1), .bl true, .non, .ref aP1, .str "1", .ref aP2]) = P3 at sP3 eP3 rP3 ⊢
    have SP3 := SP2.trans sP3
    have eP1 := sP3 _ _ eP1
    have eP2 := sP3 _ _ eP2
    refine ⟨s, _, _, rfl, rP3, SqL.of eP3, nP3, (by simp), by show 7 ≤ 1000; decide, fun v H2 hv src2 k2 => ?_⟩
    simp only [List.mem_cons, List.not_mem_nil, or_false] at hv
    rcases hv with rfl | rfl | rfl | rfl | rfl | rfl | rfl
    · exact q _ _ (.aloneI (by decide) (by decide)) src2 ((Kept.of SP3).trans k2)
    · exact q _ _ (.aloneI (by decide) (by decide)) src2 ((Kept.of SP3).trans k2)
    · exact q _ _ (.alone (.bl _)) src2 ((Kept.of SP3).trans k2)
    · exact q _ _ (.alone (.ty (.base .non) (by decide +kernel))) src2 ((Kept.of SP3).trans k2)
    · exact q _ _ (.alone (.ty (.base (.tup (k2 _ _ nP1 eP1))) (by decide +kernel))) src2 ((Kept.of SP3).trans k2)
    · exact q _ _ (.alone (.ty (.base (.str _)) (by decide +kernel))) src2 ((Kept.of SP3).trans k2)
    · exact q _ _ (.alone (.ty (.base (.lst (k2 _ _ nP2 eP2))) (by decide +kernel))) src2 ((Kept.of SP3).trans k2)
  have n2 : x ≠ "alone" := fun z => c (decide_eq_true (by rw [z]))
  have hw6 : x = "min" ∨ x = "low" ∨ x = "max" ∨ x = "quota" ∨ x = "burst" ∨ x = "tops" := by
    have h := hw
    unfold leftW at h
    simp only [List.mem_cons, List.not_mem_nil, or_false] at h
    rcases h with h | h | h | h | h | h | h | h
    · exact .inl h
    · exact .inr (.inl h)
    · exact .inr (.inr (.inl h))
    · exact .inr (.inr (.inr (.inl h)))
    · exact .inr (.inr (.inr (.inr (.inl h))))
    · exact .inr (.inr (.inr (.inr (.inr h))))
    · exact absurd h n1
    · exact absurd h n2
  refine ⟨by show 2 ≤ sizeLine; decide, fun aP1 hP1 => ?_⟩
  have sP1 : Same H (upd H aP1 (.tup [.int 2, .int 2])) := Same.new (Same.refl _) hP1 _
  have eP1 : upd H aP1 (.tup [.int 2, .int 2]) aP1 = some (.tup [.int 2, .int 2]) := upd_same
  have nP1 := (src_ne src hP1).symm
  have rP1 := src_new (o := .tup [.int 2, .int 2]) src hP1
  generalize upd H aP1 (.tup [.int 2, .int 2]) = P1 at sP1 eP1 rP1 ⊢
  have SP1 := sP1
  refine ⟨by show 2 ≤ sizeLine; decide, fun aP2 hP2 => ?_⟩
  have sP2 : Same P1 (upd P1 aP2 (.tup [.int 1, .int 0])) := Same.new (Same.refl _) hP2 _
  have eP2 : upd P1 aP2 (.tup [.int 1, .int 0]) aP2 = some (.tup [.int 1, .int 0]) := upd_same
  have nP2 := (src_ne rP1 hP2).symm
  have rP2 := src_new (o := .tup [.int 1, .int 0]) rP1 hP2
  generalize upd P1 aP2 (.tup [.int 1, .int 0]) = P2 at sP2 eP2 rP2 ⊢
  have SP2 := SP1.trans sP2
  have eP1 := sP2 _ _ eP1
  refine ⟨_, rfl, by show 2 ≤ sizeLine; decide, fun aP3 hP3 => ?_⟩
  have sP3 : Same P2 (upd P2 aP3 (.tup [.int (-1), .int 1])) := Same.new (Same.refl _) hP3 _
  have eP3 : upd P2 aP3 (.tup [.int (-1), .int 1]) aP3 = some (.tup [.int (-1), .int 1]) := upd_same
  have nP3 := (src_ne rP2 hP3).symm
  have rP3 := src_new (o := .tup [.int (-1), .int 1]) rP2 hP3
  generalize upd P2 aP3 (.tup [.int (-1), .int 1]) = P3 at sP3 eP3 rP3 ⊢
  have SP3 := SP2.trans sP3
  have eP1 := sP3 _ _ eP1
  have eP2 := sP3 _ _ eP2
  refine ⟨by show 1 ≤ sizeLine; decide, fun aP4 hP4 => ?_⟩
  have sP4 : Same P3 (upd P3 aP4 (.tup [.int 1])) := Same.new (Same.refl _) hP4 _
  have eP4 : upd P3 aP4 (.tup [.int 1]) aP4 = some (.tup [.int 1]) := upd_same
  have nP4 := (src_ne rP3 hP4).symm
  have rP4 := src_new (o := .tup [.int 1]) rP3 hP4
  generalize upd P3 aP4 (.tup [.int 1]) = P4 at sP4 eP4 rP4 ⊢
  have SP4 := SP3.trans sP4
  have eP1 := sP4 _ _ eP1
  have eP2 := sP4 _ _ eP2
  have eP3 := sP4 _ _ eP3
  refine ⟨by show 2 ≤ sizeLine; decide, fun aP5 hP5 => ?_⟩
  have sP5 : Same P4 (upd P4 aP5 (.lst [.int 1, .int 1])) := Same.new (Same.refl _) hP5 _
  have eP5 : upd P4 aP5 (.lst [.int 1, .int 1]) aP5 = some (.lst [.int 1, .int 1]) := upd_same
  have nP5 := (src_ne rP4 hP5).symm
  have rP5 := src_new (o := .lst [.int 1, .int 1]) rP4 hP5
  generalize upd P4 aP5 (.lst [.int 1, .int 1]) = P5 at sP5 eP5 rP5 ⊢
  have SP5 := SP4.trans sP5
  have eP1 := sP5 _ _ eP1
  have eP2 := sP5 _ _ eP2
  have eP3 := sP5 _ _ eP3
  have eP4 := sP5 _ _ eP4
  refine ⟨by show 2 ≤ sizeLine; decide, fun aP6 hP6 => ?_⟩
  have sP6 : Same P5 (upd P5 aP6 (.tup [.bl true, .int 1])) := Same.new (Same.refl _) hP6 _
  have eP6 : upd P5 aP6 (.tup [.bl true, .int 1]) aP6 = some (.tup [.bl true, .int 1]) := upd_same
  have nP6 := (src_ne rP5 hP6).symm
  have rP6 := src_new (o := .tup [.bl true, .int 1]) rP5 hP6
  generalize upd P5 aP6 (.tup [.bl true, .int 1]) = P6 at sP6 eP6 rP6 ⊢
  have SP6 := SP5.trans sP6
  have eP1 := sP6 _ _ eP1
  have eP2 := sP6 _ _ eP2
  have eP3 := sP6 _ _ eP3
  have eP4 := sP6 _ _ eP4
  have eP5 := sP6 _ _ eP5
  refine ⟨by show 2 ≤ sizeLine; decide, fun aP7 hP7 => ?_⟩
  have sP7 : Same P6 (upd P6 aP7 (.tup [.int 0, .int 2])) := Same.new (Same.refl _) hP7 _
  have eP7 : upd P6 aP7 (.tup [.int 0, .int 2]) aP7 = some (.tup [.int 0, .int 2]) := upd_same
  have nP7 := (src_ne rP6 hP7).symm
  have rP7 := src_new (o := .tup [.int 0, .int 2]) rP6 hP7
  generalize upd P6 aP7 (.tup [.int 0, .int 2]) = P7 at sP7 eP7 rP7 ⊢
  have SP7 := SP6.trans sP7
  have eP1 := sP7 _ _ eP1
  have eP2 := sP7 _ _ eP2
  have eP3 := sP7 _ _ eP3
  have eP4 := sP7 _ _ eP4
  have eP5 := sP7 _ _ eP5
  have eP6 := sP7 _ _ eP6
  refine ⟨by show 12 ≤ sizeLine; decide, fun aP8 hP8 => ?_⟩
  have sP8 : Same P7 (upd P7 aP8 (.lst [.ref aP1, .ref aP2, .ref aP3, .ref aP4, .ref aP5, .int 1, .bl true, .non, .ref aP6, .ref aP7, .str "1", .str ""])) := Same.new (Same.refl _) hP8 _
  have eP8 : upd P7 aP8 (.lst [.ref aP1, .ref aP2, .ref aP3, .ref aP4, .ref aP5, .int 1, .bl true, .non, .ref aP6, .ref aP7, .str "1", .str ""]) aP8 = some (.lst [.ref aP1, .ref aP2, .ref aP3, .ref aP4, .ref aP5, .int 1, .bl true, .non, .ref aP6, .ref aP7, .str "1", .str ""]) := upd_same
  have nP8 := (src_ne rP7 hP8).symm
  have rP8 := src_new (o := .lst [.ref aP1, .ref aP2, .ref aP3, .ref aP4, .ref aP5, .int 1, .bl true, .non, .ref aP6, .ref aP7, .str "1", .str ""]) rP7 hP8
  generalize upd P7 aP8 (.lst [.ref aP1, .ref aP2, .ref aP3, .ref aP4, .ref aP5, .int 1, .bl true, .non, .ref aP6, .ref aP7, .str "1", .str ""]) = P8 at sP8 eP8 rP8 ⊢
  have SP8 := SP7.trans sP8
  have eP1 := sP8 _ _ eP1
  have eP2 := sP8 _ _ eP2
  have eP3 := sP8 _ _ eP3
  have eP4 := sP8 _ _ eP4
  have eP5 := sP8 _ _ eP5
  have eP6 := sP8 _ _ eP6
  have eP7 := sP8 _ _ eP7
  refine ⟨_, rfl, _, rfl, ?_⟩
  refine ⟨by show 1 ≤ sizeLine; decide, fun aP9 hP9 => ?_⟩
  have sP9 : Same P8 (upd P8 aP9 (.lst [.str "endless"])) := Same.new (Same.refl _) hP9 _
  have eP9 : upd P8 aP9 (.lst [.str "endless"]) aP9 = some (.lst [.str "endless"]) := upd_same
  have nP9 := (src_ne rP8 hP9).symm
  have rP9 := src_new (o := .lst [.str "endless"]) rP8 hP9
  generalize upd P8 aP9 (.lst [.str "endless"]) = P9 at sP9 eP9 rP9 ⊢
  have SP9 := SP8.trans sP9
  have eP1 := sP9 _ _ eP1
  have eP2 := sP9 _ _ eP2
  have eP3 := sP9 _ _ eP3
  have eP4 := sP9 _ _ eP4
  have eP5 := sP9 _ _ eP5
  have eP6 := sP9 _ _ eP6
  have eP7 := sP9 _ _ eP7
  have eP8 := sP9 _ _ eP8
  refine ⟨_, rfl, ?_⟩
  refine ⟨by show 3 ≤ sizeLine; decide, fun aP10 hP10 => ?_⟩
  have sP10 : Same P9 (upd P9 aP10 (.tup [.str "min", .str "low", .str "burst"])) := Same.new (Same.refl _) hP10 _
  have eP10 : upd P9 aP10 (.tup [.str "min", .str "low", .str "burst"]) aP10 = some (.tup [.str "min", .str "low", .str "burst"]) := upd_same
  have nP10 := (src_ne rP9 hP10).symm
  have rP10 := src_new (o := .tup [.str "min", .str "low", .str "burst"]) rP9 hP10
  generalize upd P9 aP10 (.tup [.str "min", .str "low", .str "burst"]) = P10 at sP10 eP10 rP10 ⊢
  have SP10 := SP9.trans sP10
  have eP1 := sP10 _ _ eP1
  have eP2 := sP10 _ _ eP2
  have eP3 := sP10 _ _ eP3
  have eP4 := sP10 _ _ eP4
  have eP5 := sP10 _ _ eP5
  have eP6 := sP10 _ _ eP6
  have eP7 := sP10 _ _ eP7
  have eP8 := sP10 _ _ eP8
  have eP9 := sP10 _ _ eP9
  refine ⟨aP10, _, rfl, .inr (SqT.of eP10), rfl, rfl, .inr ⟨_, rfl, ?_⟩⟩
  obtain ⟨m, hm, hmx⟩ : ∃ m : Nat, (if (if (false : Bool) = true then !inV (.str x) [.str "min", .str "low", .str "burst"] else inV (.str x) [.str "min", .str "low", .str "burst"]) = true then (1 : Int) else 0) = (m : Int) ∧ ((m = 1 ∧ x ∈ (["min", "low", "burst"] : List Str)) ∨ (m = 0 ∧ x ∈ (["max", "quota", "tops"] : List Str))) := by
    rcases hw6 with rfl | rfl | rfl | rfl | rfl | rfl
    · exact ⟨1, by decide +kernel, .inl ⟨rfl, by decide +kernel⟩⟩
    · exact ⟨1, by decide +kernel, .inl ⟨rfl, by decide +kernel⟩⟩
    · exact ⟨0, by decide +kernel, .inr ⟨rfl, by decide +kernel⟩⟩
    · exact ⟨0, by decide +kernel, .inr ⟨rfl, by decide +kernel⟩⟩
    · exact ⟨1, by decide +kernel, .inl ⟨rfl, by decide +kernel⟩⟩
    · exact ⟨0, by decide +kernel, .inr ⟨rfl, by decide +kernel⟩⟩
  have m1 : m ≤ 1 := by
    rcases hmx with ⟨z, _⟩ | ⟨z, _⟩ <;> omega
  rw [hm]
  have zl : (List.replicate (m : Int).toNat [V.str "endless"]).flatten.length ≤ 1 := by
    rcases hmx with ⟨rfl, _⟩ | ⟨rfl, _⟩
    · exact Nat.le_refl _
    · exact Nat.zero_le _
  refine ⟨aP9, _, _, rfl, rfl, eP9, by omega, by omega, by show 1 * (m : Int).toNat ≤ sizeLine; exact Nat.le_of_lt (small1000 (by omega)), fun aP11 hP11 => ?_⟩
  have sP11 : Same P10 (upd P10 aP11 (.lst (List.replicate (m : Int).toNat [V.str "endless"]).flatten)) := Same.new (Same.refl _) hP11 _
  have eP11 : upd P10 aP11 (.lst (List.replicate (m : Int).toNat [V.str "endless"]).flatten) aP11 = some (.lst (List.replicate (m : Int).toNat [V.str "endless"]).flatten) := upd_same
  have nP11 := (src_ne rP10 hP11).symm
  have rP11 := src_new (o := .lst (List.replicate (m : Int).toNat [V.str "endless"]).flatten) rP10 hP11
  generalize upd P10 aP11 (.lst (List.replicate (m : Int).toNat [V.str "endless"]).flatten) = P11 at sP11 eP11 rP11 ⊢
  have SP11 := SP10.trans sP11
  have eP1 := sP11 _ _ eP1
  have eP2 := sP11 _ _ eP2
  have eP3 := sP11 _ _ eP3
  have eP4 := sP11 _ _ eP4
  have eP5 := sP11 _ _ eP5
  have eP6 := sP11 _ _ eP6
  have eP7 := sP11 _ _ eP7
  have eP8 := sP11 _ _ eP8
  have eP9 := sP11 _ _ eP9
  have eP10 := sP11 _ _ eP10
  refine ⟨aP8, aP11, _, _, rfl, rfl, eP8, eP11, by show 12 + _ ≤ sizeLine; exact Nat.le_of_lt (small1000 (by omega)), fun aP12 hP12 => ?_⟩
  have sP12 : Same P11 (upd P11 aP12 (.lst ([(.ref aP1 : V), .ref aP2, .ref aP3, .ref aP4, .ref aP5, .int 1, .bl true, .non, .ref aP6, .ref aP7, .str "1", .str ""] ++ (List.replicate (m : Int).toNat [V.str "endless"]).flatten))) := Same.new (Same.refl _) hP12 _
  have eP12 : upd P11 aP12 (.lst ([(.ref aP1 : V), .ref aP2, .ref aP3, .ref aP4, .ref aP5, .int 1, .bl true, .non, .ref aP6, .ref aP7, .str "1", .str ""] ++ (List.replicate (m : Int).toNat [V.str "endless"]).flatten)) aP12 = some (.lst ([(.ref aP1 : V), .ref aP2, .ref aP3, .ref aP4, .ref aP5, .int 1, .bl true, .non, .ref aP6, .ref aP7, .str "1", .str ""] ++ (List.replicate (m : Int).toNat [V.str "endless"]).flatten)) := upd_same
  have nP12 := (src_ne rP11 hP12).symm
  have rP12 := src_new (o := .lst ([(.ref aP1 : V), .ref aP2, .ref aP3, .ref aP4, .ref aP5, .int 1, .bl true, .non, .ref aP6, .ref aP7, .str "1", .str ""] ++ (List.replicate (m : Int).toNat [V.str "endless"]).flatten)) rP11 hP12
  generalize upd P11 aP12 (.lst ([(.ref aP1 : V), .ref aP2, .ref aP3, .ref aP4, .ref aP5, .int 1, .bl true, .non, .ref aP6, .ref aP7, .str "1", .str ""] ++ (List.replicate (m : Int).toNat [V.str "endless"]).flatten)) = P12 at sP12 eP12 rP12 ⊢
  have SP12 := SP11.trans sP12
  have eP1 := sP12 _ _ eP1
  have eP2 := sP12 _ _ eP2
  have eP3 := sP12 _ _ eP3
  have eP4 := sP12 _ _ eP4
  have eP5 := sP12 _ _ eP5
  have eP6 := sP12 _ _ eP6
  have eP7 := sP12 _ _ eP7
  have eP8 := sP12 _ _ eP8
  have eP9 := sP12 _ _ eP9
  have eP10 := sP12 _ _ eP10
  have eP11 := sP12 _ _ eP11
  refine ⟨s, _, _, rfl, rP12, SqL.of eP12, nP12, (by simp), by rw [List.length_append]; show 12 + _ ≤ 1000; omega, fun v H2 hv src2 k2 => ?_⟩
  have kk : Kept s H H2 := (Kept.of SP12).trans k2
  rcases List.mem_append.mp hv with hv | hv
  · have na : NoAmt K H2 v ∧ NoEnd K H2 v := by
      simp only [List.mem_cons, List.not_mem_nil, or_false] at hv
      rcases hv with rfl | rfl | rfl | rfl | rfl | rfl | rfl | rfl | rfl | rfl | rfl | rfl
      · exact ⟨(.gcd (n := 2) (m := 2) (SqT.of (k2 _ _ nP1 eP1)) (Nat.lt_of_lt_of_le (by decide : 2 < 2 ^ 4) (Nat.pow_le_pow_right (by decide) (by decide))) (by decide) (Nat.lt_of_lt_of_le (by decide : 2 < 2 ^ 4) (Nat.pow_le_pow_right (by decide) (by decide))) (by decide)), (.inl ⟨_, (.base (.tup (k2 _ _ nP1 eP1))), (by decide +kernel)⟩)⟩
      · exact ⟨(.neg (SqT.of (k2 _ _ nP2 eP2)) (by decide)), (.inl ⟨_, (.base (.tup (k2 _ _ nP2 eP2))), (by decide +kernel)⟩)⟩
      · exact ⟨(.neg (SqT.of (k2 _ _ nP3 eP3)) (by decide)), (.inl ⟨_, (.base (.tup (k2 _ _ nP3 eP3))), (by decide +kernel)⟩)⟩
      · exact ⟨(.len (SqT.of (k2 _ _ nP4 eP4)) (by decide)), (.inl ⟨_, (.base (.tup (k2 _ _ nP4 eP4))), (by decide +kernel)⟩)⟩
      · exact ⟨(.ty (.base (.lst (k2 _ _ nP5 eP5))) (by decide +kernel)), (.inl ⟨_, (.base (.lst (k2 _ _ nP5 eP5))), (by decide +kernel)⟩)⟩
      · exact ⟨(.ty (.base (.int _)) (by decide +kernel)), (.inl ⟨_, (.base (.int _)), (by decide +kernel)⟩)⟩
      · exact ⟨(.ty (.base (.bl _)) (by decide +kernel)), (.inl ⟨_, (.base (.bl _)), (by decide +kernel)⟩)⟩
      · exact ⟨(.ty (.base .non) (by decide +kernel)), (.inl ⟨_, (.base .non), (by decide +kernel)⟩)⟩
      · exact ⟨(.top (SqT.of (k2 _ _ nP6 eP6)) (.bl _)), (.inl ⟨_, (.base (.tup (k2 _ _ nP6 eP6))), (by decide +kernel)⟩)⟩
      · exact ⟨(.gcd (n := 0) (m := 2) (SqT.of (k2 _ _ nP7 eP7)) (Nat.lt_of_lt_of_le (by decide : 0 < 2 ^ 4) (Nat.pow_le_pow_right (by decide) (by decide))) (by decide) (Nat.lt_of_lt_of_le (by decide : 2 < 2 ^ 4) (Nat.pow_le_pow_right (by decide) (by decide))) (by decide)), (.inl ⟨_, (.base (.tup (k2 _ _ nP7 eP7))), (by decide +kernel)⟩)⟩
      · exact ⟨(.ty (.base (.str _)) (by decide +kernel)), (.inr ⟨_, rfl, by decide +kernel⟩)⟩
      · exact ⟨(.ty (.base (.str _)) (by decide +kernel)), (.inr ⟨_, rfl, by decide +kernel⟩)⟩
    rcases hmx with ⟨_, hx⟩ | ⟨_, hx⟩
    · exact q _ _ (.amt hx na.1) src2 kk
    · exact q _ _ (.lim hx na.2 na.1) src2 kk
  · rcases hmx with ⟨rfl, hx⟩ | ⟨rfl, _⟩
    · cases List.mem_singleton.mp hv
      exact q _ _ (.amt hx (.ty (.base (.str _)) (by decide +kernel))) src2 kk
    · cases hv
end
end Bd
end

section
namespace Bd
open PySem L2
abbrev sRef : Stmt := (top 54)
theorem scRef : FnScope ["_law_source_here", "_law_tree", "_law_one_here", "_law_bad", "_law_odd", "_law_word", "_law_wrong"] ["_law_source_here", "_law_tree", "_law_one_here"] (defScope sRef) := ⟨rfl, rfl, rfl, by decide +kernel, rfl, by decide +kernel, by decide +kernel⟩

theorem ext_t {K : PySem.W.Frag} {H H' : Hp} (e : LamX.ExtN H H') {a : Addr} {xs : List V} (h : SqT K H a xs) : SqT K H' a xs := by
  rcases h with (h | ⟨o, h⟩) | h
  · exact .inl (.inl (e _ _ h fun ps z => by cases z))
  · exact .inl (.inr ⟨o, e _ _ h fun ps z => by cases z⟩)
  · exact .inr h
theorem noInt_ext {K : PySem.W.Frag} {H H' : Hp} (e : LamX.ExtN H H') {v : V} (h : NoInt K H v) : NoInt K H' v := by
  cases h with
  | bl b => exact .bl b
  | ty h k => exact .ty (ty_ext e h) k
theorem noAmt_ext {K : PySem.W.Frag} {H H' : Hp} (e : LamX.ExtN H H') {v : V} (h : NoAmt K H v) : NoAmt K H' v := by
  cases h with
  | ty h k => exact .ty (ty_ext e h) k
  | len h k => exact .len (ext_t e h) k
  | top h k => exact .top (ext_t e h) (noInt_ext e k)
  | bot h k => exact .bot (ext_t e h) (noInt_ext e k)
  | neg h k => exact .neg (ext_t e h) k
  | gcd h a b c d => exact .gcd (ext_t e h) a b c d
theorem rise_ext {K : PySem.W.Frag} {H H' : Hp} (e : LamX.ExtN H H') : ∀ {xs : List V} {p : Int}, BadRise K H p xs → BadRise K H' p xs
  | [], _, h => h
  | x :: r, p, h => by
    rcases h with h | h | ⟨z, h1, h2, h3, h4⟩
    · exact .inl (noInt_ext e h)
    · exact .inr (.inl h)
    · exact .inr (.inr ⟨z, h1, h2, h3, rise_ext e h4⟩)
theorem noSet_ext {K : PySem.W.Frag} {H H' : Hp} (e : LamX.ExtN H H') {v : V} (h : NoSetV K H v) : NoSetV K H' v := by
  cases h with
  | ty h k => exact .ty (ty_ext e h) k
  | bad h k => exact .bad (ext_t e h) (rise_ext e k)
theorem noEnd_ext {K : PySem.W.Frag} {H H' : Hp} (e : LamX.ExtN H H') {v : V} (h : NoEnd K H v) : NoEnd K H' v := by
  rcases h with ⟨t, h, k⟩ | h
  · exact .inl ⟨t, ty_ext e h, k⟩
  · exact .inr h
theorem badV_ext {K : PySem.W.Frag} {H H' : Hp} (e : LamX.ExtN H H') {x : Str} {v : V} (h : BadV K H x v) : BadV K H' x v := by
  cases h with
  | amt m h => exact .amt m (noAmt_ext e h)
  | lim m h k => exact .lim m (noEnd_ext e h) (noAmt_ext e k)
  | set n h => exact .set n (noSet_ext e h)
  | alone h => exact .alone (noInt_ext e h)
  | aloneI a b => exact .aloneI a b

/-- the tables of the two defs that make lambdas -/
def Tb (P1 P2 : Addr) : List (Addr × Str) := [(P1, "_law_refusals_right.<locals>.<lambda>"), (P2, "_law_turn_right.<locals>.<lambda>")]
theorem hu1 {P1 P2 : Addr} (h : P1 ≠ P2) : ∀ p ∈ Tb P1 P2, p.1 = P1 → p.2 = ("_law_refusals_right.<locals>.<lambda>" : Str) := fun p hp e => by
  rcases List.mem_cons.mp hp with rfl | hp
  · rfl
  · rw [List.mem_singleton.mp hp] at e
    exact absurd e.symm h
theorem hu2 {P1 P2 : Addr} (h : P1 ≠ P2) : ∀ p ∈ Tb P1 P2, p.1 = P2 → p.2 = ("_law_turn_right.<locals>.<lambda>" : Str) := fun p hp e => by
  rcases List.mem_cons.mp hp with rfl | hp
  · exact absurd e h
  · rw [List.mem_singleton.mp hp]
def spRef (K : PySem.W.Frag) (C : Addr) (T : List (Addr × Str)) : Sp := fun vs H Q _ => ∃ (s p : Addr) (x : Str) (rows : List RowM) (h : Bool) (tk : List (Key × V)), vs = [.ref s, .ref p, .str x] ∧ Src H s ∧ TreeAt K H C p rows h tk ∧ RowsOk rows ∧ rows.length ≤ 200 ∧ (∀ y ∈ nms rows, y ∈ menu) ∧ x ∈ nms rows ∧ LamX.Tabs T H ∧
  ∀ H', Src H' s → KN s H H' → LamX.Tabs T H' → Q (.bl true) H'
section
variable {P : Program} {w : World} {K : PySem.W.Frag} {mg : Str → Option Value} {base : Heap} {C CN CW CV CE P1 P2 : Addr} {ec : Nat → Addr}
theorem ok_ref {f fW g e i m c : Addr} {fd dW gd ed di dm : FuncData} (F : Fun K "_law_refusals_right" "_law_refusals_right" sRef f fd) (hc : fd.code = .ref c) (hne : P1 ≠ P2) (TB : LamX.TabB base mg c P1) (TCl : TC K mg C) (XS : XS mg CE ec) (e1 : ec 1 = CN) (e2 : ec 2 = CW) (e3 : ec 3 = CV) (D1 : XD K CE ec 1) (D2 : XD K CE ec 2) (D3 : XD K CE ec 3)
    (mW : Meth K C "with_due" fW) (FW : FnOk P w K mg base (L2.CX P w) 9 fW dW ["self", "name", "word", "value"] (spWD K C CN CW CV)) (bW : Binds K dW ["self", "name", "word", "value"] [])
    (FS : Fun K "_law_said" "_law_said" sSaid g gd) (cS_mg : mg "_law_said" = some (.ref g)) (cS_kp : PySem.W.keepIn K (.ref g) = true) (bS : Binds K gd ["_law_ask"] [])
    (cO : Cal P w K mg base "_law_one" ["_law_source_here", "_law_things"] 3 (spOne K) e ed) (cV : Cal P w K mg base "_law_words" [] 1 spWords i di) (cB : Cal P w K mg base "_law_bad_value" ["_law_source_here", "_law_word"] 4 (spBad K) m dm) :
    FnOk P w K mg base CX0 12 f fd ["_law_source_here", "_law_tree", "_law_one_here"] (spRef K C (Tb P1 P2)) := by
  refine fun_okC F hc scRef (fun vs H Q E h => ?_) (fun A outer s H vs Q E hr h => ?_)
  · obtain ⟨s, p, x, rows, h, tk, rfl, _⟩ := h
    rfl
  obtain ⟨s, p, x, rows, h, tk, rfl, src, ht, ok, len, hm, hx, hT, q⟩ := h
  refine ⟨_, (pss_cons (ps_set (i := 5) scRef.nd rfl (Or.inr rfl) (pe_call cO.ok (hr.mono (by decide)) rfl cO.mg cO.kp cO.bd .nil pass0 (pa_cons (pv 0) (pa_cons (pe_call0 cV.ok (hr.mono (by decide)) rfl cV.mg cV.kp cV.bd .nil pass0) pa_nil)))) (pss_cons (ps_asg (pe_tup (pa_cons (pe_call cO.ok (hr.mono (by decide)) rfl cO.mg cO.kp cO.bd .nil pass0 (pa_cons (pv 0) (pa_cons (pe_lst (pa_cons pe_non (pa_cons pe_str (pa_cons pe_str (pa_cons (pe_lst (pa_cons (pv 2) pa_nil)) (pa_cons pe_int pa_nil)))))) pa_nil))) (pa_cons (pe_call cO.ok (hr.mono (by decide)) rfl cO.mg cO.kp cO.bd .nil pass0 (pa_cons (pv 0) (pa_cons (pe_lst (pa_cons pe_non (pa_cons pe_str (pa_cons pe_str (pa_cons pe_int (pa_cons (pe_lst (pa_cons pe_str pa_nil)) pa_nil)))))) pa_nil))) pa_nil))) (pg_tup (by rfl) (pgs_cons (pg_name (i := 4) scRef.nd rfl (Or.inr rfl)) (pgs_cons (pg_name (i := 6) scRef.nd rfl (Or.inr rfl)) pgs_nil)))) (pss_cons (ps_set (i := 3) scRef.nd rfl (Or.inr rfl) (pe_call cB.ok (hr.mono (by decide)) rfl cB.mg cB.kp cB.bd .nil pass0 (pa_cons (pv 0) (pa_cons (pv 5) pa_nil)))) (pss_cons (ps_if (pt_cmpR op_ne (pe_lamcall1 (T := Tb P1 P2) (hmT := (by exact List.mem_cons.mpr (.inl rfl))) (hu := (hu1 hne)) (L := LamX.lamS_by (sc := defScope sRef) (by decide +kernel)) (t := fun E => tMeth C "with_due" (spWD K C CN CW CV) [] E (tVar 1) (tCons (tVar 4) (tCons (tVar 6) (tCons (tVar 3) tNil)))) FS XS cS_mg cS_kp bS TB hr (fun A outer s H E f c1 hr2 => (pe_meth (pv 1) TCl.cl mW FW (hr2.mono (by decide)) bW .nil (passes_call (takes_of rfl rfl rfl rfl) fun _ _ _ _ h => h) (pa_cons (pv 4) (pa_cons (pv 6) (pa_cons (pv 3) pa_nil)))))) pe_str (nomark _)) (pss_one (ps_ret pe_bl)) pss_nil) (pss_cons (ps_if (pt_cmpR op_ne (pe_lamcall1 (T := Tb P1 P2) (hmT := (by exact List.mem_cons.mpr (.inl rfl))) (hu := (hu1 hne)) (L := LamX.lamS_by (sc := defScope sRef) (by decide +kernel)) (t := fun E => tMeth C "with_due" (spWD K C CN CW CV) [] E (tVar 1) (tCons (tVar 4) (tCons (tVar 5) (tCons (tVar 3) tNil)))) FS XS cS_mg cS_kp bS TB hr (fun A outer s H E f c1 hr2 => (pe_meth (pv 1) TCl.cl mW FW (hr2.mono (by decide)) bW .nil (passes_call (takes_of rfl rfl rfl rfl) fun _ _ _ _ h => h) (pa_cons (pv 4) (pa_cons (pv 5) (pa_cons (pv 3) pa_nil)))))) pe_str (nomark _)) (pss_one (ps_ret pe_bl)) pss_nil) (pss_cons (ps_if (pt_cmpR op_ne (pe_lamcall1 (T := Tb P1 P2) (hmT := (by exact List.mem_cons.mpr (.inl rfl))) (hu := (hu1 hne)) (L := LamX.lamS_by (sc := defScope sRef) (by decide +kernel)) (t := fun E => tMeth C "with_due" (spWD K C CN CW CV) [] E (tVar 1) (tCons (tVar 2) (tCons (tVar 6) (tCons (tVar 3) tNil)))) FS XS cS_mg cS_kp bS TB hr (fun A outer s H E f c1 hr2 => (pe_meth (pv 1) TCl.cl mW FW (hr2.mono (by decide)) bW .nil (passes_call (takes_of rfl rfl rfl rfl) fun _ _ _ _ h => h) (pa_cons (pv 2) (pa_cons (pv 6) (pa_cons (pv 3) pa_nil)))))) pe_str (nomark _)) (pss_one (ps_ret pe_bl)) pss_nil) (pss_one (ps_ret (pe_cmpR op_eq (pe_lamcall1 (T := Tb P1 P2) (hmT := (by exact List.mem_cons.mpr (.inl rfl))) (hu := (hu1 hne)) (L := LamX.lamS_by (sc := defScope sRef) (by decide +kernel)) (t := fun E => tMeth C "with_due" (spWD K C CN CW CV) [] E (tVar 1) (tCons (tVar 2) (tCons (tVar 5) (tCons (tVar 3) tNil)))) FS XS cS_mg cS_kp bS TB hr (fun A outer s H E f c1 hr2 => (pe_meth (pv 1) TCl.cl mW FW (hr2.mono (by decide)) bW .nil (passes_call (takes_of rfl rfl rfl rfl) fun _ _ _ _ h => h) (pa_cons (pv 2) (pa_cons (pv 5) (pa_cons (pv 3) pa_nil)))))) pe_str (nomark _)))))))))), ?_⟩
  subst e1 e2 e3
  have nd := nms_nd ok
  -- the word
  refine ⟨_, rfl, rfl, fun wl hwl => ?_⟩
  have sa : Same H (upd H wl (.lst (leftW.map V.str))) := Same.new (Same.refl _) hwl _
  have ea : upd H wl (.lst (leftW.map V.str)) wl = some (.lst (leftW.map V.str)) := upd_same
  have ra := src_new (o := .lst (leftW.map V.str)) src hwl
  have na := (src_ne src hwl).symm
  generalize upd H wl (.lst (leftW.map V.str)) = Ha at sa ea ra ⊢
  refine ⟨s, wl, _, rfl, ra, SqL.of ea, na, (by decide), by decide, fun v0 H1 hv0 src1 k1 => ?_⟩
  obtain ⟨wd, hwd, rfl⟩ := List.mem_map.mp hv0
  have K1 : KN s H H1 := (KN.same sa).trans (KN.of k1)
  have T1 := tabs_kept ra (tabs_same hT sa) k1
  -- what is no name
  refine ⟨_, rfl, _, rfl, by show 1 ≤ sizeLine; decide, fun a1 h1 => ?_⟩
  have sb : Same H1 (upd H1 a1 (.lst [.str x])) := Same.new (Same.refl _) h1 _
  have eb : upd H1 a1 (.lst [.str x]) a1 = some (.lst [.str x]) := upd_same
  have rb := src_new (o := .lst [.str x]) src1 h1
  have nb := (src_ne src1 h1).symm
  generalize upd H1 a1 (.lst [.str x]) = Hb at sb eb rb ⊢
  refine ⟨by show 5 ≤ sizeLine; decide, fun l1 hl1 => ?_⟩
  have sc : Same Hb (upd Hb l1 (.lst [.non, .str "", .str "q", .ref a1, .int 5])) := Same.new (Same.refl _) hl1 _
  have ecl : upd Hb l1 (.lst [.non, .str "", .str "q", .ref a1, .int 5]) l1 = some (.lst [.non, .str "", .str "q", .ref a1, .int 5]) := upd_same
  have rc := src_new (o := .lst [.non, .str "", .str "q", .ref a1, .int 5]) rb hl1
  have nc := (src_ne rb hl1).symm
  generalize upd Hb l1 (.lst [.non, .str "", .str "q", .ref a1, .int 5]) = Hc at sc ecl rc ⊢
  refine ⟨s, l1, _, rfl, rc, SqL.of ecl, nc, (by simp), by show 5 ≤ 1000; decide, fun ov H2 hov src2 k2 => ?_⟩
  have f2 := k2 a1 _ nb (sc _ _ eb)
  have K2 : KN s H H2 := K1.trans ((KN.same (sb.trans sc)).trans (KN.of k2))
  have T2 := tabs_kept rc (tabs_same T1 (sb.trans sc)) k2
  -- what is no word
  refine ⟨_, rfl, by show 1 ≤ sizeLine; decide, fun b1 g1 => ?_⟩
  have sd : Same H2 (upd H2 b1 (.lst [.str "max"])) := Same.new (Same.refl _) g1 _
  have ed1 : upd H2 b1 (.lst [.str "max"]) b1 = some (.lst [.str "max"]) := upd_same
  have rd := src_new (o := .lst [.str "max"]) src2 g1
  have ndb := (src_ne src2 g1).symm
  generalize upd H2 b1 (.lst [.str "max"]) = Hd at sd ed1 rd ⊢
  refine ⟨by show 5 ≤ sizeLine; decide, fun l2 hl2 => ?_⟩
  have se : Same Hd (upd Hd l2 (.lst [.non, .str "Max", .str "", .int 5, .ref b1])) := Same.new (Same.refl _) hl2 _
  have eel : upd Hd l2 (.lst [.non, .str "Max", .str "", .int 5, .ref b1]) l2 = some (.lst [.non, .str "Max", .str "", .int 5, .ref b1]) := upd_same
  have re := src_new (o := .lst [.non, .str "Max", .str "", .int 5, .ref b1]) rd hl2
  have ne := (src_ne rd hl2).symm
  generalize upd Hd l2 (.lst [.non, .str "Max", .str "", .int 5, .ref b1]) = He at se eel re ⊢
  refine ⟨s, l2, _, rfl, re, SqL.of eel, ne, (by simp), by show 5 ≤ 1000; decide, fun wv H3 hwv src3 k3 => ?_⟩
  have f3 := k3 a1 _ nb (se _ _ (sd _ _ f2))
  have g3 := k3 b1 _ ndb (se _ _ ed1)
  have K3 : KN s H H3 := K2.trans ((KN.same (sd.trans se)).trans (KN.of k3))
  have T3 := tabs_kept re (tabs_same T2 (sd.trans se)) k3
  refine ⟨by show 2 ≤ sizeLine; decide, fun tt htt => ?_⟩
  have sf : Same H3 (upd H3 tt (.tup [ov, wv])) := Same.new (Same.refl _) htt _
  have ef : upd H3 tt (.tup [ov, wv]) tt = some (.tup [ov, wv]) := upd_same
  have rf := src_new (o := .tup [ov, wv]) src3 htt
  generalize upd H3 tt (.tup [ov, wv]) = Hf at sf ef rf ⊢
  refine ⟨tt, _, rfl, SqT.of ef, rfl, ?_⟩
  refine ⟨_, _, rfl, _, _, rfl, rfl, ?_⟩
  refine ⟨_, rfl, _, rfl, s, wd, rfl, hwd, rf, fun bv H4 hbad src4 k4 => ?_⟩
  have f4 := k4 a1 _ nb (sf _ _ f3)
  have g4 := k4 b1 _ ndb (sf _ _ g3)
  have kA : KN s H H4 := K3.trans ((KN.same sf).trans (KN.of k4))
  have hT4 := tabs_kept rf (tabs_same T3 sf) k4
  have ht4 := ht.kn src kA ok
  have oV : OddN K H4 (nms rows) ov := by
    simp only [List.mem_cons, List.not_mem_nil, or_false] at hov
    rcases hov with rfl | rfl | rfl | rfl | rfl
    · exact .inl ⟨_, .base .non, by decide +kernel⟩
    · exact .inr ⟨_, rfl, nms_ne ok⟩
    · exact .inr ⟨_, rfl, fun z => absurd (hm _ z) (by decide +kernel)⟩
    · exact .inl ⟨_, .base (.lst f4), by decide +kernel⟩
    · exact .inl ⟨_, .base (.int _), by decide +kernel⟩
  have oW : OddN K H4 leftW wv := by
    simp only [List.mem_cons, List.not_mem_nil, or_false] at hwv
    rcases hwv with rfl | rfl | rfl | rfl | rfl
    · exact .inl ⟨_, .base .non, by decide +kernel⟩
    · exact .inr ⟨_, rfl, by decide +kernel⟩
    · exact .inr ⟨_, rfl, by decide +kernel⟩
    · exact .inl ⟨_, .base (.int _), by decide +kernel⟩
    · exact .inl ⟨_, .base (.lst g4), by decide +kernel⟩
  obtain ⟨r, hr1, er⟩ := List.mem_map.mp hx
  obtain ⟨dx, po, pp, pk, pt, o1, _⟩ := id ht4
  have z0 : LamX.ExtN H4 H4 := LamX.ExtN.refl _
  have U0 := hT4
  refine ⟨U0, fun G1 x1 V1 => ⟨_, rfl, p, dx, _, rfl, (z0.trans x1) _ _ o1 (fun ps z => by cases z), by rfl, _, rfl, _, rfl, _, rfl, p, _, _, _, rows, h, tk, rfl, ht4.ext (z0.trans x1) ok, ok, len, .inr ⟨odd_ext (z0.trans x1) oV, 1, "name", rfl, rfl, by decide, by decide, D1, rfl, fun K1 y1 => ⟨rfl, false, congrArg V.bl (by rw [decide_eq_true rfl]; rfl), iteF ?_⟩⟩⟩⟩
  have z1 := (z0.trans x1).trans (LamX.ExtN.of y1)
  have U1 := tabs_same V1 y1
  refine ⟨U1, fun G2 x2 V2 => ⟨_, rfl, p, dx, _, rfl, (z1.trans x2) _ _ o1 (fun ps z => by cases z), by rfl, _, rfl, _, rfl, _, rfl, p, _, _, _, rows, h, tk, rfl, ht4.ext (z1.trans x2) ok, ok, len, .inr ⟨odd_ext (z1.trans x2) oV, 1, "name", rfl, rfl, by decide, by decide, D1, rfl, fun K2 y2 => ⟨rfl, false, congrArg V.bl (by rw [decide_eq_true rfl]; rfl), iteF ?_⟩⟩⟩⟩
  have z2 := (z1.trans x2).trans (LamX.ExtN.of y2)
  have U2 := tabs_same V2 y2
  refine ⟨U2, fun G3 x3 V3 => ⟨_, rfl, p, dx, _, rfl, (z2.trans x3) _ _ o1 (fun ps z => by cases z), by rfl, _, rfl, _, rfl, _, rfl, p, _, _, _, rows, h, tk, rfl, ht4.ext (z2.trans x3) ok, ok, len, .inl ⟨r, hr1, by rw [er], .inr ⟨odd_ext (z2.trans x3) oW, 2, "word", rfl, rfl, by decide, by decide, D2, rfl, fun K3 y3 => ⟨rfl, false, congrArg V.bl (by rw [decide_eq_true rfl]; rfl), iteF ?_⟩⟩⟩⟩⟩
  have z3 := (z2.trans x3).trans (LamX.ExtN.of y3)
  have U3 := tabs_same V3 y3
  refine ⟨U3, fun G4 x4 V4 => ⟨_, rfl, p, dx, _, rfl, (z3.trans x4) _ _ o1 (fun ps z => by cases z), by rfl, _, rfl, _, rfl, _, rfl, p, _, _, _, rows, h, tk, rfl, ht4.ext (z3.trans x4) ok, ok, len, .inl ⟨r, hr1, by rw [er], .inl ⟨wd, hwd, rfl, .inr (.inl ⟨badV_ext (z3.trans x4) hbad, fun H5 sH5 => ⟨3, "due", rfl, rfl, by decide, by decide, D3, rfl, fun K4 y4 => ⟨rfl, ?_⟩⟩⟩)⟩⟩⟩⟩
  have z4 := (z3.trans x4).trans (LamX.ExtN.of (sH5.trans y4))
  show Q (.bl (decide (V.str "due" = V.str "due"))) K4
  rw [decide_eq_true rfl]
  exact q K4 (src_ext z4 src4) (kA.trans (KN.ext z4)) (tabs_same V4 (sH5.trans y4))
end
end Bd
end

section
namespace Bd
open PySem L2
abbrev sTurn : Stmt := (top 55)
theorem scTurn : FnScope ["_law_source_here", "_law_tree", "_law_lines", "_law_flag", "_law_is_end", "_law_other", "_law_more", "_law_is_right", "_law_is_back", "_law_one_here", "_law_value_here", "_law_word"] ["_law_source_here", "_law_tree", "_law_lines", "_law_flag"] (defScope sTurn) := ⟨rfl, rfl, rfl, by decide +kernel, rfl, by decide +kernel, by decide +kernel⟩

def spTurn (K : PySem.W.Frag) (C : Addr) (T : List (Addr × Str)) : Sp := fun vs H Q _ => ∃ (s p lp : Addr) (xs : List V) (rows : List RowM) (h : Bool) (tk : List (Key × V)), vs = [.ref s, .ref p, .ref lp, .bl h] ∧ Src H s ∧ TreeAt K H C p rows h tk ∧ RowsOk rows ∧ rows.length ≤ 12 ∧ rows ≠ [] ∧
  H lp = some (.lst xs) ∧ lp ≠ s ∧ Paired (RowAt K H) xs rows ∧ LamX.Tabs T H ∧
  ∀ t H' p' lp' xs' rows' tk', SqT K H' t [.bl true, .ref p', .ref lp'] → TreeAt K H' C p' rows' h tk' → RowsOk rows' → nms rows' = nms rows → H' lp' = some (.lst xs') → lp' ≠ s → Paired (RowAt K H') xs' rows' → Src H' s → KN s H H' → LamX.Tabs T H' → Q (.ref t) H'
theorem teq_true {K : PySem.W.Frag} {G : Hp} {C p p' : Addr} {a b : List RowM} {h : Bool} {tk tk' : List (Key × V)} {Q : VK} {E : XK} (t1 : TreeAt K G C p a h tk) (t2 : TreeAt K G C p' b h tk') (oka : RowsOk a) (okb : RowsOk b) (fe : FEq a b) (q : Q (.bl true) G) : spTEq K C [.ref p, .ref p'] G Q E :=
  ⟨p, _, a, h, tk, rfl, t1, oka, .inr ⟨p', b, h, tk', rfl, t2, okb, fe.share _ _, by rw [fe.eq oka]; exact q⟩⟩
theorem left_has {w : Str} (h : w ∈ leftW) : ∃ d, dueOf leftD w = some d := by
  unfold leftW at h
  simp only [List.mem_cons, List.not_mem_nil, or_false] at h
  rcases h with rfl | rfl | rfl | rfl | rfl | rfl | rfl | rfl <;> exact ⟨_, rfl⟩
theorem due_setD {w : Str} (h : w ∈ leftW) (dues : List (Str × PyData)) (d : PyData) : dueOf (fullD (setD dues w d)) w = some d := by
  obtain ⟨d0, e⟩ := left_has h
  rw [full_due _ e, dueOf_setD, if_pos rfl]
  rfl
theorem mem_chg {rows : List RowM} {r : RowM} (h : r ∈ rows) (w : Str) (d : PyData) : (⟨r.name, r.above, setD r.dues w d⟩ : RowM) ∈ chg rows r.name w d := List.mem_map.mpr ⟨r, h, if_pos rfl⟩
/-- the tops of a group with children -/
theorem tops_old {rows : List RowM} {r : RowM} {old : PyData} (ok : RowsOk rows) (hr : r ∈ rows) (ho : dueOf (fullD r.dues) "tops" = some old) : old = .str "endless" ∨ ∀ q ∈ rows, q.above ≠ r.name := by
  cases e : rows.any fun q => decide (q.above = r.name) with
  | false =>
    refine .inr fun q hq z => ?_
    have := List.any_eq_false.mp e q hq
    exact this (decide_eq_true z)
  | true =>
    obtain ⟨q, hq, z⟩ := List.any_eq_true.mp e
    have z : q.above = r.name := by simpa using z
    obtain ⟨i, hi⟩ := List.mem_iff_getElem?.mp hq
    rcases (ok i q hi).2.2.2 with y | ⟨q', hq', y, hd⟩
    · exact absurd (List.mem_map.mpr ⟨r, hr, (z.symm.trans y)⟩) (nms_ne ok)
    · obtain rfl : q' = r := nd_same (nms_nd ok) (List.mem_of_mem_take hq') hr (y.trans z)
      rw [ho] at hd
      exact .inl (Option.some.inj hd)
section
variable {P : Program} {w : World} {K : PySem.W.Frag} {mg : Str → Option Value} {base : Heap} {C CN CW CV CE P1 P2 : Addr} {ec : Nat → Addr}
theorem ok_turn {f fW fD fE i g e a1 a2 a3 a4 c : Addr} {fd dW dD dE di gd ed d1 d2 d3 d4 : FuncData} (F : Fun K "_law_turn_right" "_law_turn_right" sTurn f fd) (hc : fd.code = .ref c) (hne : P1 ≠ P2) (TB : LamX.TabB base mg c P2) (TCl : TC K mg C) (XS : XS mg CE ec) (e1 : ec 1 = CN) (e2 : ec 2 = CW) (e3 : ec 3 = CV) (D3 : XD K CE ec 3)
    (mW : Meth K C "with_due" fW) (FW : FnOk P w K mg base (L2.CX P w) 9 fW dW ["self", "name", "word", "value"] (spWD K C CN CW CV)) (bW : Binds K dW ["self", "name", "word", "value"] [])
    (mD : Meth K C "due" fD) (FD : FnOk P w K mg base (L2.CX P w) 2 fD dD ["self", "name", "word"] (spTDue K C CN CW)) (bD : Binds K dD ["self", "name", "word"] [])
    (OC : OwnCmp K C fE) (FE : FnOk P w K mg base CX0 1 fE dE ["self", "other"] (spTEq K C)) (bE : Binds K dE ["self", "other"] [])
    (M : Mk K C i) (FI : FnOk P w K mg base CX0 7 i di ["self", "rows", "handing"] (spInit K C)) (bI : Binds K di ["self", "rows", "handing"] [])
    (FS : Fun K "_law_said" "_law_said" sSaid g gd) (cS_mg : mg "_law_said" = some (.ref g)) (cS_kp : PySem.W.keepIn K (.ref g) = true) (bS : Binds K gd ["_law_ask"] [])
    (cO : Cal P w K mg base "_law_one" ["_law_source_here", "_law_things"] 3 (spOne K) e ed) (cV : Cal P w K mg base "_law_words" [] 1 spWords a1 d1) (cU : Cal P w K mg base "_law_value" ["_law_source_here", "_law_word"] 4 (spValue K) a2 d2)
    (cL : Cal P w K mg base "_law_leaves" ["_law_rows_here"] 1 (spLeaves K) a3 d3) (cX : Cal P w K mg base "_law_with" ["_law_lines", "_law_one_here", "_law_word", "_law_value_here"] 1 (spWith K) a4 d4) :
    FnOk P w K mg base CX0 12 f fd ["_law_source_here", "_law_tree", "_law_lines", "_law_flag"] (spTurn K C (Tb P1 P2)) := by
  refine fun_okC F hc scTurn (fun vs H Q E h => ?_) (fun A outer s H vs Q E hr h => ?_)
  · obtain ⟨s, p, lp, xs, rows, h, tk, rfl, _⟩ := h
    rfl
  obtain ⟨s, p, lp, xs, rows, h, tk, rfl, src, ht, ok, len, rne, el, nlp, hrows, hT, q⟩ := h
  refine ⟨_, (pss_cons (ps_asg (pe_tup (pa_cons (pe_ix ix_tup (pe_call cO.ok (hr.mono (by decide)) rfl cO.mg cO.kp cO.bd .nil pass0 (pa_cons (pv 0) (pa_cons (pv 2) pa_nil))) pe_int (fun _ _ => rfl)) (pa_cons (pe_call cO.ok (hr.mono (by decide)) rfl cO.mg cO.kp cO.bd .nil pass0 (pa_cons (pv 0) (pa_cons (pe_call0 cV.ok (hr.mono (by decide)) rfl cV.mg cV.kp cV.bd .nil pass0) pa_nil))) pa_nil))) (pg_tup (by rfl) (pgs_cons (pg_name (i := 9) scTurn.nd rfl (Or.inr rfl)) (pgs_cons (pg_name (i := 11) scTurn.nd rfl (Or.inr rfl)) pgs_nil)))) (pss_cons (ps_asg (pe_tup (pa_cons (pe_call cU.ok (hr.mono (by decide)) rfl cU.mg cU.kp cU.bd .nil pass0 (pa_cons (pv 0) (pa_cons (pv 11) pa_nil))) (pa_cons (pe_cmpR op_in_seq (pv 9) (pe_call cL.ok (hr.mono (by decide)) rfl cL.mg cL.kp cL.bd .nil pass0 (pa_cons (pv 2) pa_nil)) (by first | exact nomark _ | rfl)) pa_nil))) (pg_tup (by rfl) (pgs_cons (pg_name (i := 10) scTurn.nd rfl (Or.inr rfl)) (pgs_cons (pg_name (i := 4) scTurn.nd rfl (Or.inl rfl)) pgs_nil)))) (C8.pss_cut (ps_if (PW.pt (pw_and (pt_cmpR op_eq (pv 11) pe_str (nomark _)) (pw_and (pt_cmpR (op_neD hr.units) (pv 10) pe_str (nomark _)) (pw_and1 (pt_not (pt_val (pv 4))))))) (pss_one (ps_ret (pe_tup (pa_cons (pe_cmpR op_eq (pe_lamcall1 (T := Tb P1 P2) (hmT := (by exact List.mem_cons_of_mem _ (List.mem_singleton.mpr rfl))) (hu := (hu2 hne)) (L := LamX.lamS_by (sc := defScope sTurn) (by decide +kernel)) (t := fun E => tMeth C "with_due" (spWD K C CN CW CV) [] E (tVar 1) (tCons (tVar 9) (tCons (tVar 11) (tCons (tVar 10) tNil)))) FS XS cS_mg cS_kp bS TB hr (fun A outer s H E f c1 hr2 => (pe_meth (pv 1) TCl.cl mW FW (hr2.mono (by decide)) bW .nil (passes_call (takes_of rfl rfl rfl rfl) fun _ _ _ _ h => h) (pa_cons (pv 9) (pa_cons (pv 11) (pa_cons (pv 10) pa_nil)))))) pe_str (nomark _)) (pa_cons (pv 1) (pa_cons (pv 2) pa_nil)))))) pss_nil) (pss_cons (ps_par (i := 5) (j := 6) (by rfl) scTurn.nd rfl rfl (by decide) rfl rfl (pa_cons (pe_meth (pv 1) TCl.cl mW FW (hr.mono (by decide)) bW .nil passL (pa_cons (pv 9) (pa_cons (pv 11) (pa_cons (pv 10) pa_nil)))) (pa_cons (pe_call cX.ok (hr.mono (by decide)) rfl cX.mg cX.kp cX.bd .nil pass0 (pa_cons (pv 2) (pa_cons (pv 9) (pa_cons (pv 11) (pa_cons (pv 10) pa_nil))))) pa_nil)) (by rfl)) (pss_cons (ps_set (i := 7) scTurn.nd rfl (Or.inl rfl) (pe_and (pe_cmpR (op_eqL OC FE bE (hr.mono (by decide)) pass0) (pv 5) (pe_make M FI (hr.mono (by decide)) rfl TCl.g_Tree bI .nil pass0 (pa_cons (pv 6) (pa_cons (pv 3) pa_nil))) (nomark _)) (pe_and (pe_cmpR (op_eqL OC FE bE (hr.mono (by decide)) pass0) (pv 1) (pe_make M FI (hr.mono (by decide)) rfl TCl.g_Tree bI .nil pass0 (pa_cons (pv 2) (pa_cons (pv 3) pa_nil))) (nomark _)) (pe_one (pe_cmpR (op_eqD hr.units) (pe_meth (pv 5) TCl.cl mD FD (hr.mono (by decide)) bD .nil passL (pa_cons (pv 9) (pa_cons (pv 11) pa_nil))) (pv 10) (nomark _)))))) (C8.pss_cut (ps_if (pt_cmpR (op_neD hr.units) (pe_meth (pv 1) TCl.cl mD FD (hr.mono (by decide)) bD .nil passL (pa_cons (pv 9) (pa_cons (pv 11) pa_nil))) (pv 10) (nomark _)) (pss_one (ps_set (i := 7) scTurn.nd rfl (Or.inl rfl) (pe_and (pv 7) (pe_one (pe_cmpR (op_neL OC FE bE (hr.mono (by decide)) pass0) (pv 1) (pv 5) (nomark _)))))) pss_nil) (pss_cons (ps_set (i := 8) scTurn.nd rfl (Or.inl rfl) (pe_cmpR (op_eqL OC FE bE (hr.mono (by decide)) pass0) (pe_meth (pv 5) TCl.cl mW FW (hr.mono (by decide)) bW .nil passL (pa_cons (pv 9) (pa_cons (pv 11) (pa_cons (pe_meth (pv 1) TCl.cl mD FD (hr.mono (by decide)) bD .nil passL (pa_cons (pv 9) (pa_cons (pv 11) pa_nil))) pa_nil)))) (pv 1) (nomark _))) (pss_one (ps_ret (pe_tup (pa_cons (pe_and (pv 7) (pe_one (pv 8))) (pa_cons (pv 5) (pa_cons (pv 6) pa_nil))))))))))))), ?_⟩
  subst e1 e2 e3
  have nd := nms_nd ok
  have xl : xs.length = rows.length := Paired.length hrows
  have xne : xs ≠ [] := fun z => rne (by
    rw [z] at xl
    cases rows with
    | nil => rfl
    | cons a b => cases xl)
  -- a group and a word
  refine ⟨_, rfl, _, rfl, s, lp, xs, rfl, src, SqL.of el, nlp, xne, by omega, fun v H1 hv src1 k1 => ?_⟩
  have tk1 : TK H H1 := KN.tk src (KN.of k1)
  have hrows1 : Paired (RowAt K H1) xs rows := paired_monoM (fun v q hq z => tk1.row (rows_due ok q hq) z) hrows
  obtain ⟨r, hr1, hrow⟩ := paired_mem hrows1 v hv
  obtain ⟨ra, t0, rfl, hra, _⟩ := id hrow
  refine ⟨ra, _, _, _, rfl, rfl, hra, rfl, ?_⟩
  refine ⟨_, rfl, rfl, fun wl hwl => ?_⟩
  have sa : Same H1 (upd H1 wl (.lst (leftW.map V.str))) := Same.new (Same.refl _) hwl _
  have ea : upd H1 wl (.lst (leftW.map V.str)) wl = some (.lst (leftW.map V.str)) := upd_same
  have ra1 := src_new (o := .lst (leftW.map V.str)) src1 hwl
  have na := (src_ne src1 hwl).symm
  generalize upd H1 wl (.lst (leftW.map V.str)) = Ha at sa ea ra1 ⊢
  refine ⟨s, wl, _, rfl, ra1, SqL.of ea, na, (by decide), by decide, fun v0 H2 hv0 src2 k2 => ?_⟩
  obtain ⟨wd, hwd, rfl⟩ := List.mem_map.mp hv0
  have K2 : KN s H H2 := ((KN.of k1).trans (KN.same sa)).trans (KN.of k2)
  have T2 := tabs_kept ra1 (tabs_same (tabs_kept src hT k1) sa) k2
  refine ⟨by show 2 ≤ sizeLine; decide, fun tt htt => ?_⟩
  have sb : Same H2 (upd H2 tt (.tup [.str r.name, .str wd])) := Same.new (Same.refl _) htt _
  have eb : upd H2 tt (.tup [.str r.name, .str wd]) tt = some (.tup [.str r.name, .str wd]) := upd_same
  have rb := src_new (o := .tup [.str r.name, .str wd]) src2 htt
  generalize upd H2 tt (.tup [.str r.name, .str wd]) = Hb at sb eb rb ⊢
  refine ⟨tt, _, rfl, SqT.of eb, rfl, ?_⟩
  refine ⟨_, _, rfl, _, _, rfl, rfl, ?_⟩
  -- a value
  refine ⟨_, rfl, _, rfl, s, wd, rfl, rb, hwd, fun dv d H3 hval _ hd3 src3 k3 => ?_⟩
  have K3 : KN s H H3 := (K2.trans (KN.same sb)).trans (KN.of k3)
  have T3 := tabs_kept rb (tabs_same T2 sb) k3
  have tk3 : TK H H3 := KN.tk src K3
  have hrows3 : Paired (RowAt K H3) xs rows := paired_monoM (fun v q hq z => tk3.row (rows_due ok q hq) z) hrows
  have el3 : H3 lp = some (.lst xs) := K3 _ _ nlp el (fun ps z => by cases z)
  refine ⟨_, rfl, _, rfl, lp, xs, rows, rfl, el3, hrows3, by omega, fun le H4 ls hle s4 ele els => ?_⟩
  have hIn : (if (false : Bool) = true then !inV (V.str r.name) (ls.map V.str) else inV (V.str r.name) (ls.map V.str)) = decide (r.name ∈ leavesOf rows) := by
    rw [if_neg (by decide), els]
    unfold inV
    rw [List.any_map]
    by_cases c : r.name ∈ leavesOf rows
    · rw [decide_eq_true c]
      exact List.any_eq_true.mpr ⟨r.name, c, beq_self_eq_true _⟩
    · rw [decide_eq_false c]
      refine List.any_eq_false.mpr fun y hy z => c ?_
      have z : (y == r.name) = true := z
      rw [← eq_of_beq z]
      exact hy
  refine ⟨le, ls.map V.str, rfl, .inl (SqL.of ele), rfl, ?_, ?_⟩
  · rw [List.all_map]
    exact List.all_eq_true.mpr fun _ _ => rfl
  rw [hIn]
  refine ⟨by show 2 ≤ sizeLine; decide, fun t2 ht2 => ?_⟩
  have sc : Same H4 (upd H4 t2 (.tup [dv, .bl (decide (r.name ∈ leavesOf rows))])) := Same.new (Same.refl _) ht2 _
  have ec2 : upd H4 t2 (.tup [dv, .bl (decide (r.name ∈ leavesOf rows))]) t2 = some (.tup [dv, .bl (decide (r.name ∈ leavesOf rows))]) := upd_same
  generalize upd H4 t2 (.tup [dv, .bl (decide (r.name ∈ leavesOf rows))]) = H5 at sc ec2 ⊢
  have s35 := s4.trans sc
  have src5 : Src H5 s := let ⟨a, b, c, e⟩ := src3; ⟨a, b, c, s35 _ _ e⟩
  have K5 : KN s H H5 := K3.trans (KN.same s35)
  have T5 := tabs_same T3 s35
  have el5 := s35 _ _ el3
  have hrows5 := rows_same s35 hrows3
  have hd5 := dp_same s35 _ _ hd3
  have ht5 := ht.kn src K5 ok
  refine ⟨t2, _, rfl, SqT.of ec2, rfl, ?_⟩
  refine ⟨_, _, rfl, _, _, rfl, rfl, ?_⟩
  obtain ⟨dx, po, pp, pk, pt, o1, _⟩ := id ht5
  have kid_of : r.name ∉ leavesOf rows → ∃ q ∈ rows, q.above = r.name := fun n => by
    cases e : rows.any fun q => decide (q.above = r.name) with
    | true =>
      obtain ⟨q, hq, z⟩ := List.any_eq_true.mp e
      exact ⟨q, hq, by simpa using z⟩
    | false =>
      exfalso
      refine n (List.mem_map.mpr ⟨r, List.mem_filter.mpr ⟨hr1, ?_⟩, rfl⟩)
      unfold leafB
      rw [e]
      rfl
  have no_kids : r.name ∈ leavesOf rows → ∀ q ∈ rows, q.above ≠ r.name := fun n q hq z => by
    obtain ⟨r', hr', e⟩ := List.mem_map.mp n
    have lb := (List.mem_filter.mp hr').2
    unfold leafB at lb
    rw [List.any_eq_true.mpr ⟨q, hq, decide_eq_true (z.trans e.symm)⟩] at lb
    cases lb
  refine ⟨fun σ G => σ = [some (.ref s), some (.ref p), some (.ref lp), some (.bl h), some (.bl (decide (r.name ∈ leavesOf rows))), none, none, none, none, some (.str r.name), some dv, some (.str wd)] ∧ G = H5 ∧ (wd = "tops" → d = .str "endless" ∨ ∀ q ∈ rows, q.above ≠ r.name), ?_, ?_⟩
  · refine ⟨_, rfl, rfl, ?_⟩
    by_cases c : wd = "tops"
    · subst c
      refine ⟨true, congrArg V.bl (decide_eq_true rfl), iteT ?_⟩
      refine ⟨_, rfl, d, .str "endless", hd5, .str _, shaped_val hval, by decide +kernel, ?_⟩
      cases hval with
      | @amt _ n m hm h1 h2 h3 h4 =>
        refine ⟨true, congrArg V.bl (by rfl), iteT ?_⟩
        refine ⟨_, rfl, _, rfl, ?_⟩
        by_cases lf : r.name ∈ leavesOf rows
        · rw [decide_eq_true lf]
          exact iteF ⟨rfl, rfl, fun _ => .inr (no_kids lf)⟩
        · rw [decide_eq_false lf]
          refine iteT ?_
          refine ⟨T5, fun G1 x1 V1 => ⟨_, rfl, p, dx, _, rfl, x1 _ _ o1 (fun ps z => by cases z), by rfl, _, rfl, _, rfl, _, rfl, p, _, _, _, rows, h, tk, rfl, ht5.ext x1 ok, ok, by omega, .inl ⟨r, hr1, rfl, .inl ⟨"tops", hwd, rfl, .inr (.inr ⟨rfl, kid_of lf, ⟨n, m, dp_ext x1 _ _ hd5, .amt hm h1 h2 h3 h4⟩, fun H6 s6 => ⟨3, "due", rfl, rfl, by decide, by decide, D3, rfl, fun K4 y4 => ⟨rfl, ?_⟩⟩⟩)⟩⟩⟩⟩
          rw [decide_eq_true rfl]
          refine ⟨_, rfl, _, rfl, by show 3 ≤ sizeLine; decide, fun t3 ht3 => ?_⟩
          have z4 := x1.trans (LamX.ExtN.of (s6.trans y4))
          have U4 := tabs_same V1 (s6.trans y4)
          have s9 : Same K4 (upd K4 t3 (.tup [.bl true, .ref p, .ref lp])) := Same.new (Same.refl _) ht3 _
          have z9 := z4.trans (LamX.ExtN.of s9)
          have k9 := K5.trans (KN.ext z9)
          have tk9 : TK H _ := KN.tk src k9
          exact q t3 _ p lp xs rows tk (SqT.of upd_same) (ht5.ext z9 ok) ok rfl (k9 _ _ nlp el fun ps z => by cases z) nlp (paired_monoM (fun v q hq z => tk9.row (rows_due ok q hq) z) hrows) (src_ext z9 src5) k9 (tabs_same U4 s9)
      | endl hm =>
        exact ⟨false, congrArg V.bl (by decide +kernel), iteF ⟨rfl, rfl, fun _ => .inl rfl⟩⟩
    · exact ⟨false, congrArg V.bl (decide_eq_false fun z => c (V.str.inj z)), iteF ⟨rfl, rfl, fun z => absurd z c⟩⟩
  rintro σ G ⟨rfl, rfl, htops⟩
  have okC := chg_ok ok hwd hval htops
  have lenC := chg_len rows r.name wd d
  -- the tree with the due, and its rows
  refine ⟨_, rfl, p, dx, _, rfl, o1, by rfl, _, rfl, _, rfl, _, rfl, p, _, _, _, rows, h, tk, rfl, ht5, ok, by omega, .inl ⟨r, hr1, rfl, .inl ⟨wd, hwd, rfl, .inl ⟨d, hd5, hval, htops, fun p2 H6 tk2 s6 hp2 t6 sh6 => ?_⟩⟩⟩⟩
  refine ⟨_, rfl, _, rfl, _, rfl, _, rfl, lp, xs, rows, r.name, wd, dv, d, rfl, s6 _ _ el5, rows_same s6 hrows5, ok, by omega, hwd, hval, dp_same s6 _ _ hd5, fun lm H7 ys hlm s7 elm hys => ?_⟩
  refine ⟨_, _, rfl, ?_⟩
  have t7 := t6.same s7 okC
  have h7 := (ht5.same s6 ok).same s7 ok
  obtain ⟨dx2, _, _, _, _, o2, _⟩ := id t7
  obtain ⟨dxa, _, _, _, _, o7, _⟩ := id h7
  -- is it right
  refine ⟨_, rfl, _, rfl, _, rfl, fun p3 dx3 hp3 hdx3 hn3 => ⟨H7, p3, dx3, lm, ys, _, h, rfl, mkS hp3 hdx3 hn3, hp3, upd_same, elm, hys, okC, by omega, fun H8 tk3 s8 t8 _ => ⟨rfl, ?_⟩⟩⟩
  obtain ⟨dx4, _, _, _, _, o8, _⟩ := id t8
  refine ⟨p2, dx2, _, rfl, s8 _ _ o2, .ins o8, teq_true (t7.same s8 okC) t8 okC okC (FEq.refl _) ⟨true, rfl, ?_⟩⟩
  refine ⟨true, rfl, iteT ?_⟩
  have h8 := h7.same s8 ok
  have s58 := (s6.trans s7).trans s8
  refine ⟨_, rfl, _, rfl, _, rfl, fun p5 dx5 hp5 hdx5 hn5 => ⟨H8, p5, dx5, lp, xs, _, h, rfl, mkS hp5 hdx5 hn5, hp5, upd_same, s58 _ _ el5, rows_same s58 hrows5, ok, by omega, fun H9 tk5 s9 t9 _ => ⟨rfl, ?_⟩⟩⟩
  obtain ⟨dx6, _, _, _, _, o9, _⟩ := id t9
  refine ⟨p, dxa, _, rfl, s9 _ _ (s8 _ _ o7), .ins o9, teq_true (h8.same s9 ok) t9 ok ok (FEq.refl _) ⟨true, rfl, ?_⟩⟩
  refine ⟨true, rfl, iteT ?_⟩
  have S9 := s8.trans s9
  have u9 := t7.same S9 okC
  have h9 := h7.same S9 ok
  have q2 := S9 _ _ o2
  have q7 := S9 _ _ o7
  have s59 := s58.trans s9
  have hd9 := dp_same s59 _ _ hd5
  have mC := mem_chg hr1 wd d
  have ndC := nms_nd okC
  refine ⟨_, rfl, p2, dx2, _, rfl, q2, by rfl, _, rfl, _, rfl, p2, _, _, _, h, tk2, rfl, u9, ndC, .inl ⟨_, mC, rfl, .inl ⟨wd, hwd, rfl, fun u d' hdue hdp => ?_⟩⟩⟩
  rw [due_setD hwd] at hdue
  obtain rfl := Option.some.inj hdue
  refine ⟨_, rfl, d, d, hdp, hd9, shaped_val hval, shaped_val hval, ?_⟩
  rw [(lay_val hval).2.2]
  -- another due makes another tree
  refine ⟨fun σ G => σ = [some (.ref s), some (.ref p), some (.ref lp), some (.bl h), some (.bl (decide (r.name ∈ leavesOf rows))), some (.ref p2), some (.ref lm), some (.bl true), none, some (.str r.name), some dv, some (.str wd)] ∧ G = H9, ?_, ?_⟩
  · refine ⟨_, rfl, p, dxa, _, rfl, q7, by rfl, _, rfl, _, rfl, p, _, _, _, h, tk, rfl, h9, nd, .inl ⟨r, hr1, rfl, .inl ⟨wd, hwd, rfl, fun u0 old hold hu0 => ?_⟩⟩⟩
    have hvo : ValOk wd old := fullD_ok (rows_due ok r hr1) _ (dueOf_mem hold)
    refine ⟨_, rfl, old, d, hu0, hd9, shaped_val hvo, shaped_val hval, ?_⟩
    cases eo : PyData.eqv old d with
    | true => exact ⟨false, rfl, iteF ⟨rfl, rfl⟩⟩
    | false =>
      refine ⟨true, rfl, iteT ?_⟩
      refine ⟨_, rfl, true, rfl, iteT ?_⟩
      refine ⟨_, rfl, _, rfl, p, dxa, _, rfl, q7, .ins q2, p, _, rows, h, tk, rfl, h9, ok, .inr ⟨p2, _, h, tk2, rfl, u9, okC, sh6, ?_⟩⟩
      rw [chg_ne ok hr1 hold eo]
      exact ⟨false, rfl, rfl, rfl⟩
  rintro σ G ⟨rfl, rfl⟩
  -- and back
  refine ⟨_, rfl, p2, dx2, _, rfl, q2, by rfl, _, rfl, _, rfl, _, rfl, p, dxa, _, rfl, q7, by rfl, _, rfl, _, rfl, p, _, _, _, h, tk, rfl, h9, nd, .inl ⟨r, hr1, rfl, .inl ⟨wd, hwd, rfl, fun u0 old hold hu0 => ?_⟩⟩⟩
  have hvo : ValOk wd old := fullD_ok (rows_due ok r hr1) _ (dueOf_mem hold)
  have hto : wd = "tops" → old = .str "endless" ∨ ∀ q ∈ chg rows r.name wd d, q.above ≠ r.name := fun z => by
    subst z
    rcases tops_old ok hr1 hold with y | y
    · exact .inl y
    · refine .inr fun q hq => ?_
      obtain ⟨q0, hq0, rfl⟩ := List.mem_map.mp hq
      rw [chgR_above]
      exact y q0 hq0
  refine ⟨p2, _, _, _, _, h, tk2, rfl, u9, okC, by omega, .inl ⟨_, mC, rfl, .inl ⟨wd, hwd, rfl, .inl ⟨old, hu0, hvo, hto, fun p4 H10 tk4 s10 hp4 t10 _ => ?_⟩⟩⟩⟩
  have okB := chg_ok okC hwd hvo hto
  have h10 := h9.same s10 ok
  obtain ⟨dx7, _, _, _, _, o10, _⟩ := id t10
  refine ⟨_, rfl, p4, dx7, _, rfl, o10, .ins (s10 _ _ q7), teq_true t10 h10 okB ok (chg_back ok hr1 hold) ⟨true, rfl, ?_⟩⟩
  have s5z := s59.trans s10
  have K10 := K5.trans (KN.same s5z)
  have T10 := tabs_same T5 s5z
  have u10 := u9.same s10 okC
  have e10 := s10 _ _ (S9 _ _ elm)
  have y10 := rows_same s10 (rows_same S9 hys)
  have src10 : Src H10 s := let ⟨a, b, c, e⟩ := src5; ⟨a, b, c, s5z _ _ e⟩
  have nlm : lm ≠ s := (src_ne (let ⟨a, b, c, e⟩ := src5; ⟨a, b, c, s6 _ _ e⟩) hlm).symm
  refine ⟨_, rfl, true, rfl, iteT ?_⟩
  refine ⟨_, rfl, _, rfl, _, rfl, by show 3 ≤ sizeLine; decide, fun t9 ht9 => ?_⟩
  have sz : Same H10 (upd H10 t9 (.tup [.bl true, .ref p2, .ref lm])) := Same.new (Same.refl _) ht9 _
  exact q t9 _ p2 lm ys _ tk2 (SqT.of upd_same) (u10.same sz okC) okC (chg_names rows r.name wd d) (sz _ _ e10) nlm (rows_same sz y10) (let ⟨a, b, c, e⟩ := src10; ⟨a, b, c, sz _ _ e⟩) (K10.trans (KN.same sz)) (tabs_same T10 sz)
end
end Bd
end

section
namespace Bd
open PySem L2
abbrev sLaw : Stmt := (top 56)
theorem scLaw : FnScope ["_law_script", "_law_k", "_law_source_here", "_law_lines", "_law_flag", "_law_tree", "_law_turn", "_law_is_right", "_law_first", "_law_last", "_law_turned"] ["_law_script"] (defScope sLaw) := ⟨rfl, rfl, rfl, by decide +kernel, rfl, by decide +kernel, by decide +kernel⟩

theorem LS.kn {K : PySem.W.Frag} {T : List (Addr × Str)} {s lp : Addr} {xs : List V} {rows : List RowM} {H2 G G' : Hp} (ok : RowsOk rows) (n : lp ≠ s) (hs : H2 s = none) (S : LS K T s lp xs rows H2 G) (s' : Src G' s) (e : KN s G G') (t : LamX.Tabs T G') : LS K T s lp xs rows H2 G' := by
  have tk : TK G G' := KN.tk S.src e
  exact ⟨s', e _ _ n S.lst (fun ps z => by cases z), paired_monoM (fun v q hq z => tk.row (rows_due ok q hq) z) S.prow, fun b o h z => e b o (ne_of_none h hs) (S.base b o h z) z, t⟩
theorem wd_go {K : PySem.W.Frag} {G : Hp} {C CN CW CV p : Addr} {rows : List RowM} {h : Bool} {tk : List (Key × V)} {x w : Str} {d : PyData} {dv : V} {Q : VK} {E : XK} (t : TreeAt K G C p rows h tk) (ok : RowsOk rows) (len : rows.length ≤ 200) (hx : x ∈ nms rows) (hw : w ∈ leftW) (hd : Dp K G dv d) (hv : ValOk w d) (nt : w ≠ "tops")
    (q : ∀ p' H' tk', Same G H' → TreeAt K H' C p' (chg rows x w d) h tk' → Q (.ref p') H') : spWD K C CN CW CV [.ref p, .str x, .str w, dv] G Q E := by
  obtain ⟨r, hr, rfl⟩ := List.mem_map.mp hx
  exact ⟨p, _, _, _, rows, h, tk, rfl, t, ok, len, .inl ⟨r, hr, rfl, .inl ⟨w, hw, rfl, .inl ⟨d, hd, hv, fun z => absurd z nt, fun p' H' tk' s _ t' _ => q p' H' tk' s t'⟩⟩⟩⟩
section
variable {P : Program} {w : World} {K : PySem.W.Frag} {mg : Str → Option Value} {base : Heap} {C CN CW CV P1 P2 : Addr}
theorem ok_law {f fS fN0 fF fO fR fT e fW fE : Addr} {fd dS dN0 dF dO dR dT ed dW dE : FuncData} (F : Fun K "law" "law" sLaw f fd) (T : TA mg) (TCl : TC K mg C) (Tn : TN K mg) (M : Mk K C e)
    (FI : FnOk P w K mg base CX0 7 e ed ["self", "rows", "handing"] (spInit K C)) (bI : Binds K ed ["self", "rows", "handing"] [])
    (mW : Meth K C "with_due" fW) (FW : FnOk P w K mg base (L2.CX P w) 9 fW dW ["self", "name", "word", "value"] (spWD K C CN CW CV)) (bW : Binds K dW ["self", "name", "word", "value"] [])
    (OC : OwnCmp K C fE) (FE : FnOk P w K mg base CX0 1 fE dE ["self", "other"] (spTEq K C)) (bE : Binds K dE ["self", "other"] [])
    (cS : Cal P w K mg base "_law_source" ["_law_script", "_law_k"] 2 (spSource K) fS dS) (cN : Cal P w K mg base "_law_next" ["_law_source_here", "_law_many"] 2 spNext fN0 dN0) (cF : Cal P w K mg base "_law_full_rows" ["_law_source_here", "_law_many"] 5 (spFull K) fF dF)
    (cO : Cal P w K mg base "_law_one" ["_law_source_here", "_law_things"] 3 (spOne K) fO dO) (cR : Cal P w K mg base "_law_refusals_right" ["_law_source_here", "_law_tree", "_law_one_here"] 12 (spRef K C (Tb P1 P2)) fR dR)
    (cT : Cal P w K mg base "_law_turn_right" ["_law_source_here", "_law_tree", "_law_lines", "_law_flag"] 12 (spTurn K C (Tb P1 P2)) fT dT) : FnOk P w K mg base CX0 13 f fd ["_law_script"] (spLaw K (Tb P1 P2)) := by
  refine F.ok scLaw (fun vs H Q E h => ?_) (fun cdv A outer s H vs Q E hr h => ?_)
  · obtain ⟨a, ns, rfl, _⟩ := h
    rfl
  obtain ⟨a, ns, rfl, hS, hlen, hT, q⟩ := h
  refine ⟨_, (pss_cons (ps_for PassesOwn.never rfl (pi_range1 rfl T.z_range (pa_cons (pe_callB (call_max2 rfl) (by rfl) Tn.z_max (by decide +kernel) (pa_cons pe_int (pa_cons (pe_callB (call_min2 rfl) (by rfl) Tn.z_min (by decide +kernel) (pa_cons pe_int (pa_cons (pe_callB call_len_seq (by rfl) T.z_len PySem.boot_len (pa_cons (pv 0) pa_nil)) pa_nil))) pa_nil))) pa_nil)) (pg_name (i := 1) scLaw.nd rfl (Or.inl rfl)) (pss_cons (ps_set (i := 2) scLaw.nd rfl (Or.inl rfl) (pe_call cS.ok (hr.mono (by decide)) rfl cS.mg cS.kp cS.bd .nil pass0 (pa_cons (pv 0) (pa_cons (pv 1) pa_nil)))) (pss_cons (ps_par (i := 3) (j := 4) (by rfl) scLaw.nd rfl rfl (by decide) rfl rfl (pa_cons (pe_call cF.ok (hr.mono (by decide)) rfl cF.mg cF.kp cF.bd .nil pass0 (pa_cons (pv 2) (pa_cons (pe_op op_add pe_int (pe_call cN.ok (hr.mono (by decide)) rfl cN.mg cN.kp cN.bd .nil pass0 (pa_cons (pv 2) (pa_cons pe_int pa_nil)))) pa_nil))) (pa_cons (pe_cmpR op_eq (pe_call cN.ok (hr.mono (by decide)) rfl cN.mg cN.kp cN.bd .nil pass0 (pa_cons (pv 2) (pa_cons pe_int pa_nil))) pe_int (nomark _)) pa_nil)) (by rfl)) (pss_cons (ps_set (i := 5) scLaw.nd rfl (Or.inl rfl) (pe_make M FI (hr.mono (by decide)) rfl TCl.g_Tree bI .nil pass0 (pa_cons (pv 3) (pa_cons (pv 4) pa_nil)))) (pss_cons (ps_for PassesOwn.never rfl (pi_range1 rfl T.z_range (pa_cons pe_int pa_nil)) (pg_name (i := 6) scLaw.nd rfl (Or.inl rfl)) (pss_cons (ps_if (pt_not (pt_val (pe_call cR.ok (hr.mono (by decide)) rfl cR.mg cR.kp cR.bd .nil pass0 (pa_cons (pv 2) (pa_cons (pv 5) (pa_cons (pe_ix ix_tup (pe_call cO.ok (hr.mono (by decide)) rfl cO.mg cO.kp cO.bd .nil pass0 (pa_cons (pv 2) (pa_cons (pv 3) pa_nil))) pe_int (fun _ _ => rfl)) pa_nil)))))) (pss_one (ps_ret pe_bl)) pss_nil) (pss_cons (ps_asg (pe_call cT.ok (hr.mono (by decide)) rfl cT.mg cT.kp cT.bd .nil pass0 (pa_cons (pv 2) (pa_cons (pv 5) (pa_cons (pv 3) (pa_cons (pv 4) pa_nil))))) (pg_tup (by rfl) (pgs_cons (pg_name (i := 7) scLaw.nd rfl (Or.inl rfl)) (pgs_cons (pg_name (i := 5) scLaw.nd rfl (Or.inl rfl)) (pgs_cons (pg_name (i := 3) scLaw.nd rfl (Or.inl rfl)) pgs_nil))))) (pss_one (ps_if (pt_not (pt_val (pv 7))) (pss_one (ps_ret pe_bl)) pss_nil))))) (pss_cons (ps_par (i := 8) (j := 9) (by rfl) scLaw.nd rfl rfl (by decide) rfl rfl (pa_cons (pe_ix ix_tup (pe_ix ix_list (pv 3) pe_int (fun _ _ => rfl)) pe_int (fun _ _ => rfl)) (pa_cons (pe_ix ix_tup (pe_ix ix_list (pv 3) (pe_un un_neg pe_int) (fun _ _ => rfl)) pe_int (fun _ _ => rfl)) pa_nil)) (by rfl)) (pss_cons (ps_set (i := 10) scLaw.nd rfl (Or.inl rfl) (pe_meth (pe_meth (pv 5) TCl.cl mW FW (hr.mono (by decide)) bW .nil passL (pa_cons (pv 9) (pa_cons pe_str (pa_cons (pe_tup (pa_cons pe_int (pa_cons pe_int pa_nil))) pa_nil)))) TCl.cl mW FW (hr.mono (by decide)) bW .nil passL (pa_cons (pv 8) (pa_cons pe_str (pa_cons (pe_tup (pa_cons pe_int (pa_cons pe_int pa_nil))) pa_nil))))) (pss_one (ps_if (pt_cmpR (op_neL OC FE bE (hr.mono (by decide)) pass0) (pe_meth (pe_meth (pv 5) TCl.cl mW FW (hr.mono (by decide)) bW .nil passL (pa_cons (pv 8) (pa_cons pe_str (pa_cons (pe_tup (pa_cons pe_int (pa_cons pe_int pa_nil))) pa_nil)))) TCl.cl mW FW (hr.mono (by decide)) bW .nil passL (pa_cons (pv 9) (pa_cons pe_str (pa_cons (pe_tup (pa_cons pe_int (pa_cons pe_int pa_nil))) pa_nil)))) (pv 10) (nomark _)) (pss_one (ps_ret pe_bl)) pss_nil))))))))) (pss_one (ps_ret pe_bl))), ?_⟩
  refine ⟨_, rfl, a, _, rfl, .inl hS, _, _, rfl, _, _, rfl, _, rfl, ?_, ?_, for_range (fun i σ H' => ∃ o1 o2 o3 o4 o5 o6 o7 o8 o9 o10 : Option V, σ = [some (.ref a), o1, o2, o3, o4, o5, o6, o7, o8, o9, o10] ∧ LamX.ExtN H H' ∧ LamX.Tabs (Tb P1 P2) H')
    ⟨none, none, none, none, none, none, none, none, none, none, rfl, LamX.ExtN.refl H, hT⟩ ?_ ?_⟩
  · show -(2 ^ 62) ≤ (if (if ((ns.map V.int).length : Int) < 5 then ((ns.map V.int).length : Int) else 5) > 1 then (if ((ns.map V.int).length : Int) < 5 then ((ns.map V.int).length : Int) else 5) else 1)
    split <;> split <;> omega
  · show (if (if ((ns.map V.int).length : Int) < 5 then ((ns.map V.int).length : Int) else 5) > 1 then (if ((ns.map V.int).length : Int) < 5 then ((ns.map V.int).length : Int) else 5) else 1) < 2 ^ 62
    split <;> split <;> omega
  · rintro i σ H2 hi ⟨o1, o2, o3, o4, o5, o6, o7, o8, o9, o10, rfl, eH, T2⟩
    refine ⟨_, rfl, _, rfl, a, ns, i, by rw [Int.zero_add]; rfl, ext_l eH hS, fun sp H3 hsp s3 src3 => ?_⟩
    refine ⟨_, rfl, _, rfl, sp, 9, rfl, src3, by decide, by decide, fun v9 H4 hv9 src4 k4 => ⟨_, _, rfl, rfl, ?_⟩⟩
    refine ⟨sp, 1 + v9, by rw [Int.natCast_add]; rfl, src4, by omega, fun lp H5 xs rows hlp el hrows hlaw hlen2 src5 k5 => ?_⟩
    have nlp : lp ≠ sp := fun e => by
      rw [e] at hlp
      obtain ⟨_, _, _, z⟩ := src4
      rw [hlp] at z
      cases z
    have b5 : Same H2 H5 := fun b o z => k5 b o (ne_of_none z hsp) (k4 b o (ne_of_none z hsp) (s3 b o z))
    have S5 : LS K (Tb P1 P2) sp lp xs rows H2 H5 := ⟨src5, el, hrows, LamX.ExtN.of b5, tabs_same T2 b5⟩
    have ok := hlaw.1
    refine ⟨_, rfl, sp, 2, rfl, src5, by decide, by decide, fun v2 H6 hv2 src6 k6 => ⟨rfl, ?_⟩⟩
    have S6 := S5.kept ok nlp hsp src6 k6
    refine ⟨_, _, rfl, ?_⟩
    -- the tree
    refine ⟨_, rfl, _, rfl, fun p1 dx1 hp1 hdx1 hn1 => ⟨H6, p1, dx1, lp, xs, rows, _, rfl, mkS hp1 hdx1 hn1, hp1, upd_same, S6.lst, S6.prow, ok, by omega, fun H7 tk s7 t7 _ => ⟨rfl, ?_⟩⟩⟩
    generalize hF : decide (V.int (v2 : Int) = V.int 0) = flag at t7 ⊢
    have S7 := S6.same s7
    refine ⟨_, rfl, by decide, by decide, for_range (fun j σ' G => ∃ (p lp : Addr) (xs : List V) (rows : List RowM) (tk : List (Key × V)) (o6 o7 o8 o9 o10 : Option V), σ' = [some (.ref a), some (.int (0 + (i : Int))), some (.ref sp), some (.ref lp), some (.bl flag), some (.ref p), o6, o7, o8, o9, o10] ∧
      LS K (Tb P1 P2) sp lp xs rows H2 G ∧ TreeAt K G C p rows flag tk ∧ lp ≠ sp ∧ RowsOk rows ∧ (∀ y ∈ nms rows, y ∈ menu) ∧ rows.length ≤ 12 ∧ rows ≠ []) ⟨p1, lp, xs, rows, tk, _, _, _, _, _, rfl, S7, t7, nlp, ok, hlaw.2.2, by omega, ?_⟩ ?_ ?_⟩
    · intro e
      rw [e] at hlen2
      cases v9 <;> cases hlen2
    · rintro j σ' G hj ⟨p, lp, xs, rows, tk, o6, o7, o8, o9, o10, rfl, S, ht, nlp, ok, hm, len, rne⟩
      have xl : xs.length = rows.length := Paired.length S.prow
      have xne : xs ≠ [] := fun z => rne (by
        rw [z] at xl
        cases rows with
        | nil => rfl
        | cons a b => cases xl)
      refine ⟨_, rfl, _, rfl, _, rfl, _, rfl, sp, lp, xs, rfl, S.src, SqL.of S.lst, nlp, xne, by omega, fun v G1 hv src1 k1 => ?_⟩
      have S1 := S.kept ok nlp hsp src1 k1
      have ht1 := ht.kn S.src (KN.of k1) ok
      obtain ⟨r, hr1, hrow⟩ := paired_mem S1.prow v hv
      obtain ⟨ra, t0, rfl, hra, _⟩ := id hrow
      refine ⟨ra, _, _, _, rfl, rfl, hra, rfl, sp, p, r.name, rows, _, tk, rfl, src1, ht1, ok, by omega, hm, List.mem_map.mpr ⟨r, hr1, rfl⟩, S1.tabs, fun G2 src2 kn2 T2 => ⟨true, rfl, iteF ?_⟩⟩
      have S2 := S1.kn ok nlp hsp src2 kn2 T2
      have ht2 := ht1.kn src1 kn2 ok
      refine ⟨_, rfl, _, rfl, _, rfl, _, rfl, sp, p, lp, xs, rows, _, tk, rfl, src2, ht2, ok, len, rne, S2.lst, nlp, S2.prow, T2, fun tt G3 p' lp' xs' rows' tk' htt t3 ok3 nm3 el3 nlp3 pr3 src3' kn3 T3 => ?_⟩
      refine ⟨tt, _, rfl, htt, rfl, _, _, rfl, _, _, rfl, _, _, rfl, rfl, ?_⟩
      have l3 : rows'.length = rows.length := by
        have := congrArg List.length nm3
        unfold nms at this
        rw [List.length_map, List.length_map] at this
        exact this
      refine ⟨_, rfl, true, rfl, iteF ⟨p', lp', xs', rows', tk', _, _, _, _, _, rfl, ⟨src3', el3, pr3, fun b o h z => kn3 b o (ne_of_none h hsp) (S2.base b o h z) z, T3⟩, t3, nlp3, ok3, fun y hy => hm y (nm3 ▸ hy), by omega, fun e => ?_⟩⟩
      rw [e] at l3
      cases rows with
      | nil => exact rne rfl
      | cons a b => cases l3
    · rintro σ' G ⟨p, lp, xs, rows, tk, o6, o7, o8, o9, o10, rfl, S, ht, nlp, ok, hm, len, rne⟩
      have xl : xs.length = rows.length := Paired.length S.prow
      have xne : xs ≠ [] := fun z => rne (by
        rw [z] at xl
        cases rows with
        | nil => rfl
        | cons a b => cases xl)
      obtain ⟨ys, vl, hl⟩ : ∃ ys vl, xs = ys ++ [vl] := ⟨xs.dropLast, xs.getLast xne, (List.dropLast_concat_getLast xne).symm⟩
      obtain ⟨x0, h0⟩ : ∃ x0, xs[0]? = some x0 := by
        cases xs with
        | nil => exact absurd rfl xne
        | cons a b => exact ⟨a, rfl⟩
      obtain ⟨r0, hr0, hrow0⟩ := paired_get S.prow h0
      obtain ⟨a0, t0, e0, ha0, _⟩ := id hrow0
      obtain ⟨rl, hrl, hrowl⟩ := paired_mem S.prow vl (by rw [hl]; exact List.mem_append_right _ (List.mem_singleton.mpr rfl))
      obtain ⟨al, tl, rfl, hal, _⟩ := id hrowl
      have atl : atI xs (-1) = some (.ref al) := by
        rw [hl]
        exact atI_last _ _
      refine ⟨_, rfl, lp, xs, _, .ref a0, rfl, rfl, SqL.of S.lst, atI_nat (by rw [h0, e0]), a0, _, _, _, rfl, rfl, ha0, rfl, ?_⟩
      refine ⟨_, rfl, _, rfl, lp, xs, _, .ref al, rfl, rfl, SqL.of S.lst, atl, al, _, _, _, rfl, rfl, hal, rfl, ?_⟩
      refine ⟨_, _, rfl, ?_⟩
      have hm0 : r0.name ∈ nms rows := List.mem_map.mpr ⟨r0, List.mem_of_getElem? hr0, rfl⟩
      have hml : rl.name ∈ nms rows := List.mem_map.mpr ⟨rl, hrl, rfl⟩
      have small16 : ∀ n : Nat, n < 16 → n < 2 ^ 3000 := fun n hn => Nat.lt_of_lt_of_le hn (Nat.pow_le_pow_right (n := 2) (i := 4) (by decide) (by decide))
      have vlow : ValOk "low" (.tuple [.int ((7 : Nat) : Int), .int ((3 : Nat) : Int)]) := .amt (by decide +kernel) (small16 7 (by decide)) (by decide) (small16 3 (by decide)) (by decide)
      have vmin : ValOk "min" (.tuple [.int ((5 : Nat) : Int), .int ((2 : Nat) : Int)]) := .amt (by decide +kernel) (small16 5 (by decide)) (by decide) (small16 2 (by decide)) (by decide)
      have dpt : ∀ (G : Hp) (t : Addr) (i j : Int), G t = some (.tup [.int i, .int j]) → Dp K G (.ref t) (.tuple [.int i, .int j]) := fun G t i j e => .tup (SqT.of e) (.cons (.int _) (.cons (.int _) .nil))
      have lowW : ("low" : Str) ∈ leftW := by decide +kernel
      have minW : ("min" : Str) ∈ leftW := by decide +kernel
      have ntl : ("low" : Str) ≠ "tops" := by decide +kernel
      have ntm : ("min" : Str) ≠ "tops" := by decide +kernel
      -- the last one, then the first one
      obtain ⟨dx, _, _, _, _, i1, _⟩ := id ht
      refine ⟨_, rfl, p, dx, _, rfl, i1, by rfl, _, rfl, by show 2 ≤ sizeLine; decide, fun b1 g1 => ?_⟩
      have s1 : Same G (upd G b1 (.tup [.int 7, .int 3])) := Same.new (Same.refl _) g1 _
      have f1 : upd G b1 (.tup [.int 7, .int 3]) b1 = some (.tup [.int 7, .int 3]) := upd_same
      generalize upd G b1 (.tup [.int 7, .int 3]) = G1 at s1 f1 ⊢
      dsimp only [tNil]
      refine wd_go (ht.same s1 ok) ok (by omega) hml lowW (dpt _ _ 7 3 f1) vlow ntl fun p2 G2 tk2 s2 t2 => ?_
      have okl := chg_ok (x := rl.name) ok lowW vlow fun z => absurd z ntl
      obtain ⟨dx2, _, _, _, _, i2, _⟩ := id t2
      refine ⟨p2, dx2, _, rfl, i2, by rfl, _, rfl, by show 2 ≤ sizeLine; decide, fun b2 g2 => ?_⟩
      have s3 : Same G2 (upd G2 b2 (.tup [.int 5, .int 2])) := Same.new (Same.refl _) g2 _
      have f3 : upd G2 b2 (.tup [.int 5, .int 2]) b2 = some (.tup [.int 5, .int 2]) := upd_same
      generalize upd G2 b2 (.tup [.int 5, .int 2]) = G3 at s3 f3 ⊢
      dsimp only [tNil]
      refine wd_go (t2.same s3 okl) okl (by rw [chg_len]; omega) (by rw [show nms (chg rows rl.name "low" _) = nms rows from chg_names _ _ _ _]; exact hm0) minW (dpt _ _ 5 2 f3) vmin ntm fun p3 G4 tk3 s4 t3 => ?_
      have okt := chg_ok (x := r0.name) okl minW vmin fun z => absurd z ntm
      have sg := ((s1.trans s2).trans s3).trans s4
      -- the first one, then the last one
      refine ⟨_, rfl, p, dx, _, rfl, sg _ _ i1, by rfl, _, rfl, by show 2 ≤ sizeLine; decide, fun b5 g5 => ?_⟩
      have s5 : Same G4 (upd G4 b5 (.tup [.int 5, .int 2])) := Same.new (Same.refl _) g5 _
      have f5 : upd G4 b5 (.tup [.int 5, .int 2]) b5 = some (.tup [.int 5, .int 2]) := upd_same
      generalize upd G4 b5 (.tup [.int 5, .int 2]) = G5 at s5 f5 ⊢
      dsimp only [tNil]
      refine wd_go ((ht.same sg ok).same s5 ok) ok (by omega) hm0 minW (dpt _ _ 5 2 f5) vmin ntm fun p6 G6 tk6 s6 t6 => ?_
      have okm := chg_ok (x := r0.name) ok minW vmin fun z => absurd z ntm
      obtain ⟨dx6, _, _, _, _, i6, _⟩ := id t6
      refine ⟨p6, dx6, _, rfl, i6, by rfl, _, rfl, by show 2 ≤ sizeLine; decide, fun b7 g7 => ?_⟩
      have s7 : Same G6 (upd G6 b7 (.tup [.int 7, .int 3])) := Same.new (Same.refl _) g7 _
      have f7 : upd G6 b7 (.tup [.int 7, .int 3]) b7 = some (.tup [.int 7, .int 3]) := upd_same
      generalize upd G6 b7 (.tup [.int 7, .int 3]) = G7 at s7 f7 ⊢
      dsimp only [tNil]
      refine wd_go (t6.same s7 okm) okm (by rw [chg_len]; omega) (by rw [show nms (chg rows r0.name "min" _) = nms rows from chg_names _ _ _ _]; exact hml) lowW (dpt _ _ 7 3 f7) vlow ntl fun p8 G8 tk8 s8 t8 => ?_
      have oku := chg_ok (x := rl.name) okm lowW vlow fun z => absurd z ntl
      have s48 := ((s5.trans s6).trans s7).trans s8
      obtain ⟨dx8, _, _, _, _, i8, _⟩ := id t8
      have t3z := t3.same s48 okt
      obtain ⟨dx3, _, _, _, _, i3, _⟩ := id t3z
      refine ⟨_, rfl, p8, dx8, _, rfl, i8, .ins i3, teq_true t8 t3z oku okt (chg_comm _ _ _ _ _ _ _ (by decide +kernel)) ⟨true, rfl, ?_⟩⟩
      refine ⟨false, rfl, iteF ?_⟩
      have sz := sg.trans s48
      exact ⟨_, _, _, _, _, _, _, _, _, _, rfl, eH.trans (S.base.trans (LamX.ExtN.of sz)), tabs_same S.tabs sz⟩
  · rintro σ G ⟨o1, o2, o3, o4, o5, o6, o7, o8, o9, o10, rfl, eH, T2⟩
    exact q _
end
end Bd
end

section
namespace Bd
open PySem L2
/-- a def of the text as the top has written it -/
structure DK (K : PySem.W.Frag) (x : Str) (st : Stmt) (f : Addr) : Prop where
  at_ : PySem.W.nsIn K mainGlobals x = some (some (.ref f))
  fn : ∃ fd, Fun K x x st f fd
theorem dk_mk {K : PySem.W.Frag} {x : Str} {st : Stmt} {f : Addr} {oc : Value} {od an : Option Addr} {osl : Array (Option Value)} {kV doc pm cdv ct : Value} (a : PySem.W.nsIn K mainGlobals x = some (some (.ref f)))
    (l : K.lookup f = some ⟨oc, od, .func (PySem.W.fnOf x x (defArgs st) (defBody st) (defScope st) .none kV doc pm an cdv ct), osl⟩) (c : PySem.W.codeIn K cdv x = true) (k : PySem.W.keepIn K (.ref f) = true) : DK K x st f := ⟨a, _, fun_mk l c k⟩
/-- a method of the class -/
structure MK (K : PySem.W.Frag) (C : Addr) (m qual : Str) (st : Stmt) (f : Addr) : Prop where
  me : Meth K C m f
  fn : ∃ fd, Fun K m qual st f fd
theorem mk_mk {K : PySem.W.Frag} {C : Addr} {m qual : Str} {st : Stmt} {f : Addr} {oc : Value} {od an : Option Addr} {osl : Array (Option Value)} {kV doc pm cdv ct : Value} (a : PySem.W.findIn K (.ref C) m = some (some (.ref f))) (i : PySem.W.isFn K (.ref f) = true)
    (l : K.lookup f = some ⟨oc, od, .func (PySem.W.fnOf m qual (defArgs st) (defBody st) (defScope st) .none kV doc pm an cdv ct), osl⟩) (c : PySem.W.codeIn K cdv qual = true) (k : PySem.W.keepIn K (.ref f) = true) : MK K C m qual st f := ⟨⟨a, i, k⟩, _, fun_mk l c k⟩
/-- the maker, with its default -/
structure IK (K : PySem.W.Frag) (C f : Addr) : Prop where
  me : Meth K C "__init__" f
  fn : ∃ fd, FunD K "__init__" "Tree.__init__" (defArgs sInit) (defBody sInit) (defScope sInit) [.bl false] [] f fd
theorem ik_mk {K : PySem.W.Frag} {C f D : Addr} {oc dc : Value} {od an dd : Option Addr} {osl dsl : Array (Option Value)} {kV doc pm cdv ct : Value} {n : Nat} (a : PySem.W.findIn K (.ref C) "__init__" = some (some (.ref f))) (i : PySem.W.isFn K (.ref f) = true)
    (l : K.lookup f = some ⟨oc, od, .func (PySem.W.fnOf "__init__" "Tree.__init__" (defArgs sInit) (defBody sInit) (defScope sInit) (.ref D) kV doc pm an cdv ct), osl⟩) (c : PySem.W.codeIn K cdv "Tree.__init__" = true) (k : PySem.W.keepIn K (.ref f) = true)
    (d : K.lookup D = some ⟨dc, dd, .seq #[.bool false] n, dsl⟩) : IK K C f :=
  ⟨⟨a, i, k⟩, _, ⟨oc, od, .ref D, kV, doc, pm, an, cdv, ct, osl, rfl, l, c, .inr ⟨by simp, D, _, [.bool false], n, rfl, d, rfl, .cons rfl .nil⟩, .inl rfl⟩, k⟩
theorem init_binds2 {K : PySem.W.Frag} {f : Addr} {fd : FuncData} (F : FunD K "__init__" "Tree.__init__" (defArgs sInit) (defBody sInit) (defScope sInit) [.bl false] [] f fd) : Binds K fd ["self", "rows", "handing"] [] := by
  obtain ⟨ds, v, b⟩ := F.binds1 (ps := ["self", "rows", "handing"]) 3 1 (by simp) rfl fun T kV doc pm an cdv ct us its hl hi => match us, its, hl, hi with | [_, _, _], [_], _, _ => ⟨_, rfl, rfl⟩
  cases v
  exact b
theorem init_binds1 {K : PySem.W.Frag} {f : Addr} {fd : FuncData} (F : FunD K "__init__" "Tree.__init__" (defArgs sInit) (defBody sInit) (defScope sInit) [.bl false] [] f fd) : Binds K fd ["self", "rows", "handing"] [.bool false] := by
  obtain ⟨ds, v, b⟩ := F.binds1 (ps := ["self", "rows", "handing"]) 2 0 (by simp) rfl fun T kV doc pm an cdv ct us its hl hi => match us, its, hl, hi with | [_, _], [_], _, _ => ⟨_, rfl, rfl⟩
  cases v with
  | cons a r =>
    cases r
    cases a
    exact b
theorem cod_mk {K : PySem.W.Frag} {x : Str} {st : Stmt} {f c : Addr} {oc : Value} {od an : Option Addr} {osl : Array (Option Value)} {kV doc pm ct : Value} (a : PySem.W.nsIn K mainGlobals x = some (some (.ref f)))
    (l : K.lookup f = some ⟨oc, od, .func (PySem.W.fnOf x x (defArgs st) (defBody st) (defScope st) .none kV doc pm an (.ref c) ct), osl⟩) (cc : PySem.W.codeIn K (.ref c) x = true) (k : PySem.W.keepIn K (.ref f) = true) :
    PySem.W.nsIn K mainGlobals x = some (some (.ref f)) ∧ ∃ fd, Fun K x x st f fd ∧ fd.code = .ref c := ⟨a, _, fun_mk l cc k, rfl⟩
/-- an own class asks what an own class is -/
theorem kit_own {K : PySem.W.Frag} {C D : Addr} {cd : PySem.ClassData} {b : Bool} (n : (D == C) = false) (c : PySem.W.clsIn K C = some cd) (t : PySem.W.typeIn K (.ref C) = some (.type "type")) (s : PySem.W.subIn K (.ref D) (.ref C) = some b) : PySem.W.kitOne K (.ref D) (.ref C) = some b := by
  unfold PySem.W.kitOne
  rw [if_neg (by
    intro z
    cases eq_of_beq z
    rw [beq_self_eq_true] at n
    cases n)]
  unfold PySem.W.kitCls
  simp only [c, t, s, Option.isSome_some, Bool.true_and]
  rw [if_pos (by rfl)]
theorem kit_val {K : PySem.W.Frag} {D : Addr} (s : PySem.W.subIn K (.ref D) (.type "ValueError") = some true) : PySem.W.kitOne K (.ref D) (.type "ValueError") = some true := by
  unfold PySem.W.kitOne
  rw [if_neg (by intro z; cases (eq_of_beq z))]
  unfold PySem.W.kitCls
  simp only [s]
  rw [if_pos (by decide +kernel)]
def ecOf (c0 c1 c2 c3 c4 c5 c6 : Addr) : Nat → Addr
  | 0 => c0
  | 1 => c1
  | 2 => c2
  | 3 => c3
  | 4 => c4
  | 5 => c5
  | _ => c6
def leftOf (a1 a2 a3 : Addr) : List (Key × V) := [((Sum.inr "min" : Key), (.ref a1 : V)), ((Sum.inr "low" : Key), (.ref a2 : V)), ((Sum.inr "max" : Key), (.str "endless" : V)), ((Sum.inr "quota" : Key), (.str "endless" : V)), ((Sum.inr "burst" : Key), (.ref a3 : V)), ((Sum.inr "tops" : Key), (.str "endless" : V)), ((Sum.inr "sets" : Key), (.non : V)), ((Sum.inr "alone" : Key), (.int 0 : V))]
/-- the facts of the top -/
structure Tops (P : Program) (w : World) (K : PySem.W.Frag) (mg : Str → Option Value) (C aL CE : Addr) (ec : Nat → Addr) (left : List (Key × V)) : Prop where
  tp : TP P w K mg aL left
  lv : ∀ H, Paired (PV K H) left leftD
  tc : TC K mg C
  ti : TI K C
  tn : TN K mg
  ta : TA mg
  xs : XS mg CE ec
  x1 : XN K mg "NoName" (ec 1)
  x2 : XN K mg "NoWord" (ec 2)
  x3 : XN K mg "NoDue" (ec 3)
  d1 : XD K CE ec 1
  d2 : XD K CE ec 2
  d3 : XD K CE ec 3
/-- what the top has written -/
theorem tops_mk {P : Program} {w : World} {K : PySem.W.Frag} {h : Heap} {mg : Str → Option Value} {C aL CE a1 a2 a3 q0 q1 q2 q3 q4 q5 q6 : Addr} (X : K.In h) (G : h.Ns mainGlobals mg)
    {tl te tg u3 u4 u6 u8 t1 t2 t3 t4 t5 t6 t7 t8 : Tok} {h1 h2 h3 h4 h5 h6 h7 h8 : Int} {k0 k1 k2 k3 k4 k5 k6 : PySem.ClassData} {ep n1 n2 n3 : Nat} {x1 x2 x3 : Option Addr} {y1 y2 y3 : Array (Option Value)} {p1 p2 p3 p4 p5 p6 : Tok}
    (cz_len : PySem.W.nsIn K mainGlobals "len" = some none)
    (cz_int : PySem.W.nsIn K mainGlobals "int" = some none)
    (cz_bool : PySem.W.nsIn K mainGlobals "bool" = some none)
    (cz_str : PySem.W.nsIn K mainGlobals "str" = some none)
    (cz_tuple : PySem.W.nsIn K mainGlobals "tuple" = some none)
    (cz_list : PySem.W.nsIn K mainGlobals "list" = some none)
    (cz_dict : PySem.W.nsIn K mainGlobals "dict" = some none)
    (cz_all : PySem.W.nsIn K mainGlobals "all" = some none)
    (cz_enumerate : PySem.W.nsIn K mainGlobals "enumerate" = some none)
    (cz_isinstance : PySem.W.nsIn K mainGlobals "isinstance" = some none)
    (cz_range : PySem.W.nsIn K mainGlobals "range" = some none)
    (cz_abs : PySem.W.nsIn K mainGlobals "abs" = some none)
    (cz_max : PySem.W.nsIn K mainGlobals "max" = some none)
    (cz_min : PySem.W.nsIn K mainGlobals "min" = some none)
    (cz_ValueError : PySem.W.nsIn K mainGlobals "ValueError" = some none)
    (cgL : PySem.W.nsIn K mainGlobals "LONG" = some (some (.int 3000 tl)))
    (cgE : PySem.W.nsIn K mainGlobals "ENDLESS" = some (some (.str "endless" te)))
    (cgG : PySem.W.nsIn K mainGlobals "GREATEST_PROCESSOR" = some (some (.int 63 tg)))
    (cgO : PySem.W.nsIn K mainGlobals "LEFT_OUT" = some (some (.ref aL)))
    (ckO : K.lookup aL = some ⟨.type "dict", none, .dict #[⟨h1, .str "min" t1, .ref a1⟩, ⟨h2, .str "low" t2, .ref a2⟩, ⟨h3, .str "max" t3, .str "endless" u3⟩, ⟨h4, .str "quota" t4, .str "endless" u4⟩, ⟨h5, .str "burst" t5, .ref a3⟩, ⟨h6, .str "tops" t6, .str "endless" u6⟩, ⟨h7, .str "sets" t7, .none⟩, ⟨h8, .str "alone" t8, .int 0 u8⟩] ep, #[]⟩)
    (cl1 : K.lookup a1 = some ⟨.type "tuple", x1, .seq #[.int 0 p1, .int 1 p2] n1, y1⟩)
    (cl2 : K.lookup a2 = some ⟨.type "tuple", x2, .seq #[.int 0 p3, .int 1 p4] n2, y2⟩)
    (cl3 : K.lookup a3 = some ⟨.type "tuple", x3, .seq #[.int 0 p5, .int 1 p6] n3, y3⟩)
    (cgC : PySem.W.nsIn K mainGlobals "Tree" = some (some (.ref C)))
    (cpg : PySem.W.plainGet K C Str.empty = true)
    (chd : PySem.W.hasDictIn K C = true)
    (cpo : PySem.W.plainOver K C = true)
    (csa : PySem.W.findIn K (.ref C) "__setattr__" = some (some (.builtin "object.__setattr__")))
    (cnO : PySem.W.findIn K (.ref C) "order" = some none)
    (cnP : PySem.W.findIn K (.ref C) "parents" = some none)
    (cnK : PySem.W.findIn K (.ref C) "kids" = some none)
    (cnT : PySem.W.findIn K (.ref C) "table" = some none)
    (cnH : PySem.W.findIn K (.ref C) "hands" = some none)
    (cE : PySem.W.nsIn K mainGlobals "DueError" = some (some (.ref CE)))
    (ce0g : PySem.W.nsIn K mainGlobals "NoTree" = some (some (.ref q0)))
    (ce1g : PySem.W.nsIn K mainGlobals "NoName" = some (some (.ref q1)))
    (ce2g : PySem.W.nsIn K mainGlobals "NoWord" = some (some (.ref q2)))
    (ce3g : PySem.W.nsIn K mainGlobals "NoDue" = some (some (.ref q3)))
    (ce4g : PySem.W.nsIn K mainGlobals "NoUses" = some (some (.ref q4)))
    (ce5g : PySem.W.nsIn K mainGlobals "NoKind" = some (some (.ref q5)))
    (ce6g : PySem.W.nsIn K mainGlobals "NoAmount" = some (some (.ref q6)))
    (cEb : PySem.W.subIn K (.ref CE) (.type "BaseException") = some true)
    (cEh : PySem.W.hasDictIn K CE = true)
    (cEt : PySem.W.typeIn K (.ref CE) = some (.type "type"))
    (ce0c : PySem.W.clsIn K q0 = some k0)
    (ce0t : PySem.W.typeIn K (.ref q0) = some (.type "type"))
    (ce1c : PySem.W.clsIn K q1 = some k1)
    (ce1t : PySem.W.typeIn K (.ref q1) = some (.type "type"))
    (ce2c : PySem.W.clsIn K q2 = some k2)
    (ce2t : PySem.W.typeIn K (.ref q2) = some (.type "type"))
    (ce3c : PySem.W.clsIn K q3 = some k3)
    (ce3t : PySem.W.typeIn K (.ref q3) = some (.type "type"))
    (ce4c : PySem.W.clsIn K q4 = some k4)
    (ce4t : PySem.W.typeIn K (.ref q4) = some (.type "type"))
    (ce5c : PySem.W.clsIn K q5 = some k5)
    (ce5t : PySem.W.typeIn K (.ref q5) = some (.type "type"))
    (ce6c : PySem.W.clsIn K q6 = some k6)
    (ce6t : PySem.W.typeIn K (.ref q6) = some (.type "type"))
    (ciA : PySem.W.findIn K (.ref C) "__class__" = some (some (.builtin "object.__class__")))
    (ciM : PySem.W.mroIn K C (.type "object") = some true)
    (cin : PySem.W.specialIn K (.builtin "object.__class__") "__get__" = some (some (.builtin "getset_descriptor.__get__")))
    (cit : PySem.W.takesIn K (.builtin "object.__class__") = some true)
    (cx1k : PySem.W.keepIn K (.ref q1) = true)
    (cx1b : PySem.W.subIn K (.ref q1) (.type "BaseException") = some true)
    (cx1g : PySem.W.findIn K (.ref q1) "__getattribute__" = some (some (.builtin "BaseException.__getattribute__")))
    (cx1a : PySem.W.findIn K (.ref q1) "__getattr__" = some none)
    (cx1h : PySem.W.hasDictIn K q1 = true)
    (cx1c : PySem.W.findIn K (.ref q1) "__class__" = some (some (.builtin "object.__class__")))
    (cx1m : PySem.W.mroIn K q1 (.type "object") = some true)
    (cx1e : PySem.W.subIn K (.ref q1) (.ref CE) = some true)
    (cx1v : PySem.W.subIn K (.ref q1) (.type "ValueError") = some true)
    (cx1s0 : PySem.W.subIn K (.ref q1) (.ref q0) = some false)
    (cx1s2 : PySem.W.subIn K (.ref q1) (.ref q2) = some false)
    (cx1s3 : PySem.W.subIn K (.ref q1) (.ref q3) = some false)
    (cx1s4 : PySem.W.subIn K (.ref q1) (.ref q4) = some false)
    (cx1s5 : PySem.W.subIn K (.ref q1) (.ref q5) = some false)
    (cx1s6 : PySem.W.subIn K (.ref q1) (.ref q6) = some false)
    (cx2k : PySem.W.keepIn K (.ref q2) = true)
    (cx2b : PySem.W.subIn K (.ref q2) (.type "BaseException") = some true)
    (cx2g : PySem.W.findIn K (.ref q2) "__getattribute__" = some (some (.builtin "BaseException.__getattribute__")))
    (cx2a : PySem.W.findIn K (.ref q2) "__getattr__" = some none)
    (cx2h : PySem.W.hasDictIn K q2 = true)
    (cx2c : PySem.W.findIn K (.ref q2) "__class__" = some (some (.builtin "object.__class__")))
    (cx2m : PySem.W.mroIn K q2 (.type "object") = some true)
    (cx2e : PySem.W.subIn K (.ref q2) (.ref CE) = some true)
    (cx2v : PySem.W.subIn K (.ref q2) (.type "ValueError") = some true)
    (cx2s0 : PySem.W.subIn K (.ref q2) (.ref q0) = some false)
    (cx2s1 : PySem.W.subIn K (.ref q2) (.ref q1) = some false)
    (cx2s3 : PySem.W.subIn K (.ref q2) (.ref q3) = some false)
    (cx2s4 : PySem.W.subIn K (.ref q2) (.ref q4) = some false)
    (cx2s5 : PySem.W.subIn K (.ref q2) (.ref q5) = some false)
    (cx2s6 : PySem.W.subIn K (.ref q2) (.ref q6) = some false)
    (cx3k : PySem.W.keepIn K (.ref q3) = true)
    (cx3b : PySem.W.subIn K (.ref q3) (.type "BaseException") = some true)
    (cx3g : PySem.W.findIn K (.ref q3) "__getattribute__" = some (some (.builtin "BaseException.__getattribute__")))
    (cx3a : PySem.W.findIn K (.ref q3) "__getattr__" = some none)
    (cx3h : PySem.W.hasDictIn K q3 = true)
    (cx3c : PySem.W.findIn K (.ref q3) "__class__" = some (some (.builtin "object.__class__")))
    (cx3m : PySem.W.mroIn K q3 (.type "object") = some true)
    (cx3e : PySem.W.subIn K (.ref q3) (.ref CE) = some true)
    (cx3v : PySem.W.subIn K (.ref q3) (.type "ValueError") = some true)
    (cx3s0 : PySem.W.subIn K (.ref q3) (.ref q0) = some false)
    (cx3s1 : PySem.W.subIn K (.ref q3) (.ref q1) = some false)
    (cx3s2 : PySem.W.subIn K (.ref q3) (.ref q2) = some false)
    (cx3s4 : PySem.W.subIn K (.ref q3) (.ref q4) = some false)
    (cx3s5 : PySem.W.subIn K (.ref q3) (.ref q5) = some false)
    (cx3s6 : PySem.W.subIn K (.ref q3) (.ref q6) = some false)
    (clo : (aL == sysModules) = false)
    (ch1 : h1 = hashStr w "min")
    (ch2 : h2 = hashStr w "low")
    (ch3 : h3 = hashStr w "max")
    (ch4 : h4 = hashStr w "quota")
    (ch5 : h5 = hashStr w "burst")
    (ch6 : h6 = hashStr w "tops")
    (ch7 : h7 = hashStr w "sets")
    (ch8 : h8 = hashStr w "alone")
    (cy1 : PySem.W.excIn K q1 [.type "ValueError", .type "Exception", .type "BaseException", .type "object"] "ValueError.__new__" = true)
    (cy1n0 : (q1 == q0) = false)
    (cy1n2 : (q1 == q2) = false)
    (cy1n3 : (q1 == q3) = false)
    (cy1n4 : (q1 == q4) = false)
    (cy1n5 : (q1 == q5) = false)
    (cy1n6 : (q1 == q6) = false)
    (cy2 : PySem.W.excIn K q2 [.type "ValueError", .type "Exception", .type "BaseException", .type "object"] "ValueError.__new__" = true)
    (cy2n0 : (q2 == q0) = false)
    (cy2n1 : (q2 == q1) = false)
    (cy2n3 : (q2 == q3) = false)
    (cy2n4 : (q2 == q4) = false)
    (cy2n5 : (q2 == q5) = false)
    (cy2n6 : (q2 == q6) = false)
    (cy3 : PySem.W.excIn K q3 [.type "ValueError", .type "Exception", .type "BaseException", .type "object"] "ValueError.__new__" = true)
    (cy3n0 : (q3 == q0) = false)
    (cy3n1 : (q3 == q1) = false)
    (cy3n2 : (q3 == q2) = false)
    (cy3n4 : (q3 == q4) = false)
    (cy3n5 : (q3 == q5) = false)
    (cy3n6 : (q3 == q6) = false)
    : Tops P w K mg C aL CE (ecOf q0 q1 q2 q3 q4 q5 q6) (leftOf a1 a2 a3) := by
  have L : ∀ {a : Addr} {x : Option Addr} {n : Nat} {y : Array (Option Value)} {p q : Tok}, K.lookup a = some ⟨.type "tuple", x, .seq #[.int 0 p, .int 1 q] n, y⟩ → ∀ H, Dp K H (.ref a) (.tuple [.int 0, .int 1]) := fun e H =>
    .tup (xs := [V.int 0, V.int 1]) (.inr ⟨_, _, _, e, rfl, rfl, by show 2 ≤ sizeLine; decide, .cons ⟨_, rfl⟩ (.cons ⟨_, rfl⟩ .nil)⟩) (.cons (.int _) (.cons (.int _) .nil))
  refine ⟨⟨PySem.W.mg_none_of X G cz_len, PySem.W.mg_none_of X G cz_int, PySem.W.mg_none_of X G cz_bool, PySem.W.mg_none_of X G cz_str, PySem.W.mg_none_of X G cz_tuple, PySem.W.mg_none_of X G cz_list, PySem.W.mg_none_of X G cz_dict, PySem.W.mg_none_of X G cz_all, PySem.W.mg_none_of X G cz_enumerate, PySem.W.mg_none_of X G cz_isinstance, ⟨_, PySem.W.mg_of X G cgL⟩, ⟨_, PySem.W.mg_of X G cgE⟩, ⟨_, PySem.W.mg_of X G cgG⟩, PySem.W.mg_of X G cgO, ⟨clo, ?_, by show 8 ≤ 1000; decide⟩, rfl⟩, fun H => ?_,
    ⟨⟨cpg, chd, cpo, csa⟩, cnO, cnP, cnK, cnT, cnH, PySem.W.mg_of X G cgC⟩, ⟨ciA, cin, cit, ciM⟩, ⟨PySem.W.mg_none_of X G cz_max, PySem.W.mg_none_of X G cz_min, PySem.W.mg_none_of X G cz_isinstance, PySem.W.mg_none_of X G cz_bool⟩,
    ⟨PySem.W.mg_none_of X G cz_len, PySem.W.mg_none_of X G cz_int, PySem.W.mg_none_of X G cz_range, PySem.W.mg_none_of X G cz_abs, PySem.W.mg_none_of X G cz_tuple, PySem.W.mg_none_of X G cz_list, PySem.W.mg_none_of X G cz_enumerate⟩, ⟨PySem.W.mg_of X G cE, PySem.W.mg_none_of X G cz_ValueError, PySem.W.mg_none_of X G cz_isinstance, PySem.W.mg_of X G ce0g, PySem.W.mg_of X G ce1g, PySem.W.mg_of X G ce2g, PySem.W.mg_of X G ce3g, PySem.W.mg_of X G ce4g, PySem.W.mg_of X G ce5g, PySem.W.mg_of X G ce6g⟩,
    ⟨cy1, PySem.W.mg_of X G ce1g, cx1k, cx1b, ce1t⟩, ⟨cy2, PySem.W.mg_of X G ce2g, cx2k, cx2b, ce2t⟩, ⟨cy3, PySem.W.mg_of X G ce3g, cx3k, cx3b, ce3t⟩, ⟨⟨cx1g, cx1a, cx1b, cx1h, cx1c, cin, cit, cx1m⟩, PySem.W.exm_ref cEb cEh cEt cx1e, fun j hj => ?_, kit_val cx1v⟩, ⟨⟨cx2g, cx2a, cx2b, cx2h, cx2c, cin, cit, cx2m⟩, PySem.W.exm_ref cEb cEh cEt cx2e, fun j hj => ?_, kit_val cx2v⟩, ⟨⟨cx3g, cx3a, cx3b, cx3h, cx3c, cin, cit, cx3m⟩, PySem.W.exm_ref cEb cEh cEt cx3e, fun j hj => ?_, kit_val cx3v⟩⟩
  · refine ⟨[((Sum.inr "min" : Key), (.ref a1 : Value)), ((Sum.inr "low" : Key), (.ref a2 : Value)), ((Sum.inr "max" : Key), (.str "endless" u3 : Value)), ((Sum.inr "quota" : Key), (.str "endless" u4 : Value)), ((Sum.inr "burst" : Key), (.ref a3 : Value)), ((Sum.inr "tops" : Key), (.str "endless" u6 : Value)), ((Sum.inr "sets" : Key), (.none : Value)), ((Sum.inr "alone" : Key), (.int 0 u8 : Value))], .cons ⟨rfl, rfl⟩ (.cons ⟨rfl, rfl⟩ (.cons ⟨rfl, ⟨_, rfl⟩⟩ (.cons ⟨rfl, ⟨_, rfl⟩⟩ (.cons ⟨rfl, rfl⟩ (.cons ⟨rfl, ⟨_, rfl⟩⟩ (.cons ⟨rfl, rfl⟩ (.cons ⟨rfl, ⟨_, rfl⟩⟩ (.nil)))))))), fun h2 X2 => ⟨_, _, _, X2 _ _ ckO, ⟨rfl, rfl, rfl⟩, rfl, fun e he => ?_, .cons (by simp [mixKind, keyIs, Value.isStrOf]) rfl (.cons (by simp [mixKind, keyIs, Value.isStrOf]) rfl (.cons (by simp [mixKind, keyIs, Value.isStrOf]) rfl (.cons (by simp [mixKind, keyIs, Value.isStrOf]) rfl (.cons (by simp [mixKind, keyIs, Value.isStrOf]) rfl (.cons (by simp [mixKind, keyIs, Value.isStrOf]) rfl (.cons (by simp [mixKind, keyIs, Value.isStrOf]) rfl (.cons (by simp [mixKind, keyIs, Value.isStrOf]) rfl (.nil)))))))), ?_⟩⟩
    · simp only [List.mem_toArray, List.mem_cons, List.not_mem_nil, or_false] at he
      rcases he with rfl | rfl | rfl | rfl | rfl | rfl | rfl | rfl
      · exact ⟨Sum.inr "min", by simp [mixKind, keyIs, Value.isStrOf], ch1⟩
      · exact ⟨Sum.inr "low", by simp [mixKind, keyIs, Value.isStrOf], ch2⟩
      · exact ⟨Sum.inr "max", by simp [mixKind, keyIs, Value.isStrOf], ch3⟩
      · exact ⟨Sum.inr "quota", by simp [mixKind, keyIs, Value.isStrOf], ch4⟩
      · exact ⟨Sum.inr "burst", by simp [mixKind, keyIs, Value.isStrOf], ch5⟩
      · exact ⟨Sum.inr "tops", by simp [mixKind, keyIs, Value.isStrOf], ch6⟩
      · exact ⟨Sum.inr "sets", by simp [mixKind, keyIs, Value.isStrOf], ch7⟩
      · exact ⟨Sum.inr "alone", by simp [mixKind, keyIs, Value.isStrOf], ch8⟩
    · show ([Sum.inr "min", Sum.inr "low", Sum.inr "max", Sum.inr "quota", Sum.inr "burst", Sum.inr "tops", Sum.inr "sets", Sum.inr "alone"] : List Key).Nodup
      decide
  · exact .cons ⟨rfl, L cl1 H⟩ (.cons ⟨rfl, L cl2 H⟩ (.cons ⟨rfl, .str _⟩ (.cons ⟨rfl, .str _⟩ (.cons ⟨rfl, L cl3 H⟩ (.cons ⟨rfl, .str _⟩ (.cons ⟨rfl, .non⟩ (.cons ⟨rfl, .int _⟩ (.nil))))))))
  · rcases (show j = 0 ∨ j = 1 ∨ j = 2 ∨ j = 3 ∨ j = 4 ∨ j = 5 ∨ j = 6 by omega) with rfl | rfl | rfl | rfl | rfl | rfl | rfl
    · exact kit_own cy1n0 ce0c ce0t cx1s0
    · show PySem.W.kitOne K (.ref q1) (.ref q1) = some true
      unfold PySem.W.kitOne
      exact if_pos (beq_self_eq_true _)
    · exact kit_own cy1n2 ce2c ce2t cx1s2
    · exact kit_own cy1n3 ce3c ce3t cx1s3
    · exact kit_own cy1n4 ce4c ce4t cx1s4
    · exact kit_own cy1n5 ce5c ce5t cx1s5
    · exact kit_own cy1n6 ce6c ce6t cx1s6
  · rcases (show j = 0 ∨ j = 1 ∨ j = 2 ∨ j = 3 ∨ j = 4 ∨ j = 5 ∨ j = 6 by omega) with rfl | rfl | rfl | rfl | rfl | rfl | rfl
    · exact kit_own cy2n0 ce0c ce0t cx2s0
    · exact kit_own cy2n1 ce1c ce1t cx2s1
    · show PySem.W.kitOne K (.ref q2) (.ref q2) = some true
      unfold PySem.W.kitOne
      exact if_pos (beq_self_eq_true _)
    · exact kit_own cy2n3 ce3c ce3t cx2s3
    · exact kit_own cy2n4 ce4c ce4t cx2s4
    · exact kit_own cy2n5 ce5c ce5t cx2s5
    · exact kit_own cy2n6 ce6c ce6t cx2s6
  · rcases (show j = 0 ∨ j = 1 ∨ j = 2 ∨ j = 3 ∨ j = 4 ∨ j = 5 ∨ j = 6 by omega) with rfl | rfl | rfl | rfl | rfl | rfl | rfl
    · exact kit_own cy3n0 ce0c ce0t cx3s0
    · exact kit_own cy3n1 ce1c ce1t cx3s1
    · exact kit_own cy3n2 ce2c ce2t cx3s2
    · show PySem.W.kitOne K (.ref q3) (.ref q3) = some true
      unfold PySem.W.kitOne
      exact if_pos (beq_self_eq_true _)
    · exact kit_own cy3n4 ce4c ce4t cx3s4
    · exact kit_own cy3n5 ce5c ce5t cx3s5
    · exact kit_own cy3n6 ce6c ce6t cx3s6
theorem all_mk {l : PySem.W.OpenLaw} {w : World} {K : PySem.W.Frag} {h : Heap} {mg : Str → Option Value} {fa C aL CE c1 P1 c2 P2 : Addr} {ec : Nat → Addr} {left : List (Key × V)} {m0 m1 m2 i : Addr} {f0 f1 f2 f3 f4 f5 f6 f7 f8 f9 f10 f11 f12 f13 f14 f15 f16 f17 f18 f19 f20 f21 f22 f23 f24 f25 f26 f27 f28 f29 f30 f31 f32 : Addr} (X : K.In h) (G : h.Ns mainGlobals mg) (hfa : mg "law" = some (.ref fa)) (TT : Tops l.prog w K mg C aL CE ec left)
    (D0 : DK K "is_integer" sIsInteger f0)
    (D1 : DK K "is_amount" sIsAmount f1)
    (D2 : DK K "divisor" sDivisor f2)
    (D3 : DK K "is_name" sIsName f3)
    (D4 : DK K "is_word" sIsWord f4)
    (D5 : DK K "is_endless" sIsEndless f5)
    (D6 : DK K "is_set" sIsSet f6)
    (D7 : DK K "may_have" sMayHave f7)
    (D8 : DK K "is_due" sIsDue f8)
    (D9 : DK K "is_dues" sIsDues f9)
    (D10 : DK K "is_group_row" sIsGroupRow f10)
    (D11 : DK K "may_stand" sMayStand f11)
    (D12 : DK K "_law_cell_at" sCellAt f12)
    (D13 : DK K "_law_mixed" sMixed f13)
    (D14 : DK K "_law_source" sSource f14)
    (D15 : DK K "_law_next" sNext f15)
    (D16 : DK K "_law_one" sOne f16)
    (D17 : DK K "_law_common" sCommon f17)
    (D18 : DK K "_law_fraction" sFraction f18)
    (D19 : DK K "_law_amount" sAmount f19)
    (D20 : DK K "_law_names" sNames2 f20)
    (D21 : DK K "_law_rows" sRows2 f21)
    (D22 : DK K "_law_leaves" sLeaves2 f22)
    (D23 : DK K "_law_words" sWords f23)
    (D24 : DK K "_law_value" sValue2 f24)
    (D25 : DK K "_law_full_rows" sFull f25)
    (D26 : DK K "check_group" sCheckGroup f26)
    (D27 : DK K "_law_said" sSaid f27)
    (D28 : DK K "_law_with" sWith f28)
    (D29 : DK K "_law_bad_value" sBad f29)
    (D30 : PySem.W.nsIn K mainGlobals "_law_refusals_right" = some (some (.ref f30)) ∧ ∃ fd, Fun K "_law_refusals_right" "_law_refusals_right" sRef f30 fd ∧ fd.code = .ref c1)
    (D31 : PySem.W.nsIn K mainGlobals "_law_turn_right" = some (some (.ref f31)) ∧ ∃ fd, Fun K "_law_turn_right" "_law_turn_right" sTurn f31 fd ∧ fd.code = .ref c2)
    (D32 : DK K "law" sLaw f32)
    (M0 : MK K C "with_due" "Tree.with_due" sTWith m0)
    (M1 : MK K C "due" "Tree.due" sTDue m1)
    (M2 : MK K C "__eq__" "Tree.__eq__" sTEq m2)
    (DI : IK K C i) (mk : PySem.W.makesIn K C = true) (kc : PySem.W.keepIn K (.ref C) = true)
    (OC : OwnCmp K C m2) {k1c k2c : Value} {k1d k2d : Option Addr} {k1v k2v : Array Value} {k1s k2s : Array (Option Value)} (lk1 : K.lookup c1 = some ⟨k1c, k1d, .fields k1v, k1s⟩) (lv1 : (k1v[11]? : Option Value) = some (.ref P1)) (lk2 : K.lookup c2 = some ⟨k2c, k2d, .fields k2v, k2s⟩) (lv2 : (k2v[11]? : Option Value) = some (.ref P2)) (pn : (P1 == P2) = false) (tk1 : PySem.W.codeHdIn K c1 P1 = true) (tn1 : K.lookup P1 = none) (th1 : h.get? P1 = some (PySem.W.tabObj #[])) (tk2 : PySem.W.codeHdIn K c2 P2 = true) (tn2 : K.lookup P2 = none) (th2 : h.get? P2 = some (PySem.W.tabObj #[])) :
    LamX.LawAtS l w K CX0 13 63 "_law_script" mg fa h := by
  have e1 := hfa.symm.trans (PySem.W.mg_of X G D32.at_)
  cases e1
  obtain ⟨d0, F0⟩ := D0.fn
  obtain ⟨d1, F1⟩ := D1.fn
  obtain ⟨d2, F2⟩ := D2.fn
  obtain ⟨d3, F3⟩ := D3.fn
  obtain ⟨d4, F4⟩ := D4.fn
  obtain ⟨d5, F5⟩ := D5.fn
  obtain ⟨d6, F6⟩ := D6.fn
  obtain ⟨d7, F7⟩ := D7.fn
  obtain ⟨d8, F8⟩ := D8.fn
  obtain ⟨d9, F9⟩ := D9.fn
  obtain ⟨d10, F10⟩ := D10.fn
  obtain ⟨d11, F11⟩ := D11.fn
  obtain ⟨d12, F12⟩ := D12.fn
  obtain ⟨d13, F13⟩ := D13.fn
  obtain ⟨d14, F14⟩ := D14.fn
  obtain ⟨d15, F15⟩ := D15.fn
  obtain ⟨d16, F16⟩ := D16.fn
  obtain ⟨d17, F17⟩ := D17.fn
  obtain ⟨d18, F18⟩ := D18.fn
  obtain ⟨d19, F19⟩ := D19.fn
  obtain ⟨d20, F20⟩ := D20.fn
  obtain ⟨d21, F21⟩ := D21.fn
  obtain ⟨d22, F22⟩ := D22.fn
  obtain ⟨d23, F23⟩ := D23.fn
  obtain ⟨d24, F24⟩ := D24.fn
  obtain ⟨d25, F25⟩ := D25.fn
  obtain ⟨d26, F26⟩ := D26.fn
  obtain ⟨d27, F27⟩ := D27.fn
  obtain ⟨d28, F28⟩ := D28.fn
  obtain ⟨d29, F29⟩ := D29.fn
  obtain ⟨g30, d30, F30, hc1⟩ := D30
  obtain ⟨g31, d31, F31, hc2⟩ := D31
  obtain ⟨d32, F32⟩ := D32.fn
  obtain ⟨e0, E0⟩ := M0.fn
  obtain ⟨e1, E1⟩ := M1.fn
  obtain ⟨e2, E2⟩ := M2.fn
  obtain ⟨di, FIn⟩ := DI.fn
  have T := TT.tp
  have TCl := TT.tc
  have TA1 := TT.ta
  have b0 : Binds K d0 ["thing"] [] := F0.binds fun _ _ _ _ _ _ us hl => match us, hl with | [_], _ => rfl
  have b1 : Binds K d1 ["thing"] [] := F1.binds fun _ _ _ _ _ _ us hl => match us, hl with | [_], _ => rfl
  have b2 : Binds K d2 ["one", "other"] [] := F2.binds fun _ _ _ _ _ _ us hl => match us, hl with | [_, _], _ => rfl
  have b3 : Binds K d3 ["thing"] [] := F3.binds fun _ _ _ _ _ _ us hl => match us, hl with | [_], _ => rfl
  have b4 : Binds K d4 ["thing"] [] := F4.binds fun _ _ _ _ _ _ us hl => match us, hl with | [_], _ => rfl
  have b5 : Binds K d5 ["thing"] [] := F5.binds fun _ _ _ _ _ _ us hl => match us, hl with | [_], _ => rfl
  have b6 : Binds K d6 ["thing"] [] := F6.binds fun _ _ _ _ _ _ us hl => match us, hl with | [_], _ => rfl
  have b7 : Binds K d7 ["word", "value"] [] := F7.binds fun _ _ _ _ _ _ us hl => match us, hl with | [_, _], _ => rfl
  have b8 : Binds K d8 ["thing"] [] := F8.binds fun _ _ _ _ _ _ us hl => match us, hl with | [_], _ => rfl
  have b9 : Binds K d9 ["thing"] [] := F9.binds fun _ _ _ _ _ _ us hl => match us, hl with | [_], _ => rfl
  have b10 : Binds K d10 ["thing"] [] := F10.binds fun _ _ _ _ _ _ us hl => match us, hl with | [_], _ => rfl
  have b11 : Binds K d11 ["tree", "row"] [] := F11.binds fun _ _ _ _ _ _ us hl => match us, hl with | [_, _], _ => rfl
  have b12 : Binds K d12 ["_law_script", "_law_k"] [] := F12.binds fun _ _ _ _ _ _ us hl => match us, hl with | [_, _], _ => rfl
  have b13 : Binds K d13 ["_law_cell", "_law_k"] [] := F13.binds fun _ _ _ _ _ _ us hl => match us, hl with | [_, _], _ => rfl
  have b14 : Binds K d14 ["_law_script", "_law_k"] [] := F14.binds fun _ _ _ _ _ _ us hl => match us, hl with | [_, _], _ => rfl
  have b15 : Binds K d15 ["_law_source_here", "_law_many"] [] := F15.binds fun _ _ _ _ _ _ us hl => match us, hl with | [_, _], _ => rfl
  have b16 : Binds K d16 ["_law_source_here", "_law_things"] [] := F16.binds fun _ _ _ _ _ _ us hl => match us, hl with | [_, _], _ => rfl
  have b17 : Binds K d17 ["_law_one_here", "_law_other"] [] := F17.binds fun _ _ _ _ _ _ us hl => match us, hl with | [_, _], _ => rfl
  have b18 : Binds K d18 ["_law_top", "_law_bottom"] [] := F18.binds fun _ _ _ _ _ _ us hl => match us, hl with | [_, _], _ => rfl
  have b19 : Binds K d19 ["_law_source_here"] [] := F19.binds fun _ _ _ _ _ _ us hl => match us, hl with | [_], _ => rfl
  have b20 : Binds K d20 ["_law_source_here", "_law_many"] [] := F20.binds fun _ _ _ _ _ _ us hl => match us, hl with | [_, _], _ => rfl
  have b21 : Binds K d21 ["_law_source_here", "_law_many", "_law_words_here"] [] := F21.binds fun _ _ _ _ _ _ us hl => match us, hl with | [_, _, _], _ => rfl
  have b22 : Binds K d22 ["_law_rows_here"] [] := F22.binds fun _ _ _ _ _ _ us hl => match us, hl with | [_], _ => rfl
  have b23 : Binds K d23 [] [] := F23.binds fun _ _ _ _ _ _ us hl => match us, hl with | [], _ => rfl
  have b24 : Binds K d24 ["_law_source_here", "_law_word"] [] := F24.binds fun _ _ _ _ _ _ us hl => match us, hl with | [_, _], _ => rfl
  have b25 : Binds K d25 ["_law_source_here", "_law_many"] [] := F25.binds fun _ _ _ _ _ _ us hl => match us, hl with | [_, _], _ => rfl
  have b26 : Binds K d26 ["tree", "name"] [] := F26.binds fun _ _ _ _ _ _ us hl => match us, hl with | [_, _], _ => rfl
  have b27 : Binds K d27 ["_law_ask"] [] := F27.binds fun _ _ _ _ _ _ us hl => match us, hl with | [_], _ => rfl
  have b28 : Binds K d28 ["_law_lines", "_law_one_here", "_law_word", "_law_value_here"] [] := F28.binds fun _ _ _ _ _ _ us hl => match us, hl with | [_, _, _, _], _ => rfl
  have b29 : Binds K d29 ["_law_source_here", "_law_word"] [] := F29.binds fun _ _ _ _ _ _ us hl => match us, hl with | [_, _], _ => rfl
  have b30 : Binds K d30 ["_law_source_here", "_law_tree", "_law_one_here"] [] := F30.binds fun _ _ _ _ _ _ us hl => match us, hl with | [_, _, _], _ => rfl
  have b31 : Binds K d31 ["_law_source_here", "_law_tree", "_law_lines", "_law_flag"] [] := F31.binds fun _ _ _ _ _ _ us hl => match us, hl with | [_, _, _, _], _ => rfl
  have v0 : Binds K e0 ["self", "name", "word", "value"] [] := E0.binds fun _ _ _ _ _ _ us hl => match us, hl with | [_, _, _, _], _ => rfl
  have v1 : Binds K e1 ["self", "name", "word"] [] := E1.binds fun _ _ _ _ _ _ us hl => match us, hl with | [_, _, _], _ => rfl
  have v2 : Binds K e2 ["self", "other"] [] := E2.binds fun _ _ _ _ _ _ us hl => match us, hl with | [_, _], _ => rfl
  obtain ⟨oc, od, kV, doc, pm, an, cdv, ct, osl, rfl, lk, hcd⟩ := id F32.ex
  refine ⟨PySem.W.fnOf "law" "law" (defArgs sLaw) (defBody sLaw) (defScope sLaw) .none kV doc pm an cdv ct, [(c1, P1), (c2, P2)], spLaw K (Tb P1 P2), fun p hp => ?_, fun p hp => ?_, fun p hp => ?_, fun s v => .of_eq rfl, fun H a ns hl _ hT hS => ?_, fun base _ _ hB => ?_⟩
  · rcases List.mem_cons.mp hp with rfl | hp
    · exact th1
    · obtain rfl := List.mem_singleton.mp hp
      exact th2
  · rcases List.mem_cons.mp hp with rfl | hp
    · exact tn1
    · obtain rfl := List.mem_singleton.mp hp
      exact tn2
  · rcases List.mem_cons.mp hp with rfl | hp
    · exact PySem.W.codeHd_of_K X tk1
    · obtain rfl := List.mem_singleton.mp hp
      exact PySem.W.codeHd_of_K X tk2
  · refine ⟨a, ns, rfl, hS, hl, fun p hp => ?_, fun _ => rfl⟩
    rcases List.mem_cons.mp hp with rfl | hp
    · exact .nil (hT (c1, P1) List.mem_cons_self)
    · obtain rfl := List.mem_singleton.mp hp
      exact .nil (hT (c2, P2) (List.mem_cons_of_mem _ (List.mem_singleton.mpr rfl)))
  have TB1 : LamX.TabB base mg c1 P1 := hB (c1, P1) List.mem_cons_self
  have TB2 : LamX.TabB base mg c2 P2 := hB (c2, P2) (List.mem_cons_of_mem _ (List.mem_singleton.mpr rfl))
  have hne : P1 ≠ P2 := fun z => by
    rw [z, beq_self_eq_true] at pn
    cases pn
  have c0 : Cal l.prog w K mg base "is_integer" ["thing"] 1 spIsInteger f0 d0 := ⟨ok_isInteger F0 T, PySem.W.mg_of X G D0.at_, F0.kp, b0⟩
  have c2 : Cal l.prog w K mg base "divisor" ["one", "other"] 1 spDivisor f2 d2 := ⟨ok_divisor F2 T, PySem.W.mg_of X G D2.at_, F2.kp, b2⟩
  have c1 : Cal l.prog w K mg base "is_amount" ["thing"] 2 (spIsAmount K) f1 d1 := ⟨ok_isAmount F1 T c0 c2, PySem.W.mg_of X G D1.at_, F1.kp, b1⟩
  have c5 : Cal l.prog w K mg base "is_endless" ["thing"] 1 (spIsEndless K) f5 d5 := ⟨ok_isEndless F5 T, PySem.W.mg_of X G D5.at_, F5.kp, b5⟩
  have c4 : Cal l.prog w K mg base "is_word" ["thing"] 1 spIsWord f4 d4 := ⟨ok_isWord F4 T, PySem.W.mg_of X G D4.at_, F4.kp, b4⟩
  have c6 : Cal l.prog w K mg base "is_set" ["thing"] 2 (spIsSet K) f6 d6 := ⟨ok_isSet F6 T c0, PySem.W.mg_of X G D6.at_, F6.kp, b6⟩
  have c7 : Cal l.prog w K mg base "may_have" ["word", "value"] 3 (spMayHave K) f7 d7 := ⟨ok_mayHave F7 T c1 c0 c6 c5, PySem.W.mg_of X G D7.at_, F7.kp, b7⟩
  have c8 : Cal l.prog w K mg base "is_due" ["thing"] 4 (spIsDue K) f8 d8 := ⟨ok_isDue F8 T c4 c7, PySem.W.mg_of X G D8.at_, F8.kp, b8⟩
  have c3 : Cal l.prog w K mg base "is_name" ["thing"] 1 spIsName f3 d3 := ⟨ok_isName F3 T, PySem.W.mg_of X G D3.at_, F3.kp, b3⟩
  have c9 : Cal l.prog w K mg base "is_dues" ["thing"] 5 (spIsDues K) f9 d9 := ⟨ok_isDues F9 T c8, PySem.W.mg_of X G D9.at_, F9.kp, b9⟩
  have c10 : Cal l.prog w K mg base "is_group_row" ["thing"] 6 (spIsGroupRow K) f10 d10 := ⟨ok_isGroupRow F10 T c3 c9, PySem.W.mg_of X G D10.at_, F10.kp, b10⟩
  have c11 : Cal l.prog w K mg base "may_stand" ["tree", "row"] 2 (spMayStand K C) f11 d11 := ⟨ok_mayStand F11 T TCl c5, PySem.W.mg_of X G D11.at_, F11.kp, b11⟩
  have c12 : Cal l.prog w K mg base "_law_cell_at" ["_law_script", "_law_k"] 1 (spCellAt K) f12 d12 := ⟨ok_cellAt F12 TA1, PySem.W.mg_of X G D12.at_, F12.kp, b12⟩
  have c13 : Cal l.prog w K mg base "_law_mixed" ["_law_cell", "_law_k"] 1 spMixed f13 d13 := ⟨ok_mixed F13 TA1, PySem.W.mg_of X G D13.at_, F13.kp, b13⟩
  have c15 : Cal l.prog w K mg base "_law_next" ["_law_source_here", "_law_many"] 2 spNext f15 d15 := ⟨ok_next F15 TA1 c13, PySem.W.mg_of X G D15.at_, F15.kp, b15⟩
  have c14 : Cal l.prog w K mg base "_law_source" ["_law_script", "_law_k"] 2 (spSource K) f14 d14 := ⟨ok_source F14 TA1 c13 c12, PySem.W.mg_of X G D14.at_, F14.kp, b14⟩
  have c16 : Cal l.prog w K mg base "_law_one" ["_law_source_here", "_law_things"] 3 (spOne K) f16 d16 := ⟨ok_one F16 TA1 c15, PySem.W.mg_of X G D16.at_, F16.kp, b16⟩
  have c17 : Cal l.prog w K mg base "_law_common" ["_law_one_here", "_law_other"] 1 spCommon f17 d17 := ⟨ok_common F17 TA1, PySem.W.mg_of X G D17.at_, F17.kp, b17⟩
  have c18 : Cal l.prog w K mg base "_law_fraction" ["_law_top", "_law_bottom"] 2 spFraction f18 d18 := ⟨ok_fraction F18 TA1 c17, PySem.W.mg_of X G D18.at_, F18.kp, b18⟩
  have c19 : Cal l.prog w K mg base "_law_amount" ["_law_source_here"] 3 spAmount f19 d19 := ⟨ok_amount F19 TA1 c15 c18, PySem.W.mg_of X G D19.at_, F19.kp, b19⟩
  have c23 : Cal l.prog w K mg base "_law_words" [] 1 spWords f23 d23 := ⟨ok_words F23 , PySem.W.mg_of X G D23.at_, F23.kp, b23⟩
  have c20 : Cal l.prog w K mg base "_law_names" ["_law_source_here", "_law_many"] 3 spNames2 f20 d20 := ⟨ok_names2 F20 TA1 c15, PySem.W.mg_of X G D20.at_, F20.kp, b20⟩
  have c24 : Cal l.prog w K mg base "_law_value" ["_law_source_here", "_law_word"] 4 (spValue K) f24 d24 := ⟨ok_value F24 c15 c19 c16, PySem.W.mg_of X G D24.at_, F24.kp, b24⟩
  have c21 : Cal l.prog w K mg base "_law_rows" ["_law_source_here", "_law_many", "_law_words_here"] 4 (spRows2 K) f21 d21 := ⟨ok_rows2 F21 TA1 c15 c20, PySem.W.mg_of X G D21.at_, F21.kp, b21⟩
  have c22 : Cal l.prog w K mg base "_law_leaves" ["_law_rows_here"] 1 (spLeaves K) f22 d22 := ⟨ok_leaves F22 , PySem.W.mg_of X G D22.at_, F22.kp, b22⟩
  have c25 : Cal l.prog w K mg base "_law_full_rows" ["_law_source_here", "_law_many"] 5 (spFull K) f25 d25 := ⟨ok_full F25 TA1 c15 c21 c22 c23 c24, PySem.W.mg_of X G D25.at_, F25.kp, b25⟩
  have c26 : CalX l.prog w K mg base "check_group" ["tree", "name"] 1 (spCG K C (ec 1)) f26 d26 := ⟨ok_checkGroup F26 T TCl TT.x1, PySem.W.mg_of X G D26.at_, F26.kp, b26⟩
  have z4 : Cal l.prog w K mg base "is_word" ["thing"] 1 (spIsWord2 K) f4 d4 := ⟨ok_isWord2 F4 T, PySem.W.mg_of X G D4.at_, F4.kp, b4⟩
  have u0 : Cal l.prog w K mg base "is_integer" ["thing"] 1 (spIntU K) f0 d0 := ⟨ok_intU F0 T, PySem.W.mg_of X G D0.at_, F0.kp, b0⟩
  have u1 : Cal l.prog w K mg base "is_amount" ["thing"] 2 (spNoAmt K) f1 d1 := ⟨ok_noAmt F1 T u0 c2, PySem.W.mg_of X G D1.at_, F1.kp, b1⟩
  have u6 : Cal l.prog w K mg base "is_set" ["thing"] 2 (spNoSet K) f6 d6 := ⟨ok_noSet F6 T u0, PySem.W.mg_of X G D6.at_, F6.kp, b6⟩
  have u5 : Cal l.prog w K mg base "is_endless" ["thing"] 1 (spNoEnd K) f5 d5 := ⟨ok_noEnd F5 T, PySem.W.mg_of X G D5.at_, F5.kp, b5⟩
  have y7 : Cal l.prog w K mg base "may_have" ["word", "value"] 3 (fun vs H Q E => spMayHave K vs H Q E ∨ spBadV K vs H Q E) f7 d7 := ⟨fn_or (c7.ok) (ok_badV F7 T u1 u0 u6 u5), PySem.W.mg_of X G D7.at_, F7.kp, b7⟩
  have FI : FnOk l.prog w K mg base CX0 7 i di ["self", "rows", "handing"] (spInit K C) := ok_init FIn T TCl TT.lv c10 c11
  have MK : Mk K C i := ⟨mk, DI.me.at_, DI.me.fn, kc⟩
  have w1 : FnOk l.prog w K mg base (L2.CX l.prog w) 2 m1 e1 ["self", "name", "word"] (spTDue K C (ec 1) (ec 2)) := ok_tdue E1 TCl TT.x2 c26 z4
  have w0 : FnOk l.prog w K mg base (L2.CX l.prog w) 9 m0 e0 ["self", "name", "word", "value"] (spWD K C (ec 1) (ec 2) (ec 3)) := ok_with E0 TCl TT.x2 TT.x3 c26 z4 y7 c5 MK FI (init_binds2 FIn)
  have w2 : FnOk l.prog w K mg base CX0 1 m2 e2 ["self", "other"] (spTEq K C) := ok_teq E2 T TCl TT.ti
  have c28 : Cal l.prog w K mg base "_law_with" ["_law_lines", "_law_one_here", "_law_word", "_law_value_here"] 1 (spWith K) f28 d28 := ⟨ok_lwith F28 TA1, PySem.W.mg_of X G D28.at_, F28.kp, b28⟩
  have c29 : Cal l.prog w K mg base "_law_bad_value" ["_law_source_here", "_law_word"] 4 (spBad K) f29 d29 := ⟨ok_bad F29 TA1 c16, PySem.W.mg_of X G D29.at_, F29.kp, b29⟩
  have c30 : Cal l.prog w K mg base "_law_refusals_right" ["_law_source_here", "_law_tree", "_law_one_here"] 12 (spRef K C (Tb P1 P2)) f30 d30 := ⟨ok_ref F30 hc1 hne TB1 TCl TT.xs rfl rfl rfl TT.d1 TT.d2 TT.d3 M0.me w0 v0 F27 (PySem.W.mg_of X G D27.at_) F27.kp b27 c16 c23 c29, PySem.W.mg_of X G g30, F30.kp, b30⟩
  have c31 : Cal l.prog w K mg base "_law_turn_right" ["_law_source_here", "_law_tree", "_law_lines", "_law_flag"] 12 (spTurn K C (Tb P1 P2)) f31 d31 := ⟨ok_turn F31 hc2 hne TB2 TCl TT.xs rfl rfl rfl TT.d3 M0.me w0 v0 M1.me w1 v1 OC w2 v2 MK FI (init_binds2 FIn) F27 (PySem.W.mg_of X G D27.at_) F27.kp b27 c16 c23 c24 c22 c28, PySem.W.mg_of X G g31, F31.kp, b31⟩
  exact ok_law F32 TA1 TCl TT.tn MK FI (init_binds2 FIn) M0.me w0 v0 OC w2 v2 c14 c15 c25 c16 c30 c31
theorem walk {l : PySem.W.OpenLaw} {q : Program} {loose : List Str} {XP : (Str → Option Value) → Heap → Prop} {YP : World → Heap → Prop} {d : DefRec} {K : Params → PySem.W.Frag} (hn : l.most = some 63) (hdf : d.params.defaults = [])
    (hY : ∀ (w : World) (h : Heap), YP w h → (K w.params).In h)
    (F : ∀ (w : World) (mg : Str → Option Value) (fa : Addr) (h : Heap), YP w h → (K w.params).In h → h.Ns mainGlobals mg → mg d.name = some (.ref fa) → LamX.LawAtS l w (K w.params) CX0 13 63 "_law_script" mg fa h) :
    PySem.W.WalkO q loose XP YP l.row.toRowW d [] (fun f vs => PySem.call f vs) :=
  LamX.walk_ofTs (n := 63) (k := 13) (x := "_law_script") (CX := fun _ => CX0) hn (by decide) hdf ⟨rfl, by decide, by decide⟩ hY F fun _ _ _ _ _ z => z
end Bd
end
open PySem PySem.W PyProof.Rows
set_option maxRecDepth 100000 in
set_option maxHeartbeats 0 in
theorem PySem.Challenge.cw_branchdues_k04_dues_changed_holds : PySem.Challenge.rw_branchdues_k04_dues_changed.Holds := by
  w_on; o_law; k_head; (case hw => w_witness2)
  k_fill
  refine Bd.walk (l := PySem.Challenge.rw_branchdues_k04_dues_changed) rfl rfl (fun w h Y => PySem.W.km_in_of Y) ?F
  case F =>
    intro w mg fa h Y KX G hmg
    refine' Bd.all_mk KX G hmg (Bd.tops_mk KX G ?zzcz_len ?zzcz_int ?zzcz_bool ?zzcz_str ?zzcz_tuple ?zzcz_list ?zzcz_dict ?zzcz_all ?zzcz_enumerate ?zzcz_isinstance ?zzcz_range ?zzcz_abs ?zzcz_max ?zzcz_min ?zzcz_ValueError ?zzcgL ?zzcgE ?zzcgG ?zzcgO ?zzckO ?zzcl1 ?zzcl2 ?zzcl3 ?zzcgC ?zzcpg ?zzchd ?zzcpo ?zzcsa ?zzcnO ?zzcnP ?zzcnK ?zzcnT ?zzcnH ?zzcE ?zzce0g ?zzce1g ?zzce2g ?zzce3g ?zzce4g ?zzce5g ?zzce6g ?zzcEb ?zzcEh ?zzcEt ?zzce0c ?zzce0t ?zzce1c ?zzce1t ?zzce2c ?zzce2t ?zzce3c ?zzce3t ?zzce4c ?zzce4t ?zzce5c ?zzce5t ?zzce6c ?zzce6t ?zzciA ?zzciM ?zzcin ?zzcit ?zzcx1k ?zzcx1b ?zzcx1g ?zzcx1a ?zzcx1h ?zzcx1c ?zzcx1m ?zzcx1e ?zzcx1v ?zzcx1s0 ?zzcx1s2 ?zzcx1s3 ?zzcx1s4 ?zzcx1s5 ?zzcx1s6 ?zzcx2k ?zzcx2b ?zzcx2g ?zzcx2a ?zzcx2h ?zzcx2c ?zzcx2m ?zzcx2e ?zzcx2v ?zzcx2s0 ?zzcx2s1 ?zzcx2s3 ?zzcx2s4 ?zzcx2s5 ?zzcx2s6 ?zzcx3k ?zzcx3b ?zzcx3g ?zzcx3a ?zzcx3h ?zzcx3c ?zzcx3m ?zzcx3e ?zzcx3v ?zzcx3s0 ?zzcx3s1 ?zzcx3s2 ?zzcx3s4 ?zzcx3s5 ?zzcx3s6 ?zzclo ?zzch1 ?zzch2 ?zzch3 ?zzch4 ?zzch5 ?zzch6 ?zzch7 ?zzch8 ?zzcy1 ?zzcy1n0 ?zzcy1n2 ?zzcy1n3 ?zzcy1n4 ?zzcy1n5 ?zzcy1n6 ?zzcy2 ?zzcy2n0 ?zzcy2n1 ?zzcy2n3 ?zzcy2n4 ?zzcy2n5 ?zzcy2n6 ?zzcy3 ?zzcy3n0 ?zzcy3n1 ?zzcy3n2 ?zzcy3n4 ?zzcy3n5 ?zzcy3n6) (Bd.dk_mk ?zza0 ?zzb0 ?zzd0 ?zzg0) (Bd.dk_mk ?zza1 ?zzb1 ?zzd1 ?zzg1) (Bd.dk_mk ?zza2 ?zzb2 ?zzd2 ?zzg2) (Bd.dk_mk ?zza3 ?zzb3 ?zzd3 ?zzg3) (Bd.dk_mk ?zza4 ?zzb4 ?zzd4 ?zzg4) (Bd.dk_mk ?zza5 ?zzb5 ?zzd5 ?zzg5) (Bd.dk_mk ?zza6 ?zzb6 ?zzd6 ?zzg6) (Bd.dk_mk ?zza7 ?zzb7 ?zzd7 ?zzg7) (Bd.dk_mk ?zza8 ?zzb8 ?zzd8 ?zzg8) (Bd.dk_mk ?zza9 ?zzb9 ?zzd9 ?zzg9) (Bd.dk_mk ?zza10 ?zzb10 ?zzd10 ?zzg10) (Bd.dk_mk ?zza11 ?zzb11 ?zzd11 ?zzg11) (Bd.dk_mk ?zza12 ?zzb12 ?zzd12 ?zzg12) (Bd.dk_mk ?zza13 ?zzb13 ?zzd13 ?zzg13) (Bd.dk_mk ?zza14 ?zzb14 ?zzd14 ?zzg14) (Bd.dk_mk ?zza15 ?zzb15 ?zzd15 ?zzg15) (Bd.dk_mk ?zza16 ?zzb16 ?zzd16 ?zzg16) (Bd.dk_mk ?zza17 ?zzb17 ?zzd17 ?zzg17) (Bd.dk_mk ?zza18 ?zzb18 ?zzd18 ?zzg18) (Bd.dk_mk ?zza19 ?zzb19 ?zzd19 ?zzg19) (Bd.dk_mk ?zza20 ?zzb20 ?zzd20 ?zzg20) (Bd.dk_mk ?zza21 ?zzb21 ?zzd21 ?zzg21) (Bd.dk_mk ?zza22 ?zzb22 ?zzd22 ?zzg22) (Bd.dk_mk ?zza23 ?zzb23 ?zzd23 ?zzg23) (Bd.dk_mk ?zza24 ?zzb24 ?zzd24 ?zzg24) (Bd.dk_mk ?zza25 ?zzb25 ?zzd25 ?zzg25) (Bd.dk_mk ?zza26 ?zzb26 ?zzd26 ?zzg26) (Bd.dk_mk ?zza27 ?zzb27 ?zzd27 ?zzg27) (Bd.dk_mk ?zza28 ?zzb28 ?zzd28 ?zzg28) (Bd.dk_mk ?zza29 ?zzb29 ?zzd29 ?zzg29) (Bd.cod_mk ?zza30 ?zzb30 ?zzd30 ?zzg30) (Bd.cod_mk ?zza31 ?zzb31 ?zzd31 ?zzg31) (Bd.dk_mk ?zza32 ?zzb32 ?zzd32 ?zzg32) (Bd.mk_mk ?zzm0a ?zzm0b ?zzm0c ?zzm0d ?zzm0e) (Bd.mk_mk ?zzm1a ?zzm1b ?zzm1c ?zzm1d ?zzm1e) (Bd.mk_mk ?zzm2a ?zzm2b ?zzm2c ?zzm2d ?zzm2e) (Bd.ik_mk ?zzs1 ?zzs2 ?zzs3 ?zzs4 ?zzs5 ?zzs6) ?zzmk ?zzkc ⟨?zzo1, ?zzo2, ?zzo3, ?zzo4, ?zzo5, ?zzo6, ?zzo7, ?zzo8, ?zzo9, ?zzp1, ?zzp2, ?zzp3, ?zzp4, ?zzp5⟩ ?zzlk1 ?zzlv1 ?zzlk2 ?zzlv2 ?zzpn ?zztk1 ?zztn1 ?zzth1 ?zztk2 ?zztn2 ?zzth2
    (case zzcz_len => k_is)
    (case zzcz_int => k_is)
    (case zzcz_bool => k_is)
    (case zzcz_str => k_is)
    (case zzcz_tuple => k_is)
    (case zzcz_list => k_is)
    (case zzcz_dict => k_is)
    (case zzcz_all => k_is)
    (case zzcz_enumerate => k_is)
    (case zzcz_isinstance => k_is)
    (case zzcz_range => k_is)
    (case zzcz_abs => k_is)
    (case zzcz_max => k_is)
    (case zzcz_min => k_is)
    (case zzcz_ValueError => k_is)
    (case zzcgL => k_is)
    (case zzcgE => k_is)
    (case zzcgG => k_is)
    (case zzcgO => k_is)
    (case zzckO => k_is)
    (case zzcl1 => k_is)
    (case zzcl2 => k_is)
    (case zzcl3 => k_is)
    (case zzcgC => k_is)
    (case zzcpg => k_is)
    (case zzchd => k_is)
    (case zzcpo => k_is)
    (case zzcsa => k_is)
    (case zzcnO => k_is)
    (case zzcnP => k_is)
    (case zzcnK => k_is)
    (case zzcnT => k_is)
    (case zzcnH => k_is)
    (case zzcE => k_is)
    (case zzce0g => k_is)
    (case zzce1g => k_is)
    (case zzce2g => k_is)
    (case zzce3g => k_is)
    (case zzce4g => k_is)
    (case zzce5g => k_is)
    (case zzce6g => k_is)
    (case zzcEb => k_is)
    (case zzcEh => k_is)
    (case zzcEt => k_is)
    (case zzce0c => k_is)
    (case zzce0t => k_is)
    (case zzce1c => k_is)
    (case zzce1t => k_is)
    (case zzce2c => k_is)
    (case zzce2t => k_is)
    (case zzce3c => k_is)
    (case zzce3t => k_is)
    (case zzce4c => k_is)
    (case zzce4t => k_is)
    (case zzce5c => k_is)
    (case zzce5t => k_is)
    (case zzce6c => k_is)
    (case zzce6t => k_is)
    (case zzciA => k_is)
    (case zzciM => k_is)
    (case zzcin => k_is)
    (case zzcit => k_is)
    (case zzcx1k => k_is)
    (case zzcx1b => k_is)
    (case zzcx1g => k_is)
    (case zzcx1a => k_is)
    (case zzcx1h => k_is)
    (case zzcx1c => k_is)
    (case zzcx1m => k_is)
    (case zzcx1e => k_is)
    (case zzcx1v => k_is)
    (case zzcx1s0 => k_is)
    (case zzcx1s2 => k_is)
    (case zzcx1s3 => k_is)
    (case zzcx1s4 => k_is)
    (case zzcx1s5 => k_is)
    (case zzcx1s6 => k_is)
    (case zzcx2k => k_is)
    (case zzcx2b => k_is)
    (case zzcx2g => k_is)
    (case zzcx2a => k_is)
    (case zzcx2h => k_is)
    (case zzcx2c => k_is)
    (case zzcx2m => k_is)
    (case zzcx2e => k_is)
    (case zzcx2v => k_is)
    (case zzcx2s0 => k_is)
    (case zzcx2s1 => k_is)
    (case zzcx2s3 => k_is)
    (case zzcx2s4 => k_is)
    (case zzcx2s5 => k_is)
    (case zzcx2s6 => k_is)
    (case zzcx3k => k_is)
    (case zzcx3b => k_is)
    (case zzcx3g => k_is)
    (case zzcx3a => k_is)
    (case zzcx3h => k_is)
    (case zzcx3c => k_is)
    (case zzcx3m => k_is)
    (case zzcx3e => k_is)
    (case zzcx3v => k_is)
    (case zzcx3s0 => k_is)
    (case zzcx3s1 => k_is)
    (case zzcx3s2 => k_is)
    (case zzcx3s4 => k_is)
    (case zzcx3s5 => k_is)
    (case zzcx3s6 => k_is)
    (case zzclo => first | rfl | kernel_rfl | decide)
    (case zzch1 => first | rfl | kernel_rfl | decide)
    (case zzch2 => first | rfl | kernel_rfl | decide)
    (case zzch3 => first | rfl | kernel_rfl | decide)
    (case zzch4 => first | rfl | kernel_rfl | decide)
    (case zzch5 => first | rfl | kernel_rfl | decide)
    (case zzch6 => first | rfl | kernel_rfl | decide)
    (case zzch7 => first | rfl | kernel_rfl | decide)
    (case zzch8 => first | rfl | kernel_rfl | decide)
    (case zzcy1 => first | rfl | kernel_rfl | decide)
    (case zzcy1n0 => first | rfl | kernel_rfl | decide)
    (case zzcy1n2 => first | rfl | kernel_rfl | decide)
    (case zzcy1n3 => first | rfl | kernel_rfl | decide)
    (case zzcy1n4 => first | rfl | kernel_rfl | decide)
    (case zzcy1n5 => first | rfl | kernel_rfl | decide)
    (case zzcy1n6 => first | rfl | kernel_rfl | decide)
    (case zzcy2 => first | rfl | kernel_rfl | decide)
    (case zzcy2n0 => first | rfl | kernel_rfl | decide)
    (case zzcy2n1 => first | rfl | kernel_rfl | decide)
    (case zzcy2n3 => first | rfl | kernel_rfl | decide)
    (case zzcy2n4 => first | rfl | kernel_rfl | decide)
    (case zzcy2n5 => first | rfl | kernel_rfl | decide)
    (case zzcy2n6 => first | rfl | kernel_rfl | decide)
    (case zzcy3 => first | rfl | kernel_rfl | decide)
    (case zzcy3n0 => first | rfl | kernel_rfl | decide)
    (case zzcy3n1 => first | rfl | kernel_rfl | decide)
    (case zzcy3n2 => first | rfl | kernel_rfl | decide)
    (case zzcy3n4 => first | rfl | kernel_rfl | decide)
    (case zzcy3n5 => first | rfl | kernel_rfl | decide)
    (case zzcy3n6 => first | rfl | kernel_rfl | decide)
    (case zza0 => k_is)
    (case zzb0 => k_is)
    (case zzd0 => k_is)
    (case zzg0 => k_is)
    (case zza1 => k_is)
    (case zzb1 => k_is)
    (case zzd1 => k_is)
    (case zzg1 => k_is)
    (case zza2 => k_is)
    (case zzb2 => k_is)
    (case zzd2 => k_is)
    (case zzg2 => k_is)
    (case zza3 => k_is)
    (case zzb3 => k_is)
    (case zzd3 => k_is)
    (case zzg3 => k_is)
    (case zza4 => k_is)
    (case zzb4 => k_is)
    (case zzd4 => k_is)
    (case zzg4 => k_is)
    (case zza5 => k_is)
    (case zzb5 => k_is)
    (case zzd5 => k_is)
    (case zzg5 => k_is)
    (case zza6 => k_is)
    (case zzb6 => k_is)
    (case zzd6 => k_is)
    (case zzg6 => k_is)
    (case zza7 => k_is)
    (case zzb7 => k_is)
    (case zzd7 => k_is)
    (case zzg7 => k_is)
    (case zza8 => k_is)
    (case zzb8 => k_is)
    (case zzd8 => k_is)
    (case zzg8 => k_is)
    (case zza9 => k_is)
    (case zzb9 => k_is)
    (case zzd9 => k_is)
    (case zzg9 => k_is)
    (case zza10 => k_is)
    (case zzb10 => k_is)
    (case zzd10 => k_is)
    (case zzg10 => k_is)
    (case zza11 => k_is)
    (case zzb11 => k_is)
    (case zzd11 => k_is)
    (case zzg11 => k_is)
    (case zza12 => k_is)
    (case zzb12 => k_is)
    (case zzd12 => k_is)
    (case zzg12 => k_is)
    (case zza13 => k_is)
    (case zzb13 => k_is)
    (case zzd13 => k_is)
    (case zzg13 => k_is)
    (case zza14 => k_is)
    (case zzb14 => k_is)
    (case zzd14 => k_is)
    (case zzg14 => k_is)
    (case zza15 => k_is)
    (case zzb15 => k_is)
    (case zzd15 => k_is)
    (case zzg15 => k_is)
    (case zza16 => k_is)
    (case zzb16 => k_is)
    (case zzd16 => k_is)
    (case zzg16 => k_is)
    (case zza17 => k_is)
    (case zzb17 => k_is)
    (case zzd17 => k_is)
    (case zzg17 => k_is)
    (case zza18 => k_is)
    (case zzb18 => k_is)
    (case zzd18 => k_is)
    (case zzg18 => k_is)
    (case zza19 => k_is)
    (case zzb19 => k_is)
    (case zzd19 => k_is)
    (case zzg19 => k_is)
    (case zza20 => k_is)
    (case zzb20 => k_is)
    (case zzd20 => k_is)
    (case zzg20 => k_is)
    (case zza21 => k_is)
    (case zzb21 => k_is)
    (case zzd21 => k_is)
    (case zzg21 => k_is)
    (case zza22 => k_is)
    (case zzb22 => k_is)
    (case zzd22 => k_is)
    (case zzg22 => k_is)
    (case zza23 => k_is)
    (case zzb23 => k_is)
    (case zzd23 => k_is)
    (case zzg23 => k_is)
    (case zza24 => k_is)
    (case zzb24 => k_is)
    (case zzd24 => k_is)
    (case zzg24 => k_is)
    (case zza25 => k_is)
    (case zzb25 => k_is)
    (case zzd25 => k_is)
    (case zzg25 => k_is)
    (case zza26 => k_is)
    (case zzb26 => k_is)
    (case zzd26 => k_is)
    (case zzg26 => k_is)
    (case zza27 => k_is)
    (case zzb27 => k_is)
    (case zzd27 => k_is)
    (case zzg27 => k_is)
    (case zza28 => k_is)
    (case zzb28 => k_is)
    (case zzd28 => k_is)
    (case zzg28 => k_is)
    (case zza29 => k_is)
    (case zzb29 => k_is)
    (case zzd29 => k_is)
    (case zzg29 => k_is)
    (case zza30 => k_is)
    (case zzb30 => k_is)
    (case zzd30 => k_is)
    (case zzg30 => k_is)
    (case zza31 => k_is)
    (case zzb31 => k_is)
    (case zzd31 => k_is)
    (case zzg31 => k_is)
    (case zza32 => k_is)
    (case zzb32 => k_is)
    (case zzd32 => k_is)
    (case zzg32 => k_is)
    (case zzm0a => k_is)
    (case zzm0b => k_is)
    (case zzm0c => k_is)
    (case zzm0d => k_is)
    (case zzm0e => k_is)
    (case zzm1a => k_is)
    (case zzm1b => k_is)
    (case zzm1c => k_is)
    (case zzm1d => k_is)
    (case zzm1e => k_is)
    (case zzm2a => k_is)
    (case zzm2b => k_is)
    (case zzm2c => k_is)
    (case zzm2d => k_is)
    (case zzm2e => k_is)
    (case zzs1 => k_is)
    (case zzs2 => k_is)
    (case zzs3 => k_is)
    (case zzs4 => k_is)
    (case zzs5 => k_is)
    (case zzs6 => k_is)
    (case zzmk => k_is)
    (case zzkc => k_is)
    (case zzo1 => k_is)
    (case zzo2 => k_is)
    (case zzo3 => k_is)
    (case zzo4 => k_is)
    (case zzo5 => k_is)
    (case zzo6 => k_is)
    (case zzo7 => k_is)
    (case zzo8 => k_is)
    (case zzo9 => k_is)
    (case zzp1 => k_is)
    (case zzp2 => k_is)
    (case zzp3 => k_is)
    (case zzp4 => k_is)
    (case zzp5 => k_is)
    (case zzlk1 => k_is)
    (case zzlv1 => rfl)
    (case zzlk2 => k_is)
    (case zzlv2 => rfl)
    (case zzpn => first | rfl | decide)
    (case zzth1 => exact PySem.W.km_tabs_of Y _ (by first | k_mem | decide | simp))
    (case zztk1 => kernel_rfl)
    (case zztn1 => kernel_rfl)
    (case zzth2 => exact PySem.W.km_tabs_of Y _ (by first | k_mem | decide | simp))
    (case zztk2 => kernel_rfl)
    (case zztn2 => kernel_rfl)
