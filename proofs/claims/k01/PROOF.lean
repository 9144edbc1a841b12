import PyProof.Rows.All
import Wide.All
import OpenK.AllK
import Wide.FinOn
import HandS.ForMost
import HandS.Wide
import HandS.WideBits
import HandS.IsInst
import HandS.Flow
import HandS.Defaults
import HandS.OwnEq
import HandS.MakeKw
import HandS.DictEq
import HandS.Deep
import PySem.Challenge.RW_branchdues_k01_what_is_no_tree
import KE.KDictPairs
import HandS.DeepEq
import HandS.SlotsOwn
import PyProof.InstNe
import PyProof.Rows.EqNone
import HandS.Walk
import HandS.Style
import HandS.ForExc
import HandS.WordsExc
import HandS.SetFor
import HandS.ExcIs
import HandS.Lambda
import HandS.ExcInit
import HandS.ExcField
import HandS.ClsMeth
import KE.KExcIs
import HandS.EndTab
import KE.KNestM
set_option Elab.async false
set_option linter.unusedVariables false
set_option maxRecDepth 100000
set_option maxHeartbeats 1000000
section
namespace Bd
open PySem L2
def top (i : Nat) : Stmt := PySem.Challenge.pw_branchdues_k01_what_is_no_tree.main.body.getD i (.Pass ⟨0, 0, 0, 0⟩)
/-- a def as its callers see it -/
structure Cal (P : Program) (w : World) (K : PySem.W.Frag) (mg : Str → Option Value) (base : Heap) (x : Str) (ps : List Str) (k : Nat) (sp : Sp) (f : Addr) (fd : FuncData) : Prop where
  ok : FnOk P w K mg base CX0 k f fd ps sp
  mg : mg x = some (.ref f)
  kp : PySem.W.keepIn K (.ref f) = true
  bd : Binds K fd ps []
/-- all but p stays as it was -/
def Kept (p : Addr) (H H' : Hp) : Prop := ∀ b o, b ≠ p → H b = some o → H' b = some o
theorem Kept.refl (p : Addr) (H : Hp) : Kept p H H := fun _ _ _ h => h
theorem Kept.trans {p : Addr} {H H1 H2 : Hp} (a : Kept p H H1) (b : Kept p H1 H2) : Kept p H H2 := fun c o h e => b c o h (a c o h e)
theorem Kept.of {p : Addr} {H H1 : Hp} (a : Same H H1) : Kept p H H1 := fun c o _ e => a c o e
theorem Kept.upd {p : Addr} {H H1 : Hp} (a : Kept p H H1) (o : HO) : Kept p H (L2.upd H1 p o) := fun c u h e => by rw [upd_ne h]; exact a c u h e
theorem Kept.new {p q : Addr} {H H1 : Hp} (a : Kept p H H1) (h : H1 q = none) (o : HO) : Kept p H (L2.upd H1 q o) := fun c u hc e => by
  have := a c u hc e
  rw [upd_ne (ne_of_none this h)]; exact this
theorem Kept.free {p l : Addr} {H H' : Hp} (e : Kept p H H') (hl : l ≠ p) (h : H' l = none) : H l = none := by
  cases q : H l with
  | none => rfl
  | some o => rw [e l o hl q] at h; cases h
theorem Same.new {H H1 : Hp} {q : Addr} (a : Same H H1) (h : H1 q = none) (o : HO) : Same H (upd H1 q o) := fun c u e => by
  have := a c u e
  rw [upd_ne (ne_of_none this h)]; exact this
theorem Kept.seq {K : PySem.W.Frag} {p : Addr} {H H' : Hp} {a : Addr} {xs : List V} (e : Kept p H H') (hp : a ≠ p) (h : SqL K H a xs) : SqL K H' a xs := by
  rcases h with (h | ⟨o, h⟩) | h
  · exact .inl (.inl (e _ _ hp h))
  · exact .inl (.inr ⟨o, e _ _ hp h⟩)
  · exact .inr h
theorem fm0 {x m : Int} (h : 0 < m) : 0 ≤ x.fmod m := Int.fmod_nonneg_of_pos x h
theorem fm1 {x m : Int} (h : 0 < m) : x.fmod m < m := Int.fmod_lt_of_pos x h
theorem fm_in {x m : Int} (h : 0 < m) (h2 : m ≤ 2 ^ 63) : -(2 ^ 64) < x.fmod m ∧ x.fmod m < 2 ^ 64 := by
  have := fm0 (x := x) h
  have := fm1 (x := x) h
  omega
theorem fm_nat {x : Int} {m : Nat} (h : 0 < m) : ∃ v : Nat, x.fmod (m : Int) = (v : Int) ∧ v < m := by
  have h1 := fm0 (x := x) (m := (m : Int)) (by omega)
  have h2 := fm1 (x := x) (m := (m : Int)) (by omega)
  exact ⟨(x.fmod (m : Int)).toNat, by omega, by omega⟩
theorem small {n : Nat} (h : n ≤ 1000) : n ≤ sizeLine := Nat.le_of_lt (small1000 h)
/-- an amount as the law draws it: in lowest terms, not too long -/
def AmtOk (n d : Nat) : Prop := 0 < d ∧ Nat.gcd n d = 1 ∧ n ≤ 10 ^ 13 ∧ d ≤ 10 ^ 13

/-- what the text needs of the top, one built-in name each -/
structure TA (mg : Str → Option Value) : Prop where
  z_len : mg "len" = none
  z_int : mg "int" = none
  z_range : mg "range" = none
  z_abs : mg "abs" = none
  z_tuple : mg "tuple" = none
  z_list : mg "list" = none
  z_enumerate : mg "enumerate" = none
abbrev sCellAt : Stmt := (top 37)
theorem scCellAt : FnScope ["_law_script", "_law_k"] ["_law_script", "_law_k"] (defScope sCellAt) := ⟨rfl, rfl, rfl, by decide +kernel, rfl, by decide +kernel, by decide +kernel⟩
abbrev sMixed : Stmt := (top 38)
theorem scMixed : FnScope ["_law_cell", "_law_k", "_law_low"] ["_law_cell", "_law_k"] (defScope sMixed) := ⟨rfl, rfl, rfl, by decide +kernel, rfl, by decide +kernel, by decide +kernel⟩
abbrev sSource : Stmt := (top 39)
theorem scSource : FnScope ["_law_script", "_law_k", "_law_cell"] ["_law_script", "_law_k"] (defScope sSource) := ⟨rfl, rfl, rfl, by decide +kernel, rfl, by decide +kernel, by decide +kernel⟩
abbrev sNext : Stmt := (top 40)
theorem scNext : FnScope ["_law_source_here", "_law_many", "_law_found"] ["_law_source_here", "_law_many"] (defScope sNext) := ⟨rfl, rfl, rfl, by decide +kernel, rfl, by decide +kernel, by decide +kernel⟩
abbrev sOne : Stmt := (top 41)
theorem scOne : FnScope ["_law_source_here", "_law_things"] ["_law_source_here", "_law_things"] (defScope sOne) := ⟨rfl, rfl, rfl, by decide +kernel, rfl, by decide +kernel, by decide +kernel⟩

/-- a source of draws -/
def Src (H : Hp) (p : Addr) : Prop := ∃ x y z : Int, H p = some (.lst [.int x, .int y, .int z])
def spCellAt (K : PySem.W.Frag) : Sp := fun vs H Q _ => ∃ (a : Addr) (ns : List Int) (k : Nat), vs = [.ref a, .int (k : Int)] ∧ SqL K H a (ns.map V.int) ∧ ∀ v : Int, Q (.int v) H
def spMixed : Sp := fun vs H Q _ => ∃ (c k : Int), vs = [.int c, .int k] ∧ ∀ v : Int, 0 ≤ v → Q (.int v) H
def spSource (K : PySem.W.Frag) : Sp := fun vs H Q _ => ∃ (a : Addr) (ns : List Int) (k : Nat), vs = [.ref a, .int (k : Int)] ∧ SqL K H a (ns.map V.int) ∧ ∀ p H', H p = none → Same H H' → Src H' p → Q (.ref p) H'
def spNext : Sp := fun vs H Q _ => ∃ (p : Addr) (m : Nat), vs = [.ref p, .int (m : Int)] ∧ Src H p ∧ 0 < m ∧ m ≤ 1000000 ∧ ∀ (v : Nat) H', v < m → Src H' p → Kept p H H' → Q (.int (v : Int)) H'
/-- one of some things: a list or a tuple that is not the source -/
def spOne (K : PySem.W.Frag) : Sp := fun vs H Q _ => ∃ (p a : Addr) (xs : List V), vs = [.ref p, .ref a] ∧ Src H p ∧ SqL K H a xs ∧ a ≠ p ∧ xs ≠ [] ∧ xs.length ≤ 1000 ∧ ∀ (v : V) H', v ∈ xs → Src H' p → Kept p H H' → Q v H'
section
variable {P : Program} {w : World} {K : PySem.W.Frag} {mg : Str → Option Value} {base : Heap}
theorem cell_at {ns : List Int} {k : Nat} (h : k < ns.length) : ∃ v : Int, atI (ns.map V.int) (k : Int) = some (.int v) :=
  ⟨ns[k], atI_nat (by rw [List.getElem?_map, List.getElem?_eq_getElem h]; rfl)⟩
theorem ok_cellAt {f : Addr} {fd : FuncData} (F : Fun K "_law_cell_at" "_law_cell_at" sCellAt f fd) (T : TA mg) : FnOk P w K mg base CX0 1 f fd ["_law_script", "_law_k"] (spCellAt K) := by
  refine F.ok scCellAt (fun vs H Q E h => ?_) (fun cdv A outer s H vs Q E hr h => ?_)
  · obtain ⟨a, ns, k, rfl, _⟩ := h
    rfl
  obtain ⟨a, ns, k, rfl, hS, q⟩ := h
  refine ⟨_, (pss_cons (ps_if (pt_cmpR op_lt (pv 1) (pe_callB call_len_seq (by rfl) T.z_len PySem.boot_len (pa_cons (pv 0) pa_nil)) (nomark _)) (pss_one (ps_ret (pe_ix ix_list (pv 0) (pv 1) (fun _ _ => rfl)))) pss_nil) (pss_one (ps_ret pe_int))), ?_⟩
  refine ⟨_, rfl, _, rfl, a, _, rfl, .inl hS, _, _, rfl, rfl, _, rfl, ?_⟩
  refine ite2 (fun c => ?_) (fun c => ?_)
  · have c' := of_decide_eq_true c
    rw [List.length_map] at c'
    obtain ⟨v, hv⟩ := cell_at (ns := ns) (k := k) (by omega)
    refine ⟨_, rfl, _, rfl, a, _, _, _, rfl, rfl, hS, hv, ?_⟩
    exact q v
  · exact q 0

theorem ok_mixed {f : Addr} {fd : FuncData} (F : Fun K "_law_mixed" "_law_mixed" sMixed f fd) (T : TA mg) : FnOk P w K mg base CX0 1 f fd ["_law_cell", "_law_k"] spMixed := by
  refine F.ok scMixed (fun vs H Q E h => ?_) (fun cdv A outer s H vs Q E hr h => ?_)
  · obtain ⟨c, k, rfl, _⟩ := h
    rfl
  obtain ⟨c, k, rfl, q⟩ := h
  refine ⟨_, (pss_cons (ps_set (i := 2) scMixed.nd rfl (Or.inl rfl) (pe_op op_add (pe_op op_modN (pe_callTy call_int1 (by rfl) T.z_int (by decide +kernel) (pa_cons (pv 0) pa_nil)) pe_int) (pe_op op_mul (pe_op op_fdivW (pv 0) pe_int) pe_int))) (pss_cons (ps_set (i := 2) scMixed.nd rfl (Or.inl rfl) (pe_op op_modN (pe_callTy call_int1 (by rfl) T.z_int (by decide +kernel) (pa_cons (pe_op op_mul (pe_op op_add (pe_op op_add (pv 2) (pe_op op_mul pe_int (pv 1))) pe_int) pe_int) pa_nil)) pe_int)) (pss_cons (ps_set (i := 2) scMixed.nd rfl (Or.inl rfl) (pe_op op_modN (pe_callTy call_int1 (by rfl) T.z_int (by decide +kernel) (pa_cons (pe_op op_mul (pv 2) (pe_op op_add (pe_op op_add (pe_op op_fdivN (pv 2) pe_int) pe_int) (pv 1))) pa_nil)) pe_int)) (pss_one (ps_ret (pe_op op_modN (pe_callTy call_int1 (by rfl) T.z_int (by decide +kernel) (pa_cons (pe_op op_mul (pv 2) (pe_op op_add (pe_op op_fdivN (pv 2) pe_int) pe_int)) pa_nil)) pe_int)))))), ?_⟩
  refine ⟨_, rfl, .inl ⟨_, rfl, _, _, rfl, rfl, by show (2147483629 : Int) ≠ 0; decide, _, rfl, _, _, rfl, rfl, ⟨by decide, by decide +kernel⟩, _, _, rfl, rfl, .inr ⟨by decide, by decide⟩, _, _, rfl, rfl, ?_⟩⟩
  refine ⟨_, rfl, _, rfl, _, _, rfl, rfl, .inl ⟨by decide, by decide⟩, _, _, rfl, rfl, _, _, rfl, rfl, _, _, rfl, rfl, .inr ⟨by decide, by decide⟩, .inl ⟨_, rfl, _, _, rfl, rfl, by show (2147483629 : Int) ≠ 0; decide, ?_⟩⟩
  refine ⟨_, rfl, _, rfl, _, _, rfl, rfl, ⟨by decide, by decide⟩, _, _, rfl, rfl, _, rfl, _, _, rfl, rfl, _, _, rfl, rfl, .inl (fm_in (by decide) (by decide)), .inl ⟨_, rfl, _, _, rfl, rfl, by show (2147483587 : Int) ≠ 0; decide, ?_⟩⟩
  refine ⟨_, rfl, _, rfl, _, _, rfl, rfl, ⟨by decide, by decide⟩, _, _, rfl, rfl, _, _, rfl, rfl, .inl (fm_in (by decide) (by decide)), .inl ⟨_, rfl, _, _, rfl, rfl, by show (2147483563 : Int) ≠ 0; decide, ?_⟩⟩
  exact q _ (fm0 (by decide))

theorem ok_next {f g : Addr} {fd gd : FuncData} (F : Fun K "_law_next" "_law_next" sNext f fd) (T : TA mg) (cM : Cal P w K mg base "_law_mixed" ["_law_cell", "_law_k"] 1 spMixed g gd) : FnOk P w K mg base CX0 2 f fd ["_law_source_here", "_law_many"] spNext := by
  refine F.ok scNext (fun vs H Q E h => ?_) (fun cdv A outer s H vs Q E hr h => ?_)
  · obtain ⟨p, m, rfl, _⟩ := h
    rfl
  obtain ⟨p, m, rfl, ⟨x, y, z, hp⟩, h0, h1, q⟩ := h
  refine ⟨_, (pss_cons (ps_if (pt_cmpR op_ge (pe_ix ix_list (pv 0) pe_int (fun _ _ => rfl)) (pe_op op_pow pe_int pe_int) (nomark _)) (pss_cons (ps_set (i := 2) scNext.nd rfl (Or.inl rfl) (pe_op op_modN (pe_callTy call_int1 (by rfl) T.z_int (by decide +kernel) (pa_cons (pe_ix ix_list (pv 0) pe_int (fun _ _ => rfl)) pa_nil)) (pv 1))) (pss_cons (ps_asg (pe_op op_fdivN (pe_ix ix_list (pv 0) pe_int (fun _ _ => rfl)) (pv 1)) (pg_sub (pv 0) pe_int set_list)) (pss_one (ps_ret (pv 2))))) pss_nil) (pss_cons (ps_asg (pe_op op_add (pe_ix ix_list (pv 0) pe_int (fun _ _ => rfl)) pe_int) (pg_sub (pv 0) pe_int set_list)) (pss_one (ps_ret (pe_op op_modN (pe_callTy call_int1 (by rfl) T.z_int (by decide +kernel) (pa_cons (pe_call cM.ok (hr.mono (by decide)) rfl cM.mg cM.kp cM.bd .nil pass0 (pa_cons (pe_ix ix_list (pv 0) pe_int (fun _ _ => rfl)) (pa_cons (pe_ix ix_list (pv 0) pe_int (fun _ _ => rfl)) pa_nil))) pa_nil)) (pv 1)))))), ?_⟩
  refine ⟨_, rfl, p, _, _, _, rfl, rfl, SqL.of hp, rfl, _, _, rfl, rfl, ⟨by decide, by decide, by decide⟩, _, _, rfl, rfl, _, rfl, ?_⟩
  refine ite2 (fun c => ?_) (fun c => ?_)
  · obtain ⟨v, ev, hv⟩ := fm_nat (x := x) (m := m) h0
    refine ⟨_, rfl, p, _, _, _, rfl, rfl, SqL.of hp, rfl, .inl ⟨_, rfl, _, rfl, _, _, rfl, rfl, by show (m : Int) ≠ 0; omega, ?_⟩⟩
    refine ⟨_, rfl, p, _, _, _, rfl, rfl, SqL.of hp, rfl, _, rfl, _, _, rfl, rfl, ⟨by show (m : Int) ≠ 0; omega, by omega⟩, _, rfl, p, _, _, _, rfl, rfl, hp, rfl, ?_⟩
    refine ⟨_, rfl, ?_⟩
    show Q (.int (x.fmod (m : Int))) _
    rw [ev]
    exact q v _ hv ⟨_, _, _, upd_same⟩ ((Kept.refl p H).upd _)
  · refine ⟨_, rfl, p, _, _, _, rfl, rfl, SqL.of hp, rfl, _, _, rfl, rfl, _, rfl, p, _, _, _, rfl, rfl, hp, rfl, ?_⟩
    refine ⟨_, rfl, p, _, _, _, rfl, rfl, SqL.of upd_same, rfl, _, rfl, p, _, _, _, rfl, rfl, SqL.of upd_same, rfl, _, _, rfl, fun u hu => .inl ⟨_, rfl, _, rfl, _, _, rfl, rfl, by show (m : Int) ≠ 0; omega, ?_⟩⟩
    obtain ⟨v, ev, hv⟩ := fm_nat (x := u) (m := m) h0
    show Q (.int (u.fmod (m : Int))) _
    rw [ev]
    exact q v _ hv ⟨_, _, _, upd_same⟩ ((Kept.refl p H).upd _)

theorem ok_source {f g e : Addr} {fd gd ed : FuncData} (F : Fun K "_law_source" "_law_source" sSource f fd) (T : TA mg) (cM : Cal P w K mg base "_law_mixed" ["_law_cell", "_law_k"] 1 spMixed g gd) (cC : Cal P w K mg base "_law_cell_at" ["_law_script", "_law_k"] 1 (spCellAt K) e ed) : FnOk P w K mg base CX0 2 f fd ["_law_script", "_law_k"] (spSource K) := by
  refine F.ok scSource (fun vs H Q E h => ?_) (fun cdv A outer s H vs Q E hr h => ?_)
  · obtain ⟨a, ns, k, rfl, _⟩ := h
    rfl
  obtain ⟨a, ns, k, rfl, hS, q⟩ := h
  refine ⟨_, (pss_cons (ps_if (pt_cmpR op_lt (pv 1) (pe_callB call_len_seq (by rfl) T.z_len PySem.boot_len (pa_cons (pv 0) pa_nil)) (nomark _)) (pss_one (ps_ret (pe_lst (pa_cons (pe_ix ix_list (pv 0) (pv 1) (fun _ _ => rfl)) (pa_cons (pe_ix ix_list (pv 0) (pv 1) (fun _ _ => rfl)) (pa_cons pe_int pa_nil)))))) pss_nil) (pss_cons (ps_set (i := 2) scSource.nd rfl (Or.inl rfl) (pe_call cM.ok (hr.mono (by decide)) rfl cM.mg cM.kp cM.bd .nil pass0 (pa_cons (pe_call cC.ok (hr.mono (by decide)) rfl cC.mg cC.kp cC.bd .nil pass0 (pa_cons (pv 0) (pa_cons pe_int pa_nil))) (pa_cons (pe_op op_add pe_int (pv 1)) pa_nil)))) (pss_one (ps_ret (pe_lst (pa_cons (pv 2) (pa_cons (pv 2) (pa_cons pe_int pa_nil)))))))), ?_⟩
  refine ⟨_, rfl, _, rfl, a, _, rfl, .inl hS, _, _, rfl, rfl, _, rfl, ?_⟩
  refine ite2 (fun c => ?_) (fun c => ?_)
  · have c' := of_decide_eq_true c
    rw [List.length_map] at c'
    obtain ⟨v, hv⟩ := cell_at (ns := ns) (k := k) (by omega)
    refine ⟨_, rfl, _, rfl, a, _, _, _, rfl, rfl, hS, hv, _, rfl, _, rfl, a, _, _, _, rfl, rfl, hS, hv, by show 3 ≤ sizeLine; decide, fun p hp => ?_⟩
    exact q p _ hp (Same.new (Same.refl H) hp _) ⟨_, _, _, upd_same⟩
  · refine ⟨_, rfl, a, ns, 0, rfl, hS, fun v => ?_⟩
    refine ⟨_, rfl, _, _, rfl, rfl, _, _, rfl, fun u hu => ?_⟩
    refine ⟨_, rfl, _, rfl, by show 3 ≤ sizeLine; decide, fun p hp => ?_⟩
    exact q p _ hp (Same.new (Same.refl H) hp _) ⟨_, _, _, upd_same⟩

theorem ok_one {f g : Addr} {fd gd : FuncData} (F : Fun K "_law_one" "_law_one" sOne f fd) (T : TA mg) (cN : Cal P w K mg base "_law_next" ["_law_source_here", "_law_many"] 2 spNext g gd) : FnOk P w K mg base CX0 3 f fd ["_law_source_here", "_law_things"] (spOne K) := by
  refine F.ok scOne (fun vs H Q E h => ?_) (fun cdv A outer s H vs Q E hr h => ?_)
  · obtain ⟨p, a, xs, rfl, _⟩ := h
    rfl
  obtain ⟨p, a, xs, rfl, hp, hS, hne, h0, h1, q⟩ := h
  refine ⟨_, (pss_one (ps_ret (pe_ix ix_list (pv 1) (pe_call cN.ok (hr.mono (by decide)) rfl cN.mg cN.kp cN.bd .nil pass0 (pa_cons (pv 0) (pa_cons (pe_callB call_len_seq (by rfl) T.z_len PySem.boot_len (pa_cons (pv 1) pa_nil)) pa_nil))) (fun _ _ => rfl)))), ?_⟩
  refine ⟨_, rfl, _, rfl, _, rfl, a, _, rfl, .inl hS, p, xs.length, rfl, hp, List.length_pos_iff.mpr h0, by omega, fun v H1 hv hp1 k1 => ?_⟩
  refine ⟨a, _, _, _, rfl, rfl, k1.seq hne hS, atI_nat (List.getElem?_eq_getElem hv), ?_⟩
  exact q _ H1 (List.getElem_mem hv) hp1 k1

end
end Bd
end

section
namespace Bd
open PySem L2
abbrev sCommon : Stmt := (top 42)
theorem scCommon : FnScope ["_law_one_here", "_law_other"] ["_law_one_here", "_law_other"] (defScope sCommon) := ⟨rfl, rfl, rfl, by decide +kernel, rfl, by decide +kernel, by decide +kernel⟩
abbrev sFraction : Stmt := (top 43)
theorem scFraction : FnScope ["_law_top", "_law_bottom", "_law_measure"] ["_law_top", "_law_bottom"] (defScope sFraction) := ⟨rfl, rfl, rfl, by decide +kernel, rfl, by decide +kernel, by decide +kernel⟩
abbrev sAmount : Stmt := (top 44)
theorem scAmount : FnScope ["_law_source_here", "_law_way"] ["_law_source_here"] (defScope sAmount) := ⟨rfl, rfl, rfl, by decide +kernel, rfl, by decide +kernel, by decide +kernel⟩

def spCommon : Sp := fun vs H Q _ => ∃ (a b : Nat), vs = [.int (a : Int), .int (b : Int)] ∧ Q (.int (Nat.gcd a b : Nat)) H
/-- a pair in lowest terms at p -/
def AmtAt (H : Hp) (v : V) (n d : Nat) : Prop := ∃ p, v = .ref p ∧ H p = some (.tup [.int (n : Int), .int (d : Int)])
def spFraction : Sp := fun vs H Q _ => ∃ (a b : Nat), vs = [.int (a : Int), .int (b : Int)] ∧ a ≤ 10 ^ 13 ∧ 0 < b ∧ b ≤ 1000 ∧
  ∀ p n d, H p = none → AmtOk n d → Q (.ref p) (upd H p (.tup [.int (n : Nat), .int (d : Nat)]))
def spAmount : Sp := fun vs H Q _ => ∃ (s : Addr), vs = [.ref s] ∧ Src H s ∧
  ∀ v n d H', AmtOk n d → AmtAt H' v n d → Src H' s → Kept s H H' → Q v H'
section
variable {P : Program} {w : World} {K : PySem.W.Frag} {mg : Str → Option Value} {base : Heap}
def mu1 : St → Hp → Nat := fun σ _ => match σ[1]? with
  | some (some (V.int b)) => b.toNat
  | _ => 0
theorem ok_common {f : Addr} {fd : FuncData} (F : Fun K "_law_common" "_law_common" sCommon f fd) (T : TA mg) : FnOk P w K mg base CX0 1 f fd ["_law_one_here", "_law_other"] spCommon := by
  refine F.ok scCommon (fun vs H Q E h => ?_) (fun cdv A outer s H vs Q E hr h => ?_)
  · obtain ⟨a, b, rfl, _⟩ := h
    rfl
  obtain ⟨a, b, rfl, q⟩ := h
  refine ⟨_, (pss_cons (ps_while PassesOwn.never (pt_cmpR op_gt (pv 1) pe_int (nomark _)) (pss_one (ps_par (i := 0) (j := 1) (by rfl) scCommon.nd rfl rfl (by decide) rfl rfl (pa_cons (pv 1) (pa_cons (pe_op op_modN (pe_callTy call_int1 (by rfl) T.z_int (by decide +kernel) (pa_cons (pv 0) pa_nil)) (pv 1)) pa_nil)) (by rfl)))) (pss_one (ps_ret (pe_callB call_abs (by rfl) T.z_abs (by decide +kernel) (pa_cons (pv 0) pa_nil))))), ?_⟩
  refine while_by (fun σ H' => H' = H ∧ ∃ x y : Nat, σ = [some (.int (x : Int)), some (.int (y : Int))] ∧ Nat.gcd x y = Nat.gcd a b) mu1 ⟨rfl, a, b, rfl, rfl⟩ ?_ ?_
  · rintro σ H' ⟨rfl, x, y, rfl, e⟩
    refine ⟨_, rfl, _, _, rfl, rfl, _, rfl, ?_⟩
    refine ite2 (fun c => ?_) (fun c => ?_)
    · have c' : (0 : Int) < (y : Int) := of_decide_eq_true c
      refine ⟨_, rfl, _, rfl, .inl ⟨_, rfl, _, rfl, _, _, rfl, rfl, by show (y : Int) ≠ 0; omega, _, _, rfl, ?_⟩⟩
      have em : (x : Int).fmod (y : Int) = ((x % y : Nat) : Int) := by
        rw [Int.fmod_eq_emod_of_nonneg _ (by omega)]
        exact (Int.natCast_emod x y).symm
      refine ⟨⟨rfl, y, x % y, ?_, ?_⟩, ?_⟩
      · show [some (V.int (y : Int)), some (V.int ((x : Int).fmod (y : Int)))] = _
        rw [em]
      · rw [← e, Nat.gcd_comm x y, Nat.gcd_rec y x, Nat.gcd_comm]
      · show ((x : Int).fmod (y : Int)).toNat < (y : Int).toNat
        rw [em]
        have := Nat.mod_lt x (show 0 < y by omega)
        omega
    · have c' : ¬ (0 : Int) < (y : Int) := of_decide_eq_false (Bool.eq_false_iff.mpr c)
      have y0 : y = 0 := by omega
      subst y0
      refine ⟨_, rfl, _, rfl, ?_⟩
      rw [Nat.gcd_zero_right] at e
      rw [if_neg (show ¬ (x : Int) < 0 by omega), e]
      exact q
  · rintro σ H' Q Q' f ⟨v, h1, i, j, h2, h3, k, h4, q⟩
    exact ⟨v, h1, i, j, h2, h3, k, h4, f _ _ q⟩

theorem gcd_low {a b : Nat} (hb : 0 < b) : Nat.gcd (a / Nat.gcd a b) (b / Nat.gcd a b) = 1 := by
  rw [Nat.gcd_div (Nat.gcd_dvd_left a b) (Nat.gcd_dvd_right a b)]
  exact Nat.div_self (Nat.gcd_pos_of_pos_right a hb)
theorem ok_fraction {f g : Addr} {fd gd : FuncData} (F : Fun K "_law_fraction" "_law_fraction" sFraction f fd) (T : TA mg) (cC : Cal P w K mg base "_law_common" ["_law_one_here", "_law_other"] 1 spCommon g gd) : FnOk P w K mg base CX0 2 f fd ["_law_top", "_law_bottom"] spFraction := by
  refine F.ok scFraction (fun vs H Q E h => ?_) (fun cdv A outer s H vs Q E hr h => ?_)
  · obtain ⟨a, b, rfl, _⟩ := h
    rfl
  obtain ⟨a, b, rfl, ha, h0, h1, q⟩ := h
  have hg : 0 < Nat.gcd a b := Nat.gcd_pos_of_pos_right a h0
  have hl : Nat.gcd a b ≤ b := Nat.gcd_le_right a h0
  have e1 : ∀ x : Nat, (x : Int).fdiv (Nat.gcd a b : Nat) = ((x / Nat.gcd a b : Nat) : Int) := fun x => by
    rw [Int.fdiv_eq_ediv_of_nonneg _ (by omega)]
    exact (Int.natCast_ediv x _).symm
  refine ⟨_, (pss_cons (ps_set (i := 2) scFraction.nd rfl (Or.inl rfl) (pe_call cC.ok (hr.mono (by decide)) rfl cC.mg cC.kp cC.bd .nil pass0 (pa_cons (pv 0) (pa_cons (pv 1) pa_nil)))) (pss_one (ps_ret (pe_tup (pa_cons (pe_op op_fdivN (pv 0) (pv 2)) (pa_cons (pe_op op_fdivN (pv 1) (pv 2)) pa_nil)))))), ?_⟩
  refine ⟨_, rfl, _, rfl, a, b, rfl, ?_⟩
  refine ⟨_, rfl, _, rfl, _, _, rfl, rfl, ⟨by show ((Nat.gcd a b : Nat) : Int) ≠ 0; omega, by omega⟩, _, rfl, _, rfl, _, _, rfl, rfl, ⟨by show ((Nat.gcd a b : Nat) : Int) ≠ 0; omega, by omega⟩, by show 2 ≤ sizeLine; decide, fun p hp => ?_⟩
  have := q p (a / Nat.gcd a b) (b / Nat.gcd a b) hp ⟨Nat.div_pos hl hg, gcd_low h0, Nat.le_trans (Nat.div_le_self _ _) ha, Nat.le_trans (Nat.div_le_self _ _) (Nat.le_trans h1 (by decide))⟩
  show Q (.ref p) (upd H p (.tup [.int ((a : Int).fdiv (Nat.gcd a b : Nat)), .int ((b : Int).fdiv (Nat.gcd a b : Nat))]))
  rw [e1, e1]
  exact this

theorem ok_amount {f g e : Addr} {fd gd ed : FuncData} (F : Fun K "_law_amount" "_law_amount" sAmount f fd) (T : TA mg) (cN : Cal P w K mg base "_law_next" ["_law_source_here", "_law_many"] 2 spNext g gd) (cF : Cal P w K mg base "_law_fraction" ["_law_top", "_law_bottom"] 2 spFraction e ed) : FnOk P w K mg base CX0 3 f fd ["_law_source_here"] spAmount := by
  refine F.ok scAmount (fun vs H Q E h => ?_) (fun cdv A outer s H vs Q E hr h => ?_)
  · obtain ⟨p, rfl, _⟩ := h
    rfl
  obtain ⟨p, rfl, hp, q⟩ := h
  have np : ∀ {H1 : Hp} {r : Addr}, Src H1 p → H1 r = none → p ≠ r := fun h hr => by
    obtain ⟨_, _, _, h⟩ := h
    exact ne_of_none h hr
  have sr : ∀ {H1 : Hp} {r : Addr} {o : HO}, Src H1 p → H1 r = none → Src (upd H1 r o) p := fun h hr => by
    have n := np h hr
    obtain ⟨x, y, z, h⟩ := h
    exact ⟨x, y, z, by rw [upd_ne n]; exact h⟩
  refine ⟨_, (pss_cons (ps_set (i := 1) scAmount.nd rfl (Or.inl rfl) (pe_call cN.ok (hr.mono (by decide)) rfl cN.mg cN.kp cN.bd .nil pass0 (pa_cons (pv 0) (pa_cons pe_int pa_nil)))) (pss_cons (ps_if (pt_cmpR op_eq (pv 1) pe_int (nomark _)) (pss_one (ps_ret (pe_tup (pa_cons pe_int (pa_cons pe_int pa_nil))))) pss_nil) (pss_cons (ps_if (pt_cmpR op_eq (pv 1) pe_int (nomark _)) (pss_one (ps_ret (pe_call cF.ok (hr.mono (by decide)) rfl cF.mg cF.kp cF.bd .nil pass0 (pa_cons (pe_op op_add pe_int (pe_call cN.ok (hr.mono (by decide)) rfl cN.mg cN.kp cN.bd .nil pass0 (pa_cons (pv 0) (pa_cons pe_int pa_nil)))) (pa_cons (pe_op op_add pe_int (pe_call cN.ok (hr.mono (by decide)) rfl cN.mg cN.kp cN.bd .nil pass0 (pa_cons (pv 0) (pa_cons pe_int pa_nil)))) pa_nil))))) pss_nil) (pss_cons (ps_if (pt_cmpR op_eq (pv 1) pe_int (nomark _)) (pss_one (ps_ret (pe_tup (pa_cons (pe_op op_mul (pe_op op_pow pe_int pe_int) (pe_op op_add pe_int (pe_call cN.ok (hr.mono (by decide)) rfl cN.mg cN.kp cN.bd .nil pass0 (pa_cons (pv 0) (pa_cons pe_int pa_nil))))) (pa_cons pe_int pa_nil))))) pss_nil) (pss_one (ps_ret (pe_tup (pa_cons (pe_op op_add pe_int (pe_call cN.ok (hr.mono (by decide)) rfl cN.mg cN.kp cN.bd .nil pass0 (pa_cons (pv 0) (pa_cons pe_int pa_nil)))) (pa_cons pe_int pa_nil))))))))), ?_⟩
  refine ⟨_, rfl, p, 12, rfl, hp, by decide, by decide, fun v H1 hv hp1 k1 => ?_⟩
  refine ⟨_, rfl, rfl, _, rfl, ?_⟩
  refine ite2 (fun c => ?_) (fun c => ?_)
  · refine ⟨by show 2 ≤ sizeLine; decide, fun r hr' => ?_⟩
    exact q _ 0 1 _ ⟨by decide, by decide, by decide, by decide⟩ ⟨r, rfl, upd_same⟩ (sr hp1 hr') (k1.new hr' _)
  refine ⟨_, rfl, rfl, _, rfl, ?_⟩
  refine ite2 (fun c => ?_) (fun c => ?_)
  · refine ⟨_, rfl, p, 40, rfl, hp1, by decide, by decide, fun a H2 ha hp2 k2 => ?_⟩
    refine ⟨_, _, rfl, rfl, _, rfl, p, 9, rfl, hp2, by decide, by decide, fun b H3 hb hp3 k3 => ?_⟩
    refine ⟨_, _, rfl, rfl, 1 + a, 1 + b, rfl, by omega, by omega, by omega, fun r n d hr' hk => ?_⟩
    exact q _ n d _ hk ⟨r, rfl, upd_same⟩ (sr hp3 hr') (((k1.trans k2).trans k3).new hr' _)
  refine ⟨_, rfl, rfl, _, rfl, ?_⟩
  refine ite2 (fun c => ?_) (fun c => ?_)
  · refine ⟨_, _, rfl, rfl, ⟨by decide, by decide, by decide⟩, _, rfl, p, 9, rfl, hp1, by decide, by decide, fun b H3 hb hp3 k3 => ?_⟩
    refine ⟨_, _, rfl, rfl, _, _, rfl, rfl, .inl ⟨by decide, by decide⟩, by show 2 ≤ sizeLine; decide, fun r hr' => ?_⟩
    refine q _ (10 ^ 12 * (1 + b)) 1 _ ⟨by decide, Nat.gcd_one_right _, by omega, by decide⟩ ⟨r, rfl, ?_⟩ (sr hp3 hr') ((k1.trans k3).new hr' _)
    rw [upd_same]
    have : (10 : Int) ^ Int.toNat 12 * (1 + (b : Int)) = ((10 ^ 12 * (1 + b) : Nat) : Int) := by
      show (1000000000000 : Int) * (1 + (b : Int)) = ((1000000000000 * (1 + b) : Nat) : Int)
      omega
    exact congrArg (fun z => some (HO.tup [V.int z, V.int 1])) this
  · refine ⟨_, rfl, p, 20, rfl, hp1, by decide, by decide, fun b H3 hb hp3 k3 => ?_⟩
    refine ⟨_, _, rfl, rfl, by show 2 ≤ sizeLine; decide, fun r hr' => ?_⟩
    refine q _ (1 + b) 1 _ ⟨by decide, Nat.gcd_one_right _, by omega, by decide⟩ ⟨r, rfl, ?_⟩ (sr hp3 hr') ((k1.trans k3).new hr' _)
    rw [upd_same]
    have : (1 + (b : Int)) = ((1 + b : Nat) : Int) := by omega
    exact congrArg (fun z => some (HO.tup [V.int z, V.int 1])) this

end
end Bd
end

section
namespace Bd
open PySem L2 PySem.Spec PyProof.Rows
section
variable {prog : Program} {w : World} {K : Type} [DecidableEq K] {knd : KeyKind prog w K} {A : Around} {E : Value → Shared → Prop} {s : Shared}
theorem put_pairs {d : Addr} {kvs : List (K × Value)} {k : K} {key v : Value} {Q : Unit → Shared → Prop} (hkey : knd.is k key = true) (hm : s.heap.DictOf knd d kvs) (hsz : kvs.length ≤ sizeLine)
    (hQ : ∀ h', h'.DictOf knd d (stored kvs k v) → Heap.SameBut d s.heap h' → Q () { s with heap := h' }) :
    wpAny (model prog w) A (dictPut d (knd.hash k) key v) Q E s := by
  obtain ⟨o, es, ep, ho, hc, hd, hk, hp, hn⟩ := hm
  have hes : es.size ≤ sizeLine := by
    have e1 := hp.length
    have e2 : es.toList.length = es.size := by simp
    omega
  unfold dictPut
  refine wpAny_bind (wpAny_dictFind_of hkey ho hd hk ?_)
  have hidx : (es.findIdx? fun e => knd.is k e.key) = kvs.findIdx? fun kv => decide (kv.1 = k) := by
    rw [← hp.findIdx k]; obtain ⟨l⟩ := es
    simp
  cases hi : es.findIdx? fun e => knd.is k e.key with
  | some i =>
    have ha := any_of_findIdx_some (hidx ▸ hi)
    refine wpAny_updateDict ho hd ?_
    refine hQ _ ⟨_, _, ep, Heap.get?_update_self _ ho (Obj.isFreed_of_dict (Obj.data_mapDict hd _)), hc.mapDict _, Obj.data_mapDict hd _, hk.modify _ _, ?_, ?_⟩ (Heap.SameBut.update ..)
    · rw [stored, if_pos ha]
      have hl : (es.toList.findIdx? fun e => knd.is k e.key) = some i := by
        rw [← hi]; obtain ⟨l⟩ := es
        simp
      have := hp.modify hn hl v
      obtain ⟨l⟩ := es
      simpa using this
    · rw [stored, if_pos ha, keys_map_store]; exact hn
  | none =>
    have hnot : k ∉ kvs.map (·.1) := not_mem_of_findIdx_none (hidx ▸ hi)
    have hany : ¬ (kvs.any fun kv => decide (kv.1 = k)) = true := by
      rw [List.any_eq_true]
      rintro ⟨kv, hkv, he⟩
      exact hnot (List.mem_map.mpr ⟨kv, hkv, of_decide_eq_true he⟩)
    refine wpAny_updateDictKeys (hz := hes) ho hd ?_
    refine hQ _ ⟨_, _, ep + 1, Heap.get?_update_self _ ho (Obj.isFreed_of_dict (Obj.data_mapDictKeys hd _)), hc.mapDictKeys _, Obj.data_mapDictKeys hd _, hk.push hkey _, ?_, ?_⟩ (Heap.SameBut.update ..)
    · rw [stored, if_neg hany]
      have := hp.append hkey (knd.hash k) v
      obtain ⟨l⟩ := es
      simpa using this
    · rw [stored, if_neg hany, List.map_append, List.nodup_append]
      refine ⟨hn, by simp, ?_⟩
      intro a ha b hb
      simp only [List.map_cons, List.map_nil, List.mem_singleton] at hb
      subst hb
      exact fun e => hnot (e ▸ ha)
theorem merge_dict {d o : Addr} {kvs more : List (K × Value)} {Q : Unit → Shared → Prop} (hdo : d ≠ o) (hoS : (o == sysModules) = false)
    (hd : s.heap.DictOf knd d kvs) (ho : s.heap.DictOf knd o more) (hstr : ∀ e : DictEntry, (∃ k, knd.is k e.key = true) → ∀ a, e.key ≠ .ref a)
    (hsz : kvs.length + more.length ≤ sizeLine)
    (hQ : ∀ h', h'.DictOf knd d (merged kvs more) → Heap.SameBut d s.heap h' → Q () { s with heap := h' }) :
    wpAny (model prog w) A (mergeMapping d (.ref o) false) Q E s := by
  obtain ⟨od, esd, epd, hod, hcd, hdd, hkd, hpd, hnd⟩ := id hd
  obtain ⟨oo, eso, epo, hoo, hco, hdo', hko, hpo, hno⟩ := id ho
  have hlen : more.length = eso.size := by rw [← hpo.length]; simp
  unfold mergeMapping
  refine wpAny_bind (wpAny_isInstance ho.typeIs isSubtype_dict_dict ?_)
  rw [if_pos rfl]
  refine wpAny_bind (wpAny_specialOf ho.typeIs PySem.F.slot_dict_iter.lookup (wpAny_bind (wpAny_pure ?_)))
  simp only [beq_self_eq_true]
  rw [if_neg (by rw [hoS]; exact Bool.false_ne_true)]
  have loop : wpAny (model prog w) A (do
      let __do_lift ← dictEntries o
      have size : Nat := __do_lift.size
      let epoch ← dictEpoch o
      forIn (List.range size) PUnit.unit fun i __s => do
        let __do_lift ← dictEntries o
        match __do_lift[i]? with
          | some e => do
            holding [e.key, e.val]
              (have __do_jp := fun (_ : Unit) => dictPut d e.hash e.key e.val;
              if false = true then do
                let __do_lift ← dictFind d e.key e.hash
                if __do_lift.isSome = true then do
                  rule "dict.merge.duplicate-key"
                  let __do_lift ← newExc (Value.type "KeyError") [e.key]
                  let __r ← raiseNew __do_lift
                  __do_jp __r
                else __do_jp ()
              else __do_jp ())
            let __do_lift ← dictEpoch o
            if (__do_lift != epoch) = true then do
              (unsupported "dict.changed-during-merge" : Sem PUnit)
              pure (ForInStep.yield PUnit.unit)
            else pure (ForInStep.yield PUnit.unit)
          | x => do
            (unsupported "dict.changed-during-merge" : Sem PUnit)
            pure (ForInStep.yield PUnit.unit)
      pure ()) Q E s := by
    refine wpAny_bind (wpAny_dictEntries hoo hdo' ?_)
    refine wpAny_bind (wpAny_dictEpoch hoo hdo' ?_)
    refine wpAny_bind ?_
    have er : List.range eso.size = List.range' 0 eso.size := List.range_eq_range'
    rw [er]
    refine wpAny_forIn_list _
      (fun rest _ s' => ∃ g i, s' = { s with heap := g } ∧ rest = List.range' i (eso.size - i) ∧ i ≤ eso.size ∧ g.DictOf knd d (merged kvs (more.take i)) ∧ g.get? o = some oo ∧ Heap.SameBut d s.heap g)
      _ ?_ ?_ _ _ ⟨s.heap, 0, rfl, by simp, Nat.zero_le _, by simpa [merged] using hd, hoo, Heap.SameBut.refl _ _⟩
    · rintro x rest b s' ⟨g, i, rfl, hr, hi, gd, goo, gs⟩
      have hlt : i < eso.size := by
        rcases Nat.lt_or_ge i eso.size with z | z
        · exact z
        · rw [Nat.sub_eq_zero_of_le z] at hr
          simp at hr
      obtain ⟨rfl, hrest⟩ : x = i ∧ rest = List.range' (i + 1) (eso.size - (i + 1)) := by
        have z : eso.size - i = (eso.size - (i + 1)) + 1 := by omega
        rw [z, List.range'_succ] at hr
        injection hr with z1 z2
        exact ⟨z1, z2⟩
      refine wpAny_bind (wpAny_dictEntries goo hdo' ?_)
      rw [Array.getElem?_eq_getElem hlt]
      obtain ⟨kv, hkv⟩ : ∃ kv, more[x]? = some kv := ⟨more[x]'(by omega), List.getElem?_eq_getElem _⟩
      obtain ⟨k, v⟩ := kv
      obtain ⟨hkey, hval⟩ := hpo.get? (e := eso[x]) (by simp [hlt]) hkv
      obtain ⟨k1, hkey1, hhash⟩ := hko eso[x] (Array.getElem_mem hlt)
      obtain rfl : k1 = k := knd.inj _ _ _ hkey1 hkey
      show wpAny _ _ (holding [eso[x].key, eso[x].val] (dictPut d eso[x].hash eso[x].key eso[x].val) >>= _) _ _ _
      rw [hhash, hval]
      have hmx : (merged kvs (more.take x)).length ≤ sizeLine := by
        have z1 := merged_length_le kvs (more.take x)
        have z2 : (more.take x).length ≤ more.length := by
          rw [List.length_take]; omega
        omega
      refine wpAny_bind (wpAny_holding (put_pairs hkey gd hmx fun g2 gd2 gs2 => ?_))
      have goo2 : g2.get? o = some oo := (gs2.2 o (Ne.symm hdo)).trans goo
      refine wpAny_bind (wpAny_dictEpoch goo2 hdo' ?_)
      rw [if_neg (by simp)]
      exact wpAny_pure ⟨g2, x + 1, rfl, hrest, hlt, by rw [merged_take_succ kvs more x (k1, v) hkv]; exact gd2, goo2, gs.trans gs2⟩
    · rintro b s' ⟨g, i, rfl, hr, hi, gd, goo, gs⟩
      have hin : i = eso.size := by
        rcases Nat.lt_or_ge i eso.size with z | z
        · have z1 : eso.size - i = (eso.size - (i + 1)) + 1 := by omega
          rw [z1, List.range'_succ] at hr
          exact nomatch hr
        · exact Nat.le_antisymm hi z
      refine wpAny_pure (hQ g ?_ gs)
      rw [hin, ← hlen, List.take_length] at gd
      exact gd
  refine wpAny_bind (wpAny_dictEntries hod hdd ?_)
  split
  · refine wpAny_bind (wpAny_dictEntries hoo hdo' ?_)
    refine wpAny_bind ?_
    refine wpAny_forIn_array' _ (fun rest _ s' => s' = s ∧ ∀ e ∈ rest, e ∈ eso) _ ?_ ?_ _ _ ⟨rfl, fun e he => Array.mem_toList_iff.mp he⟩
    · rintro x rest b s' ⟨rfl, hm⟩
      obtain ⟨k1, hkey1, _⟩ := hko x (hm x List.mem_cons_self)
      have hx := hstr x ⟨k1, hkey1⟩
      have hrest : ∀ e ∈ rest, e ∈ eso := fun e he => hm e (List.mem_cons_of_mem _ he)
      split
      · rename_i a ea
        exact absurd ea (hx a)
      · exact wpAny_pure ⟨rfl, hrest⟩
    · rintro b s' ⟨rfl, _⟩
      exact loop
  · exact loop
def MergeAt (knd : KeyKind prog w K) (p : Addr) (Z : Shared → Prop) : Value → Shared → Prop := fun u s1 => ∃ (o : Addr) (acc more : List (K × Value)), u = .ref o ∧ p ≠ o ∧ (o == sysModules) = false ∧
  s1.heap.DictOf knd p acc ∧ s1.heap.DictOf knd o more ∧ acc.length + more.length ≤ sizeLine ∧ ∀ g, g.DictOf knd p (merged acc more) → Heap.SameBut p s1.heap g → Z { s1 with heap := g }
theorem display_two {v1 v2 : Sem Value} {Q : Value → Shared → Prop} (hstr : ∀ e : DictEntry, (∃ k, knd.is k e.key = true) → ∀ a, e.key ≠ .ref a)
    (h : wpAny (model prog w) A v1 (MergeAt knd s.heap.objs.size fun s1 => wpAny (model prog w) A v2 (MergeAt knd s.heap.objs.size fun s2 => Q (.ref s.heap.objs.size) s2) E s1) E { s with heap := s.heap.push { cls := .type "dict", data := .dict #[] } }) :
    wpAny (model prog w) A (dictDisplay [(none, v1), (none, v2)]) Q E s := by
  unfold dictDisplay
  simp only [List.forIn_cons, List.forIn_nil, List.isEmpty_nil, if_true, pure_bind, bind_assoc]
  refine wpAny_bind (wpAny_alloc ?_)
  refine wpAny_bind (wpAny_holding (wpAny_mono h (fun u s1 h1 => ?_) fun _ _ e => e))
  obtain ⟨o, acc, more, rfl, ne, lo, da, db, hz, q⟩ := h1
  refine wpAny_bind (wpAny_onRaise (wpAny_tryCatch (wpAny_onRaise (wpAny_holding (merge_dict ne lo da db hstr hz fun g dg sg => ?_)))))
  refine wpAny_bind (wpAny_holding (wpAny_mono (q g dg sg) (fun u2 s2 h2 => ?_) fun _ _ e => e))
  obtain ⟨o2, acc2, more2, rfl, ne2, lo2, da2, db2, hz2, q2⟩ := h2
  refine wpAny_bind (wpAny_onRaise (wpAny_tryCatch (wpAny_onRaise (wpAny_holding (merge_dict ne2 lo2 da2 db2 hstr hz2 fun g2 dg2 sg2 => ?_)))))
  exact wpAny_pure (q2 g2 dg2 sg2)
end
/-- {**a, **b}, both dicts with keys ints and texts, each evaluated while the new dict holds what is ahead -/
def tBoth (ta tb : TE) : TE := fun σ H Q => ∀ p, H p = none → ta σ (upd H p (.dK [])) fun x H1 => ∃ a ka, x = .ref a ∧ H1 p = some (.dK []) ∧ H1 a = some (.dK ka) ∧ p ≠ a ∧
  tb σ (upd H1 p (.dK (mergeK [] ka))) fun y H2 => ∃ b kb, y = .ref b ∧ H2 p = some (.dK (mergeK [] ka)) ∧ H2 b = some (.dK kb) ∧ p ≠ b ∧ ka.length + kb.length ≤ 1000 ∧ Q (.ref p) (upd H2 p (.dK (mergeK (mergeK [] ka) kb)))
theorem mix_noref {P : Program} {w : World} (e : DictEntry) (h : ∃ k, (mixKind P w).is k e.key = true) (a : Addr) : e.key ≠ .ref a := by
  obtain ⟨k, hk⟩ := h
  intro z
  rcases keyIs_shape (show keyIs k e.key = true from hk) with ⟨i, t, _, e1⟩ | ⟨i, t, _, e1⟩
  · rw [z] at e1; cases e1
  · rw [z] at e1; cases e1
theorem pe_both {X : Cx} {pos : Pos} {e1 e2 : Expr} {ta tb : TE} (ha : PE X e1 ta) (hb : PE X e2 tb) : PE X (.Dict [none, none] [e1, e2] pos) (tBoth ta tb) := by
  refine ⟨fun pins s σ H Q I q => ?_⟩
  have hn := I.hok.fresh (Nat.le_refl s.heap.objs.size)
  rw [arm_eval_Dict]
  refine wpAny_bind (wpAny_standAt ?_)
  show wpAny _ _ (dictDisplay [(none, do let x ← eval e1 X.env; standAt pos; pure x), (none, do let x ← eval e2 X.env; standAt pos; pure x)]) _ _ _
  refine display_two (knd := mixKind X.prog X.w) (fun e h => mix_noref e h) ?_
  have I1 := I.laid (a := s.heap.objs.size) (o := .dK []) (h' := s.heap.push { cls := .type "dict", data := .dict #[] }) (t' := s.toks) (fun _ _ q => Heap.get?_push_of_some _ q) (Nat.le_refl _) (dk_empty s.heap I.big)
  refine wpAny_bind (thn (ha.run pins _ σ _ _ I1 (q _ hn)) fun u s1 ⟨x, H1, I2, rx, a, ka, ex, hp, hka, ne, q1⟩ => ?_)
  subst ex
  obtain rfl : u = Value.ref a := rx
  refine wpAny_bind (wpAny_standAt (wpAny_pure ?_))
  obtain ⟨z1, lo1, vs1, r1, d1⟩ := dk_of I2.hok hka
  obtain ⟨z0, lo0, vs0, r0, d0⟩ := dk_of I2.hok hp
  cases r0
  have hz1 : (mergeK [] ka).length ≤ sizeLine := by
    have := length_mergeK ka []
    rw [List.length_nil] at this
    omega
  refine ⟨a, [], vs1, rfl, ne, lo1, d0, d1, by rw [List.length_nil, Nat.zero_add, ← r1.length]; exact z1, fun g dg sg => ?_⟩
  have he : ∃ q, g.get? s.heap.objs.size = some q := let ⟨q, _, _, hq, _⟩ := dg; ⟨q, hq⟩
  have I3 := d_write (t' := s1.toks) I2 (by rw [hp]; exact True.intro) sg he (dk_new (H' := upd H1 s.heap.objs.size (.dK (mergeK [] ka))) hz1 lo0 (r1.merge .nil) dg)
  refine wpAny_bind (thn (hb.run pins _ σ _ _ I3 q1) fun u2 s2 ⟨y, H2, I4, ry, b, kb, ey, hp2, hkb, ne2, hsz, q2⟩ => ?_)
  subst ey
  obtain rfl : u2 = Value.ref b := ry
  refine wpAny_bind (wpAny_standAt (wpAny_pure ?_))
  obtain ⟨z2, lo2, vs2, r2, d2⟩ := dk_of I4.hok hkb
  obtain ⟨z3, lo3, vs3, r3, d3⟩ := dk_of I4.hok hp2
  have hm : (mergeK [] ka).length ≤ ka.length := by
    have := length_mergeK ka []
    rw [List.length_nil] at this
    omega
  have hz2 : (mergeK (mergeK [] ka) kb).length ≤ sizeLine := by
    have := length_mergeK kb (mergeK [] ka)
    exact small (by omega)
  refine ⟨b, vs3, vs2, rfl, ne2, lo2, d3, d2, small (by rw [← r3.length, ← r2.length]; omega), fun g2 dg2 sg2 => ?_⟩
  have he2 : ∃ q, g2.get? s.heap.objs.size = some q := let ⟨q, _, _, hq, _⟩ := dg2; ⟨q, hq⟩
  exact ⟨.ref s.heap.objs.size, _, d_write (t' := s2.toks) I4 (by rw [hp2]; exact True.intro) sg2 he2 (dk_new (H' := upd H2 s.heap.objs.size (.dK (mergeK (mergeK [] ka) kb))) hz2 lo0 (r2.merge r3) dg2), rfl, q2⟩

/-- a tuple whose object is known to have no dict of its own -/
def FrT (H : Hp) (a : Addr) (xs : List V) : Prop := ∃ o : Obj, o.dict = none ∧ H a = some (.frz o (.tup xs))
theorem FrT.seq {K : PySem.W.Frag} {H : Hp} {a : Addr} {xs : List V} (h : FrT H a xs) : SqT K H a xs := by
  obtain ⟨o, _, e⟩ := h
  exact .inl (.inr ⟨o, e⟩)
section
variable {X : Cx}
theorem call_tupleF : CallR X (.type "tuple") (fun xs H Q => ∃ p ys, xs = [.ref p] ∧ SqL X.K H p ys ∧ ∀ l o, H l = none → o.dict = none → Q (.ref l) (upd H l (.frz o (.tup ys)))) := by
  intro pins s σ H xs us Q I r h
  obtain ⟨p, ys, rfl, hq, q⟩ := h
  obtain ⟨u, rfl, rx⟩ := vals1 r
  cases rx
  obtain ⟨its, r', pl, hz⟩ := I.list hq
  have hlen := r'.length
  refine call_tuple_list pl.isList (fun g kp => ?_) (by simp only [List.size_toArray] <;> omega)
  have I1 : Inv X pins σ H { s with heap := g } := I.kept (t' := s.toks) kp
  have I2 : Inv X pins σ (upd H g.objs.size (.frz { cls := .type "tuple", data := .seq its.toArray } (.tup ys))) { s with heap := g.push { cls := .type "tuple", data := .seq its.toArray } } :=
    I1.laid (t' := s.toks) (fun b o e => Heap.get?_push_of_some _ e) (Nat.le_refl _) (show ObjOk X.prog X.w _ _ _ (.frz _ (.tup ys)) from ⟨Heap.get?_push_size _ rfl, hz, its, r', IsTup.new _ _⟩)
  exact ⟨.ref g.objs.size, _, I2, rfl, q _ _ (I1.hok.fresh (Nat.le_refl _)) rfl⟩
theorem pairs_vv {pins : List (Addr × Obj)} {σ : L2.St} {H : Hp} {s : Shared} (I : Inv X pins σ H s) : ∀ {ps : List Addr} {kvs : List (Key × V)}, Paired (fun p kv => SqT X.K H p [kV kv.1, kv.2]) ps kvs →
    ∃ (pr : List (Value × Value)) (prs : List (Key × Value)), KV kvs prs ∧ pr.length = ps.length ∧ prs.length = ps.length ∧ ∀ (j : Nat) (k v : Value), pr[j]? = some (k, v) → ∃ (b : Addr) (key : Key), ps[j]? = some b ∧ IsTup s.heap b #[k, v] ∧ prs[j]? = some (key, v) ∧ keyIs key k = true
  | _, _, .nil => ⟨[], [], .nil, rfl, rfl, fun j k v e => by simp at e⟩
  | _, _, .cons (a := p) (b := kv) h t => by
    obtain ⟨pr, prs, r, hl, hl2, hp⟩ := pairs_vv I t
    obtain ⟨its, rv, ht, _⟩ := I.tuple h
    obtain ⟨u, y, rfl, ru, ry⟩ := vals2 rv
    refine ⟨(u, y) :: pr, (kv.1, y) :: prs, .cons ⟨rfl, ry⟩ r, by rw [List.length_cons, List.length_cons, hl], by rw [List.length_cons, List.length_cons, hl2], fun j k v e => ?_⟩
    cases j with
    | zero =>
      have z : (u, y) = (k, v) := Option.some.inj e
      cases z
      exact ⟨p, kv.1, rfl, ht, rfl, kV_is (P := X.prog) (w := X.w) ru⟩
    | succ j =>
      obtain ⟨b, key, z1, z2, z3, z4⟩ := hp j k v (by simpa using e)
      exact ⟨b, key, by simpa using z1, z2, by simpa using z3, z4⟩
theorem call_dictT (hcalm : X.calm = true) : CallR X (.type "dict") (fun xs H Q => ∃ (a : Addr) (ps : List Addr) (kvs : List (Key × V)), xs = [.ref a] ∧ FrT H a (ps.map V.ref) ∧ Paired (fun p kv => SqT X.K H p [kV kv.1, kv.2]) ps kvs ∧
    ∀ p, H p = none → Q (.ref p) (upd H p (.dK (mergeK [] kvs)))) := by
  intro pins s σ H xs us Q I r q
  obtain ⟨a, ps, kvs, rfl, ⟨o, ho, hq⟩, hp, q⟩ := q
  obtain ⟨u, rfl, rx⟩ := vals1 r
  cases rx
  obtain ⟨og, hz, its, rv, ot, hot, hc, n, hd⟩ := I.hok a _ hq
  rw [og] at hot
  cases hot
  have ei := refs_at rv
  subst ei
  obtain ⟨pr, prs, rel, hl, hl2, hpr⟩ := pairs_vv I hp
  rw [List.length_map] at hz
  have hitem : PairItems s.heap (ps.map Value.ref).toArray (fun j => ps.getD j 0) pr := by
    refine ⟨by simp [hl], fun j k v e => ?_⟩
    obtain ⟨b, key, z1, z2, z3, z4⟩ := hpr j k v e
    have zb : ps.getD j 0 = b := by
      rw [List.getD_eq_getElem?_getD, z1]
      rfl
    refine ⟨?_, .inl ?_⟩
    · show (List.map Value.ref ps).toArray[j]? = some (Value.ref (ps.getD j 0))
      rw [zb]
      simp [z1]
    · show s.heap.IsTuple (ps.getD j 0) #[k, v]
      rw [zb]
      obtain ⟨ob, y1, y2, y3, y4⟩ := z2
      exact ⟨ob, y1, y2, y3, y4⟩
  refine PySem.call_dict_pairs (knd := mixKind X.prog X.w) (kvs := prs) (PairArg.tuple a (ps.map Value.ref).toArray (fun j => ps.getD j 0) pr) (I.ok.hd hcalm) ⟨⟨o, n, og, hc, ho, hd⟩, hitem⟩ ⟨by rw [hl2, hl], fun i key v e => ?_⟩ (by rw [hl]; exact hz) fun h' tk hd' k => ?_
  · obtain ⟨b, k2, z1, z2, z3, z4⟩ := hpr i key v e
    exact ⟨k2, z3, z4⟩
  · have hm : (s.heap.objs.size == sysModules) = false := beq_eq_false_iff_ne.mpr (Nat.ne_of_gt I.big)
    have hlen : (mergeK [] kvs).length ≤ sizeLine := by
      refine Nat.le_trans (length_mergeK kvs []) ?_
      rw [List.length_nil, Nat.zero_add, rel.length, hl2]
      exact hz
    exact ⟨.ref s.heap.objs.size, upd H s.heap.objs.size (.dK (mergeK [] kvs)), I.laid (t' := tk) (fun b u z => k b u (fun y => nomatch y) z) (Nat.le_refl _) (show ObjOk X.prog X.w _ _ _ (.dK (mergeK [] kvs)) from ⟨hlen, hm, merged [] prs, KV.merge rel .nil, hd'⟩), rfl, q _ (I.hok.fresh (Nat.le_refl _))⟩
/-- a dict of the module's top, as it stands in the written part -/
structure KTab (P : Program) (w : World) (K : PySem.W.Frag) (a : Addr) (kvs : List (Key × V)) : Prop where
  lo : (a == sysModules) = false
  dd : ∃ vs, KV kvs vs ∧ ∀ h : Heap, K.In h → h.DictOf (mixKind P w) a vs
  sz : kvs.length ≤ 1000
theorem call_dictK : CallR X (.type "dict") (fun xs H Q => ∃ (a : Addr) (kvs : List (Key × V)), xs = [.ref a] ∧ KTab X.prog X.w X.K a kvs ∧ ∀ p, H p = none → Q (.ref p) (upd H p (.dK kvs))) := by
  intro pins s σ H xs us Q I r q
  obtain ⟨a, kvs, rfl, ⟨lo, ⟨vs, rel, dd⟩, z⟩, q⟩ := q
  obtain ⟨u, rfl, rx⟩ := vals1 r
  cases rx
  refine kt_call_dict lo (dd _ I.kIn) (by rw [← rel.length]; exact small z) fun h' d' hs => ?_
  have hm : (s.heap.objs.size == sysModules) = false := beq_eq_false_iff_ne.mpr (Nat.ne_of_gt I.big)
  exact ⟨.ref s.heap.objs.size, upd H s.heap.objs.size (.dK kvs), I.laid (t' := s.toks) (fun b u e => (hs.2 b (Nat.ne_of_lt (Heap.lt_size e))).trans (Heap.get?_push_of_some _ e)) (Nat.le_refl _)
    (show ObjOk X.prog X.w _ _ _ (.dK kvs) from ⟨small z, hm, vs, rel, d'⟩), rfl, q _ (I.hok.fresh (Nat.le_refl _))⟩
theorem op_inT : OpR X (compareOp .In) (fun x y H Q => ∃ (a : Addr) (kvs : List (Key × V)) (k : Key), x = kV k ∧ y = .ref a ∧ KTab X.prog X.w X.K a kvs ∧ Q (.bl (valV kvs k).isSome) H) := by
  intro pins s σ H x y v u Q I rx ry h
  obtain ⟨a, kvs, k, rfl, rfl, ⟨lo, ⟨vs, rel, dd⟩, z⟩, q⟩ := h
  cases ry
  refine wpAny_in_of (kV_is (P := X.prog) (w := X.w) rx) lo (dd _ I.kIn).mapOf ?_
  rw [← (rel.val k).isSome_eq]
  exact ⟨.bl (valV kvs k).isSome, H, I.tok _, rfl, q⟩
end
end Bd
end

section
namespace Bd
open PySem L2 PySem.Spec PyProof.Rows
/-- the answer of looking up each pair of one dict in another, by the answers at the values -/
inductive HitsV (F : V → V → Bool → Prop) (ls : List (Key × V)) : List (Key × V) → Bool → Prop
  | nil : HitsV F ls [] true
  | miss {k : Key} {v : V} {r : List (Key × V)} : valV ls k = none → HitsV F ls ((k, v) :: r) false
  | hit {k : Key} {v y : V} {r : List (Key × V)} {e b : Bool} : valV ls k = some y → F v y e → HitsV F ls r b → HitsV F ls ((k, v) :: r) (e && b)
/-- x == y is r: data, or dicts of such, n deep -/
def EqF (K : PySem.W.Frag) (H : Hp) : Nat → V → V → Bool → Prop
  | 0 => fun x y r => ∃ d e, Dp K H x d ∧ Dp K H y e ∧ SeqAt.shaped d = true ∧ SeqAt.shaped e = true ∧ r = PyData.eqv d e
  | n + 1 => fun x y r => ∃ (a b : Addr), x = .ref a ∧ y = .ref b ∧ ((a = b ∧ r = true) ∨ (a ≠ b ∧ ∃ ks ls q, H a = some (.dK ks) ∧ H b = some (.dK ls) ∧ (ks.length = ls.length → HitsV (EqF K H n) ls ks q) ∧ r = (ks.length == ls.length && q)))
theorem hits_runV {P : Program} {w : World} {A : Around} {s : Shared} {F : V → V → Bool → Prop} (ih : ∀ x y v u r, F x y r → RelV x v → RelV y u → SeqAt.EqP P w A s v u r) {ls : List (Key × V)} {vb : List (Key × Value)} (rb : KV ls vb) {ks : List (Key × V)} {b : Bool} (h : HitsV F ls ks b) :
    ∀ {va : List (Key × Value)}, KV ks va → PySem.W.KeqHitsP P w A s vb va b := by
  induction h with
  | nil =>
    intro va ra
    cases ra
    exact .nil
  | @miss k v r hn =>
    intro va ra
    cases ra with
    | cons h1 t =>
      rename_i q qs
      obtain ⟨h1, h2⟩ := h1
      obtain ⟨k2, v2⟩ := q
      have h1 : k = k2 := h1
      subst h1
      have rr := rb.val k
      rw [hn] at rr
      refine .miss ?_
      cases z : valueAt vb k with
      | none => rfl
      | some y =>
        rw [z] at rr
        exact (show False from rr).elim
  | @hit k v y r e b hy hf hr k3 =>
    intro va ra
    cases ra with
    | cons h1 t =>
      rename_i q qs
      obtain ⟨h1, h2⟩ := h1
      obtain ⟨k2, v2⟩ := q
      have h1 : k = k2 := h1
      subst h1
      have rr := rb.val k
      rw [hy] at rr
      obtain ⟨z, hz, rz⟩ := rr.some_of
      exact .hit hz (ih _ _ _ _ _ hf h2 rz) (k3 t)
section
variable {X : Cx} {pins : List (Addr × Obj)} {σ : L2.St} {H : Hp} {s : Shared}
theorem eqF_run (I : Inv X pins σ H s) : ∀ (n : Nat) (A : Around), A.units + n + 65 < cLine → ∀ (x y : V) (v u : Value) (r : Bool), EqF X.K H n x y r → RelV x v → RelV y u → SeqAt.EqP X.prog X.w A s v u r
  | 0, A, hu, x, y, v, u, r, h, rx, ry => by
    obtain ⟨d, e, hd, he, sd, se, rfl⟩ := h
    obtain ⟨as, r1⟩ := Dp.reads I d x v hd rx
    obtain ⟨bs, r2⟩ := Dp.reads I e y u he ry
    exact (SeqAt.eqAt_reads d e A s v u as bs r1 r2 (SeqAt.canLay_of_shaped sd) (SeqAt.canLay_of_shaped se) (SeqAt.room_of_shaped sd (by omega))).eqP
  | n + 1, A, hu, x, y, v, u, r, h, rx, ry => by
    obtain ⟨a, b, rfl, rfl, h⟩ := h
    cases (show v = Value.ref a from rx)
    cases (show u = Value.ref b from ry)
    rcases h with ⟨rfl, rfl⟩ | ⟨hab, ks, ls, q, ha, hb, hits, rfl⟩
    · exact (SeqAt.EqAt.same _).eqP
    · refine SeqAt.eqP_refs hab fun E Q hq => ?_
      obtain ⟨_, ya, va, ra, da⟩ := (show ObjOk X.prog X.w H s.heap a (.dK ks) from I.hok a _ ha)
      obtain ⟨_, yb, vb, rb, db⟩ := (show ObjOk X.prog X.w H s.heap b (.dK ls) from I.hok b _ hb)
      refine PySem.W.rcP_dicts (knd := mixKind X.prog X.w) (r := q) ya yb da db (by omega) (fun hl => hits_runV (eqF_run I n A.in1 (by show A.units + 1 + n + 65 < cLine; omega)) rb (hits (by rw [ra.length, rb.length]; exact hl)) ra) E Q ?_
      rw [← ra.length, ← rb.length]
      exact hq
end
section
variable {X : Cx}
theorem op_eqF (hu : X.A.units + 100 < cLine) : OpR X (compareOp .Eq) (fun x y H Q => ∃ (a b : Addr) (ks ls : List (Key × V)) (q : Bool) (n : Nat), n ≤ 10 ∧ x = .ref a ∧ y = .ref b ∧ H a = some (.dK ks) ∧ H b = some (.dK ls) ∧ (ks.length = ls.length → HitsV (EqF X.K H n) ls ks q) ∧ Q (.bl (ks.length == ls.length && q)) H) := by
  intro pins s σ H x y v u Q I rx ry h
  obtain ⟨a, b, ks, ls, q, n, hn, rfl, rfl, ha, hb, hits, hq⟩ := h
  cases (show v = Value.ref a from rx)
  cases (show u = Value.ref b from ry)
  obtain ⟨_, ya, va, ra, da⟩ := (show ObjOk X.prog X.w H s.heap a (.dK ks) from I.hok a _ ha)
  obtain ⟨_, yb, vb, rb, db⟩ := (show ObjOk X.prog X.w H s.heap b (.dK ls) from I.hok b _ hb)
  refine PySem.W.rcP_dicts (knd := mixKind X.prog X.w) (r := q) ya yb da db (by omega) (fun hl => hits_runV (eqF_run I n X.A.in1 (by show X.A.units + 1 + n + 65 < cLine; omega)) rb (hits (by rw [ra.length, rb.length]; exact hl)) ra) _ _ ?_
  rw [← ra.length, ← rb.length]
  exact ⟨.bl _, H, I, rfl, hq⟩
end
end Bd
end

section
namespace Bd
open PySem L2 PySem.Spec PyProof.Rows
section
variable {prog : Program} {w : World} {A : Around} {E : Value → Shared → Prop} {s : Shared} {K : PySem.W.Frag} {x C f : Addr} {ox : Obj} {od : Option Obj} {b tb : Value}
theorem ne_bound {M : Model} {Q : Option Value → Shared → Prop} (X : K.In s.heap) (I : PySem.W.InstAt s.heap x ox C od) (hne : PySem.W.findIn K (.ref C) "__ne__" = some (some (.builtin "object.__ne__")))
    (h : wpAny M A (call (.builtin "object.__ne__") [.ref x, b]) (fun v => Q (some v)) E s) : wpAny M A (callSpecialIfBound? (.ref x) "__ne__" [b]) Q E s := by
  simp only [callSpecialIfBound?, bindSpecialIfBound?]
  refine wpAny_holding (wpAny_bind (wpAny_bind (wpAny_bind (I.type.here ((PySem.W.looks_findIn X hne).here ?_)))))
  simp only [PySem.F.cmp_object.ne.bind]
  refine wpAny_bind (wpAny_askSetting (wpAny_ite ?_))
  have fin : wpAny M A (call (.builtin "object.__ne__") ([.ref x] ++ [b]) >>= fun v => pure (some v)) Q E s := wpAny_bind (wpAny_mono h (fun v s' h' => wpAny_pure h') fun _ _ h' => h')
  split
  · exact wpAny_bind (wpAny_pure (wpAny_pure fin))
  · exact wpAny_tryCatch (wpAny_bind (wpAny_pure (wpAny_pure fin)))
theorem ne_check {M : Model} {Q : Unit → Shared → Prop} (X : K.In s.heap) (I : PySem.W.InstAt s.heap x ox C od) (hob : PySem.W.subIn K (.ref C) (.type "object") = some true) (q : Q () s) :
    wpAny M A (checkBuiltinCall "object.__ne__" ⟨[.ref x, b], []⟩) Q E s := by
  simp only [checkBuiltinCall, PySem.F.cmpKind_ne, PySem.F.cmpSplit_ne]
  refine wpAny_bind ?_
  unfold isInstance
  refine wpAny_bind (I.type.here ((PySem.W.looks_subIn X hob).here ?_))
  have ha : argsOk "object.__ne__" ⟨[.ref x, b], []⟩ := PySem.F.cmpArgs_ne _ _
  rw [if_neg (by decide)]
  cases hsig : Manifest.signature? "object.__ne__" with
  | none => exact wpAny_pure q
  | some sig =>
    simp only [argsOk, hsig] at ha
    have h2 : Bind.checkArgs "object.__ne__" sig ⟨[.ref x, b], []⟩ = pure () := ha
    show wpAny M A (Bind.checkArgs "object.__ne__" sig ⟨[.ref x, b], []⟩) Q E _
    rw [h2]
    exact wpAny_pure q
theorem ne_run {Q : Fin → Shared → Prop} (hu : A.units < cLine) (X : K.In s.heap) (I : PySem.W.InstAt s.heap x ox C od) (hs : PySem.W.findIn K (.ref C) "__eq__" = some (some (.ref f))) (hf : PySem.W.isFn K (.ref f) = true)
    (h : wpAny (model prog w) A (call (.ref f) [.ref x, b]) (fun v s' => ∃ r, v = .bool r ∧ Q (.done (.ret (.bool (!r)))) s') E s) :
    wpAny (model prog w) A (Builtin.«object.__ne__» ⟨[.ref x, b], []⟩) Q E s := by
  obtain ⟨hp, g, d, t, os⟩ := s
  unfold Builtin.«object.__ne__»
  repeat (first
    | with_reducible refine wpAny_cRoomFor hu ?_
    | (refine wpAny_bind (m := callSpecialIfBound? (.ref x) (Str.ofString "__eq__") [b])
        (PySem.W.ifBound_K X I hs hf (wpAny_mono h (fun v s' hr => by
          obtain ⟨r, rfl, hq⟩ := hr
          repeat (first | exact hq | exact wpAny_pure hq | exact wpAny_truthy_bool hq | (refine wpAny_bind (m := truthy (.bool _)) (wpAny_truthy_bool ?_)) | wp_step)) fun _ _ e => e)))
    | wp_step)
theorem ne_K {Q : Value → Shared → Prop} (hu : A.units + 1 < cLine) (X : K.In s.heap) (I : PySem.W.InstAt s.heap x ox C od) (hb : PySem.W.Looks (model prog w) s.heap (typeOf b) tb) (hn : PySem.W.notFirst K C tb = true)
    (hne : PySem.W.findIn K (.ref C) "__ne__" = some (some (.builtin "object.__ne__"))) (hob : PySem.W.subIn K (.ref C) (.type "object") = some true)
    (hs : PySem.W.findIn K (.ref C) "__eq__" = some (some (.ref f))) (hf : PySem.W.isFn K (.ref f) = true)
    (h : wpAny (model prog w) A.in1 (call (.ref f) [.ref x, b]) (fun v s' => ∃ r, v = .bool r ∧ Q (.bool (!r)) s') E s) : wpAny (model prog w) A (richCompare .NotEq (.ref x) b) Q E s := by
  have one : wpAny (model prog w) A (tryCompare (.ref x) "__ne__" b) (fun r s' => ∃ v, r = some v ∧ Q v s') E s := by
    simp only [tryCompare]
    refine wpAny_bind (ne_bound X I hne (wpAny_call (codeAny_call_builtin PySem.F.cmp_object.ne.plain PySem.F.cmpEntry_ne (ne_check X I hob (ne_run (A := A.in1) (by show A.units + 1 < cLine; exact hu) X I hs hf (wpAny_mono h (fun v s' hv => ?_) fun _ _ e => e))))))
    obtain ⟨r, rfl, hq⟩ := hv
    first | exact ⟨r, rfl, wpAny_pure ⟨_, rfl, hq⟩⟩ | exact ⟨r, rfl, wpAny_pure (wpAny_pure ⟨_, rfl, hq⟩)⟩ | exact ⟨r, rfl, _, rfl, hq⟩
  unfold richCompare
  simp only [oneThing_ref]
  refine wpAny_holding (wpAny_bind (wpAny_cRoomFor (Nat.lt_of_succ_lt hu) ?_))
  rw [cmpInfo_NotEq]
  dsimp only
  refine wpAny_bind (I.type.here (wpAny_bind (hb.here ?_)))
  split
  · rename_i q
    have e : PySem.W.subIn K tb (.ref C) = some false := by
      rcases Bool.or_eq_true_iff.mp hn with e | e
      · rw [beq_iff_eq.mp e] at q
        simp at q
      · exact beq_iff_eq.mp e
    refine wpAny_bind ((PySem.W.looks_subIn X e).here ?_)
    simp only [Bool.false_eq_true, if_false]
    refine wpAny_bind (wpAny_mono one (fun r s' z => ?_) fun _ _ e => e)
    obtain ⟨v, rfl, hq⟩ := z
    exact wpAny_pure hq
  · refine wpAny_bind (wpAny_pure ?_)
    simp only [Bool.false_eq_true, if_false]
    refine wpAny_bind (wpAny_mono one (fun r s' z => ?_) fun _ _ e => e)
    obtain ⟨v, rfl, hq⟩ := z
    exact wpAny_pure hq
end
end Bd
end

section
namespace Bd
open PySem L2 PySem.Spec PyProof.Rows
section
variable {prog : Program} {w : World} {A : Around} {E : Value → Shared → Prop} {s : Shared} {K : PySem.W.Frag} {x C dx f : Addr} {ox : Obj} {od : Option Obj} {b tb : Value}
theorem dec_none : wpAny (model prog w) A (call (.builtin "NoneType.__eq__") [.none, .ref x]) (fun v s1 => v = .notImplemented ∧ s1 = s) E s := by
  refine wpAny_call_entry PySem.F.slot_NoneType_eq rfl PySem.F.entry_NoneType_eq ?_ (PySem.F.args_NoneType_eq_2 _ _)
  obtain ⟨hp, g, d, tk, os⟩ := s
  wp_walk
  exact ⟨_, rfl, rfl, rfl⟩
theorem dec_int {i : Int} {t : Tok} (hx : s.heap.get? x = some (PySem.W.instObj C dx)) : wpAny (model prog w) A (call (.builtin "int.__eq__") [.int i t, .ref x]) (fun v s1 => v = .notImplemented ∧ s1 = s) E s := by
  refine wpAny_call_entry PySem.F.slot_int_eq (typeIs_int s i t) PySem.F.entry_int_eq ?_ (PySem.F.args_int_eq_2 _ _)
  obtain ⟨hp, g, d, tk, os⟩ := s
  wp_walk using AutoSeq1.wpAny_loadPart' hx
  exact ⟨_, rfl, rfl, rfl⟩
theorem dec_str {i : Str} {t : Tok} (hx : s.heap.get? x = some (PySem.W.instObj C dx)) : wpAny (model prog w) A (call (.builtin "str.__eq__") [.str i t, .ref x]) (fun v s1 => v = .notImplemented ∧ s1 = s) E s := by
  refine wpAny_call_entry PySem.F.slot_str_eq (typeIs_str s i t) PySem.F.entry_str_eq ?_ (PySem.F.args_str_eq_2 _ _)
  obtain ⟨hp, g, d, tk, os⟩ := s
  wp_walk using AutoSeq1.wpAny_loadPart' hx
  exact ⟨_, rfl, rfl, rfl⟩
theorem not_inst {M : Model} {T : String} {Q : Bool → Shared → Prop} (X : K.In s.heap) (I : PySem.W.InstAt s.heap x ox C od) (hsub : PySem.W.subIn K (.ref C) (.type T) = some false) (q : Q false s) : wpAny M A (isInstance (.ref x) (.type T)) Q E s := by
  unfold isInstance
  exact wpAny_bind (I.type.here ((PySem.W.looks_subIn X hsub).here q))
theorem dec_list {l : Addr} (hl : s.TypeIs (.ref l) "list") (X : K.In s.heap) (I : PySem.W.InstAt s.heap x ox C od) (hsub : PySem.W.subIn K (.ref C) (.type "list") = some false) :
    wpAny (model prog w) A (call (.builtin "list.__eq__") [.ref l, .ref x]) (fun v s1 => v = .notImplemented ∧ s1 = s) E s := by
  refine wpAny_call_entry PySem.F.slot_list_eq hl PySem.F.entry_list_eq ?_ (PySem.F.args_list_eq_2 _ _)
  obtain ⟨hp, g, d, tk, os⟩ := s
  unfold Builtin.«list.__eq__»
  repeat (first
    | (refine wpAny_bind (m := isInstance (.ref x) (.type "list")) (not_inst X I hsub ?_))
    | wp_step)
  exact ⟨_, rfl, rfl, rfl⟩
theorem dec_tup {l : Addr} (hl : s.TypeIs (.ref l) "tuple") (X : K.In s.heap) (I : PySem.W.InstAt s.heap x ox C od) (hsub : PySem.W.subIn K (.ref C) (.type "tuple") = some false) :
    wpAny (model prog w) A (call (.builtin "tuple.__eq__") [.ref l, .ref x]) (fun v s1 => v = .notImplemented ∧ s1 = s) E s := by
  refine wpAny_call_entry PySem.F.slot_tuple_eq hl PySem.F.entry_tuple_eq ?_ (PySem.F.args_tuple_eq_2 _ _)
  obtain ⟨hp, g, d, tk, os⟩ := s
  unfold Builtin.«tuple.__eq__»
  repeat (first
    | (refine wpAny_bind (m := isInstance (.ref x) (.type "tuple")) (not_inst X I hsub ?_))
    | wp_step)
  exact ⟨_, rfl, rfl, rfl⟩
theorem eq_right {v : Value} {T id : String} {Q : Value → Shared → Prop} (hu : A.units < cLine) (X : K.In s.heap) (I : PySem.W.InstAt s.heap x ox C od) (hv : s.TypeIs v T) (h1 : Slot T (cmpInfo .Eq).2.1 id) (hone : oneThing? .Eq v (.ref x) = none)
    (hsub : PySem.W.subIn K (.ref C) (.type T) = some false) (hdec : wpAny (model prog w) A (call (.builtin id) [v, .ref x]) (fun r s1 => r = .notImplemented ∧ s1 = s) E s)
    (hs : PySem.W.findIn K (.ref C) "__eq__" = some (some (.ref f))) (hf : PySem.W.isFn K (.ref f) = true)
    (h : wpAny (model prog w) A (call (.ref f) [.ref x, v]) (PySem.W.CmpBack Q) E s) : wpAny (model prog w) A (richCompare .Eq v (.ref x)) Q E s := by
  have two : wpAny (model prog w) A (tryCompare (.ref x) "__eq__" v) (fun r s' => ∃ z, r = some z ∧ Q z s') E s := by
    unfold tryCompare
    refine wpAny_bind (PySem.W.ifBound_K X I hs hf (wpAny_mono h (fun z s' hz => ?_) fun _ _ e => e))
    cases z <;> first | exact hz.elim | exact wpAny_pure ⟨_, rfl, hz⟩
  unfold richCompare
  rw [hone]
  refine wpAny_holding (wpAny_bind (wpAny_cRoomFor hu ?_))
  have hi : cmpInfo CmpOp.Eq = (("==" : String), ("__eq__" : Str), ("__eq__" : Str)) := rfl
  rw [hi] at h1 ⊢
  dsimp only at h1 ⊢
  refine wpAny_bind (wpAny_typeOf hv (wpAny_bind (I.type.here ?_)))
  rw [show (Value.type T != Value.ref C) = true from rfl]
  rw [if_pos rfl]
  refine wpAny_bind ((PySem.W.looks_subIn X hsub).here ?_)
  simp only [Bool.false_eq_true, if_false, Bool.not_false, if_true]
  refine wpAny_bind (m := tryCompare v _ (.ref x)) (wpAny_tryCompare_declines hv h1 (wpAny_mono hdec (fun r s1 hr => ⟨hr.1, ?_⟩) fun _ _ e => e))
  obtain ⟨rfl, rfl⟩ := hr
  refine wpAny_bind (wpAny_mono two (fun r s' z => ?_) fun _ _ e => e)
  obtain ⟨z, rfl, hq⟩ := z
  exact wpAny_pure hq
end
/-- what of the class the comparisons ask -/
structure OwnCmp (K : PySem.W.Frag) (C f : Addr) : Prop where
  eq : PySem.W.findIn K (.ref C) "__eq__" = some (some (.ref f))
  fn : PySem.W.isFn K (.ref f) = true
  ne : PySem.W.findIn K (.ref C) "__ne__" = some (some (.builtin "object.__ne__"))
  ob : PySem.W.subIn K (.ref C) (.type "object") = some true
  li : PySem.W.subIn K (.ref C) (.type "list") = some false
  tu : PySem.W.subIn K (.ref C) (.type "tuple") = some false
  st : PySem.W.subIn K (.ref C) (.type "str") = some false
  it : PySem.W.subIn K (.ref C) (.type "int") = some false
  nt : PySem.W.subIn K (.ref C) (.type "NoneType") = some false
  li' : PySem.W.subIn K (.type "list") (.ref C) = some false
  tu' : PySem.W.subIn K (.type "tuple") (.ref C) = some false
  st' : PySem.W.subIn K (.type "str") (.ref C) = some false
  it' : PySem.W.subIn K (.type "int") (.ref C) = some false
  nt' : PySem.W.subIn K (.type "NoneType") (.ref C) = some false
/-- things an instance is compared with -/
inductive YTy (K : PySem.W.Frag) (H : Hp) (C : Addr) : V → Prop
  | non : YTy K H C .non
  | int (i : Int) : YTy K H C (.int i)
  | str (i : Str) : YTy K H C (.str i)
  | lst {a : Addr} {xs : List V} : SqL K H a xs → YTy K H C (.ref a)
  | tup {a : Addr} {xs : List V} : SqT K H a xs → YTy K H C (.ref a)
  | ins {a dx : Addr} {fs : List (Str × V)} : H a = some (.ins C dx fs) → YTy K H C (.ref a)
section
variable {X : Cx} {pins : List (Addr × Obj)} {σ : L2.St} {H : Hp} {s : Shared} {C f : Addr}
theorem looks_ty {M : Model} {h : Heap} {a : Addr} {T : String} {o : Obj} (ho : h.get? a = some o) (hc : o.cls = .type T) : PySem.W.Looks M h (typeOf (.ref a)) (.type T) := fun _ _ _ s k q => wpAny_typeOf (s := s) ⟨o, k _ _ ho, hc⟩ q
theorem yty_look (O : OwnCmp X.K C f) (I : Inv X pins σ H s) {y : V} {u : Value} (t : YTy X.K H C y) (r : RelV y u) : ∃ tb, PySem.W.Looks (model X.prog X.w) s.heap (typeOf u) tb ∧ PySem.W.notFirst X.K C tb = true := by
  have nf : ∀ {tb : Value}, PySem.W.subIn X.K tb (.ref C) = some false → PySem.W.notFirst X.K C tb = true := fun {tb} e => by
    unfold PySem.W.notFirst
    rw [e]
    simp
  cases t with
  | non =>
    cases r
    exact ⟨.type "NoneType", .of_pure rfl, nf O.nt'⟩
  | int i =>
    obtain ⟨t, rfl⟩ := r
    exact ⟨.type "int", .of_pure rfl, nf O.it'⟩
  | str i =>
    obtain ⟨t, rfl⟩ := r
    exact ⟨.type "str", .of_pure rfl, nf O.st'⟩
  | lst h =>
    cases r
    obtain ⟨its, _, ⟨o, n, ho, hc, _⟩, _⟩ := I.list h
    exact ⟨.type "list", looks_ty ho hc, nf O.li'⟩
  | tup h =>
    cases r
    obtain ⟨its, _, ⟨o, ho, hc, _⟩, _⟩ := I.tuple h
    exact ⟨.type "tuple", looks_ty ho hc, nf O.tu'⟩
  | ins h =>
    cases r
    obtain ⟨mA, J, _⟩ := ins_get I.hok h
    obtain ⟨od, J, _⟩ := J.look
    exact ⟨.ref C, J.type, by simp [PySem.W.notFirst]⟩
/-- tree == y -/
theorem op_eqL {CX : CXT} {n : Nat} {fd : FuncData} {ps : List Str} {sp : Sp} {E : XK} (O : OwnCmp X.K C f) (F : FnOk X.prog X.w X.K X.mg X.base CX n f fd ps sp) (hb : Binds X.K fd ps []) (hr : Room n X.A) (hx : Passes CX X E) :
    OpR X (compareOp .Eq) (fun x y H Q => ∃ a dx fs, x = .ref a ∧ H a = some (.ins C dx fs) ∧ YTy X.K H C y ∧ sp [x, y] H (fun v H' => ∃ b, v = .bl b ∧ Q (.bl b) H') E) := by
  intro pins s σ H x y v u Q I rx ry h
  obtain ⟨a, dx, fs, rfl, ha, ty, q⟩ := h
  cases (show v = Value.ref a from rx)
  obtain ⟨mA, J, _⟩ := ins_get I.hok ha
  obtain ⟨od, J, _⟩ := J.look
  obtain ⟨tb, lk, nf⟩ := yty_look O I ty ry
  obtain ⟨m, hF⟩ := I.fr
  show wpAny _ _ (richCompare .Eq _ _) _ _ _
  refine PySem.W.cmp_K (op := .Eq) (tb := tb) hr.units0 hF I.ok.mod.kin J lk nf O.eq O.fn ?_
  refine wpAny_mono (wpAny_call (run_fnR (us := [.ref a, u]) (vs := [.ref a, y]) (FnOk.raw F hb .nil) hr hx I (.cons rfl (.cons ry .nil)) q)) (fun w s' z => ?_) fun _ _ x => x
  obtain ⟨z', H', I', rz, b, rfl, qz⟩ := z
  exact SlX.cmpback rz ⟨.bl b, H', I', rz, qz⟩
/-- tree != y -/
theorem op_neL {CX : CXT} {n : Nat} {fd : FuncData} {ps : List Str} {sp : Sp} {E : XK} (O : OwnCmp X.K C f) (F : FnOk X.prog X.w X.K X.mg X.base CX n f fd ps sp) (hb : Binds X.K fd ps []) (hr : Room (n + 1) X.A) (hx : Passes CX X E) :
    OpR X (compareOp .NotEq) (fun x y H Q => ∃ a dx fs, x = .ref a ∧ H a = some (.ins C dx fs) ∧ YTy X.K H C y ∧ sp [x, y] H (fun v H' => ∃ b, v = .bl b ∧ Q (.bl (!b)) H') E) := by
  intro pins s σ H x y v u Q I rx ry h
  obtain ⟨a, dx, fs, rfl, ha, ty, q⟩ := h
  cases (show v = Value.ref a from rx)
  obtain ⟨mA, J, _⟩ := ins_get I.hok ha
  obtain ⟨od, J, _⟩ := J.look
  obtain ⟨tb, lk, nf⟩ := yty_look O I ty ry
  show wpAny _ _ (richCompare .NotEq _ _) _ _ _
  refine ne_K (by have := hr.un; omega) I.kIn J lk nf O.ne O.ob O.eq O.fn ?_
  refine wpAny_mono (wpAny_call (SlX.run_at (A := X.A.in1) (us := [.ref a, u]) (ws := [.ref a, y]) (FnOk.raw F hb .nil) hr.in1 I.env0.in1 hx I (.cons rfl (.cons ry .nil)) q)) (fun w s' z => ?_) fun _ _ x => x
  obtain ⟨z', H', I', rz, b, rfl, qz⟩ := z
  cases (show w = Value.bool b from rz)
  exact ⟨b, rfl, .bl (!b), H', I', rfl, qz⟩
/-- y == tree, y no instance -/
theorem op_eqR {CX : CXT} {n : Nat} {fd : FuncData} {ps : List Str} {sp : Sp} {E : XK} (O : OwnCmp X.K C f) (F : FnOk X.prog X.w X.K X.mg X.base CX n f fd ps sp) (hb : Binds X.K fd ps []) (hr : Room n X.A) (hx : Passes CX X E) :
    OpR X (compareOp .Eq) (fun y x H Q => ∃ a dx fs, x = .ref a ∧ H a = some (.ins C dx fs) ∧ YTy X.K H C y ∧ sp [x, y] H (fun v H' => ∃ b, v = .bl b ∧ Q (.bl b) H') E ∧ (∀ c dy gs, y = .ref c → H c = some (.ins C dy gs) → sp [y, x] H (fun v H' => ∃ b, v = .bl b ∧ Q (.bl b) H') E)) := by
  intro pins s σ H y x u v Q I ry rx h
  obtain ⟨a, dx, fs, rfl, ha, ty, q, q2⟩ := h
  cases (show v = Value.ref a from rx)
  obtain ⟨mA, J0, _⟩ := ins_get I.hok ha
  have hat : s.heap.get? a = some (PySem.W.instObj C dx) := J0.1
  obtain ⟨od, J, _⟩ := J0.look
  obtain ⟨m, hF⟩ := I.fr
  have fin : wpAny (model X.prog X.w) X.A (call (.ref f) [.ref a, u]) (PySem.W.CmpBack (EP X pins σ Q)) X.xe s := by
    refine wpAny_mono (wpAny_call (run_fnR (us := [.ref a, u]) (vs := [.ref a, y]) (FnOk.raw F hb .nil) hr hx I (.cons rfl (.cons ry .nil)) q)) (fun w s' z => ?_) fun _ _ x => x
    obtain ⟨z', H', I', rz, b, rfl, qz⟩ := z
    exact SlX.cmpback rz ⟨.bl b, H', I', rz, qz⟩
  show wpAny _ _ (richCompare .Eq _ _) _ _ _
  cases ty with
  | non =>
    cases ry
    exact eq_right hr.units0 I.kIn J rfl PySem.F.slot_NoneType_eq rfl O.nt dec_none O.eq O.fn fin
  | int i =>
    obtain ⟨t, rfl⟩ := ry
    exact eq_right hr.units0 I.kIn J (typeIs_int s i t) PySem.F.slot_int_eq rfl O.it (dec_int hat) O.eq O.fn fin
  | str i =>
    obtain ⟨t, rfl⟩ := ry
    exact eq_right hr.units0 I.kIn J (typeIs_str s i t) PySem.F.slot_str_eq rfl O.st (dec_str hat) O.eq O.fn fin
  | lst h =>
    cases ry
    obtain ⟨its, _, ⟨o, n, ho, hc, _⟩, _⟩ := I.list h
    exact eq_right hr.units0 I.kIn J ⟨o, ho, hc⟩ PySem.F.slot_list_eq (oneThing_ref ..) O.li (dec_list ⟨o, ho, hc⟩ I.kIn J O.li) O.eq O.fn fin
  | tup h =>
    cases ry
    obtain ⟨its, _, ⟨o, ho, hc, _⟩, _⟩ := I.tuple h
    exact eq_right hr.units0 I.kIn J ⟨o, ho, hc⟩ PySem.F.slot_tuple_eq (oneThing_ref ..) O.tu (dec_tup ⟨o, ho, hc⟩ I.kIn J O.tu) O.eq O.fn fin
  | @ins c dy gs hc =>
    cases ry
    have q3 := q2 c dy gs rfl hc
    obtain ⟨mB, K0, _⟩ := ins_get I.hok hc
    obtain ⟨od2, J2, _⟩ := K0.look
    refine PySem.W.cmp_K (op := .Eq) (tb := .ref C) hr.units0 hF I.ok.mod.kin J2 J.type (by simp [PySem.W.notFirst]) O.eq O.fn ?_
    · refine wpAny_mono (wpAny_call (run_fnR (us := [.ref c, .ref a]) (vs := [.ref c, .ref a]) (FnOk.raw F hb .nil) hr hx I (.cons rfl (.cons rfl .nil)) q3)) (fun w s' z => ?_) fun _ _ x => x
      obtain ⟨z', H', I', rz, b, rfl, qz⟩ := z
      exact SlX.cmpback rz ⟨.bl b, H', I', rz, qz⟩
end
end Bd
end

section
namespace Bd
open PySem L2
abbrev sIsInteger : Stmt := (top 4)
theorem scIsInteger : FnScope ["thing"] ["thing"] (defScope sIsInteger) := ⟨rfl, rfl, rfl, by decide +kernel, rfl, by decide +kernel, by decide +kernel⟩
abbrev sIsAmount : Stmt := (top 5)
theorem scIsAmount : FnScope ["thing", "top", "bottom"] ["thing"] (defScope sIsAmount) := ⟨rfl, rfl, rfl, by decide +kernel, rfl, by decide +kernel, by decide +kernel⟩
abbrev sDivisor : Stmt := (top 6)
theorem scDivisor : FnScope ["one", "other"] ["one", "other"] (defScope sDivisor) := ⟨rfl, rfl, rfl, by decide +kernel, rfl, by decide +kernel, by decide +kernel⟩
abbrev sIsEndless : Stmt := (top 27)
theorem scIsEndless : FnScope ["thing"] ["thing"] (defScope sIsEndless) := ⟨rfl, rfl, rfl, by decide +kernel, rfl, by decide +kernel, by decide +kernel⟩
abbrev sIsWord : Stmt := (top 26)
theorem scIsWord : FnScope ["thing"] ["thing"] (defScope sIsWord) := ⟨rfl, rfl, rfl, by decide +kernel, rfl, by decide +kernel, by decide +kernel⟩
abbrev sIsSet : Stmt := (top 28)
theorem scIsSet : FnScope ["thing", "ahead", "number"] ["thing"] (defScope sIsSet) := ⟨rfl, rfl, rfl, by decide +kernel, rfl, by decide +kernel, by decide +kernel⟩
abbrev sMayHave : Stmt := (top 29)
theorem scMayHave : FnScope ["word", "value"] ["word", "value"] (defScope sMayHave) := ⟨rfl, rfl, rfl, by decide +kernel, rfl, by decide +kernel, by decide +kernel⟩

def leftW : List Str := ["min", "low", "max", "quota", "burst", "tops", "sets", "alone"]
structure TP (P : Program) (w : World) (K : PySem.W.Frag) (mg : Str → Option Value) (aL : Addr) (left : List (Key × V)) : Prop where
  z_len : mg "len" = none
  z_int : mg "int" = none
  z_bool : mg "bool" = none
  z_str : mg "str" = none
  z_tuple : mg "tuple" = none
  z_list : mg "list" = none
  z_dict : mg "dict" = none
  z_all : mg "all" = none
  z_enumerate : mg "enumerate" = none
  z_isinstance : mg "isinstance" = none
  g_LONG : ∃ t, mg "LONG" = some (.int 3000 t)
  g_ENDLESS : ∃ t, mg "ENDLESS" = some (.str "endless" t)
  g_GREATEST_PROCESSOR : ∃ t, mg "GREATEST_PROCESSOR" = some (.int 63 t)
  g_LEFT_OUT : mg "LEFT_OUT" = some (.ref aL)
  tab : KTab P w K aL left
  keys : left.map (·.1) = leftW.map Sum.inr
def spIsInteger : Sp := fun vs H Q _ => ∃ i : Int, vs = [.int i] ∧ Q (.bl true) H
def spDivisor : Sp := fun vs H Q _ => ∃ a b : Nat, vs = [.int (a : Int), .int (b : Int)] ∧ a < 2 ^ 3000 ∧ b < 2 ^ 3000 ∧ Q (.int (Nat.gcd a b : Nat)) H
def spIsAmount (K : PySem.W.Frag) : Sp := fun vs H Q _ => ∃ (v : V) (n d : Nat), vs = [v] ∧ Dp K H v (.tuple [.int n, .int d]) ∧ n < 2 ^ 3000 ∧ 0 < d ∧ d < 2 ^ 3000 ∧ Nat.gcd n d = 1 ∧ Q (.bl true) H
def spIsEndless (K : PySem.W.Frag) : Sp := fun vs H Q _ => ∃ v : V, vs = [v] ∧ ((v = .str "endless" ∧ Q (.bl true) H) ∨ ∃ a xs, v = .ref a ∧ SqT K H a xs ∧ Q (.bl false) H)
def spIsWord : Sp := fun vs H Q _ => ∃ x : Str, vs = [.str x] ∧ x ∈ leftW ∧ Q (.bl true) H
/-- rising numbers above p, up to 63 -/
def RiseOk : Int → List Int → Prop
  | _, [] => True
  | p, x :: r => p < x ∧ x ≤ 63 ∧ RiseOk x r
def spIsSet (K : PySem.W.Frag) : Sp := fun vs H Q _ => ∃ (v : V) (xs : List Int), vs = [v] ∧ Dp K H v (.tuple (xs.map .int)) ∧ RiseOk (-1) xs ∧ xs.length ≤ 64 ∧ Q (.bl true) H
inductive ValOk : Str → PyData → Prop
  | amt {x : Str} {n d : Nat} : x ∈ (["min", "low", "burst", "max", "quota", "tops"] : List Str) → n < 2 ^ 3000 → 0 < d → d < 2 ^ 3000 → Nat.gcd n d = 1 → ValOk x (.tuple [.int n, .int d])
  | endl {x : Str} : x ∈ (["max", "quota", "tops"] : List Str) → ValOk x (.str "endless")
  | none : ValOk "sets" .none
  | set {xs : List Int} : RiseOk (-1) xs → xs.length ≤ 64 → ValOk "sets" (.tuple (xs.map .int))
  | alone {i : Int} : i = 0 ∨ i = 1 → ValOk "alone" (.int i)
def spMayHave (K : PySem.W.Frag) : Sp := fun vs H Q _ => ∃ (x : Str) (v : V) (d : PyData), vs = [.str x, v] ∧ Dp K H v d ∧ ValOk x d ∧ ∀ H', Same H H' → Q (.bl true) H'
section
variable {P : Program} {w : World} {K : PySem.W.Frag} {mg : Str → Option Value} {base : Heap} {aL : Addr} {left : List (Key × V)}
theorem ok_isInteger {f : Addr} {fd : FuncData} (F : Fun K "is_integer" "is_integer" sIsInteger f fd) (T : TP P w K mg aL left) : FnOk P w K mg base CX0 1 f fd ["thing"] spIsInteger := by
  refine F.ok scIsInteger (fun vs H Q E h => ?_) (fun cdv A outer s H vs Q E hr h => ?_)
  · obtain ⟨i, rfl, _⟩ := h
    rfl
  obtain ⟨i, rfl, q⟩ := h
  refine ⟨_, (pss_one (ps_ret (pe_and (pe_callB call_isi (by rfl) T.z_isinstance (by decide +kernel) (pa_cons (pv 0) (pa_cons (pe_bltn (v := .ty "int") (u := .type "int") (by rfl) T.z_int (by decide +kernel) rfl) pa_nil))) (pe_one (pe_not (pe_callB call_isi (by rfl) T.z_isinstance (by decide +kernel) (pa_cons (pv 0) (pa_cons (pe_bltn (v := .ty "bool") (u := .type "bool") (by rfl) T.z_bool (by decide +kernel) rfl) pa_nil)))))))), ?_⟩
  refine ⟨_, rfl, _, _, _, _, true, rfl, .ty _, .base (.int i), kit_ty (by decide +kernel), true, rfl, ?_⟩
  refine ⟨_, rfl, _, _, _, _, false, rfl, .ty _, .base (.int i), kit_ty (by decide +kernel), false, rfl, ?_⟩
  exact q

theorem bits_le {a : Nat} (h : a < 2 ^ 3000) : ((Builtin.Int.intBits (a : Int) : Nat) : Int) ≤ 3000 := by
  unfold Builtin.Int.intBits
  split
  · decide
  · have := PySem.Flt.log2_lt_of (by decide : 0 < 3000) h
    show (((a : Int).natAbs.log2 + 1 : Nat) : Int) ≤ 3000
    rw [Int.natAbs_natCast]
    omega
def mu2 : St → Hp → Nat := fun σ _ => match σ[1]? with
  | some (some (V.int b)) => b.toNat
  | _ => 0
theorem ok_divisor {f : Addr} {fd : FuncData} (F : Fun K "divisor" "divisor" sDivisor f fd) (T : TP P w K mg aL left) : FnOk P w K mg base CX0 1 f fd ["one", "other"] spDivisor := by
  refine F.ok scDivisor (fun vs H Q E h => ?_) (fun cdv A outer s H vs Q E hr h => ?_)
  · obtain ⟨a, b, rfl, _⟩ := h
    rfl
  obtain ⟨a, b, rfl, ha, hb, q⟩ := h
  obtain ⟨tl, hL⟩ := T.g_LONG
  have rest : ∀ x y : Nat, x < 2 ^ 3000 → y < 2 ^ 3000 → Nat.gcd x y = Nat.gcd a b → ∀ D : Ends, D.rt (.int (Nat.gcd a b : Nat)) H →
      tSeq (tWhile (tTest (tOp (rI0 fun i j => V.bl (decide (j < i))) (tBits (tVar 1)) (tC (V.int 3000)))) tNever)
        (tSeq (tWhile (fun σ H Q => tVar 1 σ H fun x H1 => ∃ k, TruV K x H1 k ∧ Q k H1) (tPar 0 1 (tCons (tVar 1) (tCons (tOp (rI (fun _ j => j ≠ 0) fun i j => V.int (i.fmod j)) (tVar 0) (tVar 1)) tNil)))) (tRet (tVar 0)))
        D [some (.int (x : Int)), some (.int (y : Int))] H := by
    intro x y hx hy e D q
    refine while_by (fun σ H' => H' = H ∧ σ = [some (.int (x : Int)), some (.int (y : Int))]) mu2 ⟨rfl, rfl⟩ ?_ ?_
    · rintro σ H' ⟨rfl, rfl⟩
      refine ⟨_, rfl, _, rfl, _, _, rfl, rfl, _, rfl, ?_⟩
      have hd : decide (3000 < ((Builtin.Int.intBits (y : Int) : Nat) : Int)) = false := decide_eq_false (by have := bits_le hy; omega)
      rw [hd]
      refine iteF ?_
      dsimp only
      unfold tSeq
      refine while_by (fun σ H2 => H2 = H' ∧ ∃ x y : Nat, σ = [some (.int (x : Int)), some (.int (y : Int))] ∧ Nat.gcd x y = Nat.gcd a b) mu2 ⟨rfl, x, y, rfl, e⟩ ?_ ?_
      · rintro σ H2 ⟨rfl, x, y, rfl, e⟩
        refine ⟨_, rfl, _, rfl, ?_⟩
        by_cases y0 : y = 0
        · subst y0
          refine iteF ?_
          refine ⟨_, rfl, ?_⟩
          rw [Nat.gcd_zero_right] at e
          rw [e]
          exact q
        · have hk : (((y : Nat) : Int) != 0) = true := by
            rw [bne_iff_ne]
            omega
          rw [hk]
          refine iteT ?_
          refine ⟨_, rfl, _, rfl, _, rfl, _, _, rfl, rfl, by show (y : Int) ≠ 0; omega, _, _, rfl, ?_⟩
          have em : (x : Int).fmod (y : Int) = ((x % y : Nat) : Int) := by
            rw [Int.fmod_eq_emod_of_nonneg _ (by omega)]
            exact (Int.natCast_emod x y).symm
          refine ⟨⟨rfl, y, x % y, ?_, ?_⟩, ?_⟩
          · show [some (V.int (y : Int)), some (V.int ((x : Int).fmod (y : Int)))] = _
            rw [em]
          · rw [← e, Nat.gcd_comm x y, Nat.gcd_rec y x, Nat.gcd_comm]
          · show ((x : Int).fmod (y : Int)).toNat < (y : Int).toNat
            rw [em]
            have := Nat.mod_lt x (show 0 < y by omega)
            omega
      · rintro σ H2 Q1 Q2 f ⟨v, h1, k, h2, q⟩
        exact ⟨v, h1, k, h2, f _ _ q⟩
    · rintro σ H' Q1 Q2 f h
      obtain ⟨v, h1, i, h2, i2, j2, h3, h4, k, h5, q⟩ := h
      exact ⟨v, h1, i, h2, i2, j2, h3, h4, k, h5, f _ _ q⟩
  refine ⟨_, (pss_cons (ps_if (pt_cmpR op_lt (pv 0) (pv 1) (nomark _)) (pss_one (ps_par (i := 0) (j := 1) (by rfl) scDivisor.nd rfl rfl (by decide) rfl rfl (pa_cons (pv 1) (pa_cons (pv 0) pa_nil)) (by rfl))) pss_nil) (pss_cons (ps_while PassesOwn.never (pt_cmpR op_gt (pe_bits (pv 1)) (pe_glob (v := .int 3000) rfl hL ⟨_, rfl⟩) (nomark _)) (pss_one ps_never)) (pss_cons (ps_while PassesOwn.never (pt_truth (pv 1) (by intro _; rfl)) (pss_one (ps_par (i := 0) (j := 1) (by rfl) scDivisor.nd rfl rfl (by decide) rfl rfl (pa_cons (pv 1) (pa_cons (pe_op op_modN (pv 0) (pv 1)) pa_nil)) (by rfl)))) (pss_one (ps_ret (pv 0)))))), ?_⟩
  refine ⟨_, rfl, _, rfl, _, _, rfl, rfl, _, rfl, ?_⟩
  refine ite2 (fun c => ?_) (fun c => ?_)
  · refine ⟨_, rfl, _, rfl, _, _, rfl, ?_⟩
    exact rest b a hb ha (Nat.gcd_comm _ _) _ q
  · exact rest a b ha hb rfl _ q

theorem bl_t {p : Prop} [Decidable p] (h : p) : V.bl (decide p) = V.bl true := congrArg V.bl (decide_eq_true h)
theorem dp_tup {H : Hp} {v : V} {ds : List PyData} (h : Dp K H v (.tuple ds)) : ∃ a xs, v = .ref a ∧ SqT K H a xs ∧ DpAll K H xs ds := by
  cases h with
  | tup h1 h2 => exact ⟨_, _, rfl, h1, h2⟩
theorem dpall_nil {H : Hp} {xs : List V} (h : DpAll K H xs []) : xs = [] := by
  cases h
  rfl
theorem dpall_cons {H : Hp} {xs : List V} {d : PyData} {ds : List PyData} (h : DpAll K H xs (d :: ds)) : ∃ v vs, xs = v :: vs ∧ Dp K H v d ∧ DpAll K H vs ds := by
  cases h with
  | cons h1 h2 => exact ⟨_, _, rfl, h1, h2⟩
theorem dp_int {H : Hp} {v : V} {i : Int} (h : Dp K H v (.int i)) : v = .int i := by
  cases h
  rfl
theorem dp_str {H : Hp} {v : V} {x : Str} (h : Dp K H v (.str x)) : v = .str x := by
  cases h
  rfl
theorem dp_none {H : Hp} {v : V} (h : Dp K H v .none) : v = .non := by
  cases h
  rfl
theorem dp_two {H : Hp} {v : V} {i j : Int} (h : Dp K H v (.tuple [.int i, .int j])) : ∃ a, v = .ref a ∧ SqT K H a [.int i, .int j] := by
  obtain ⟨a, xs, rfl, h1, h2⟩ := dp_tup h
  obtain ⟨x, xs, rfl, e1, h2⟩ := dpall_cons h2
  obtain ⟨y, xs, rfl, e2, h2⟩ := dpall_cons h2
  cases dpall_nil h2
  cases dp_int e1
  cases dp_int e2
  exact ⟨a, rfl, h1⟩
theorem sqt_ty {H : Hp} {a : Addr} {xs : List V} (h : SqT K H a xs) : TyX K H (.ref a) (.type "tuple") := by
  rcases h with (h | ⟨o, h⟩) | ⟨o, its, n, h, c, _⟩
  · exact .base (.tup h)
  · exact .fTuple h
  · exact .kTuple h c
theorem ok_isAmount {f g e : Addr} {fd gd ed : FuncData} (F : Fun K "is_amount" "is_amount" sIsAmount f fd) (T : TP P w K mg aL left) (cI : Cal P w K mg base "is_integer" ["thing"] 1 spIsInteger g gd) (cD : Cal P w K mg base "divisor" ["one", "other"] 1 spDivisor e ed) : FnOk P w K mg base CX0 2 f fd ["thing"] (spIsAmount K) := by
  refine F.ok scIsAmount (fun vs H Q E h => ?_) (fun cdv A outer s H vs Q E hr h => ?_)
  · obtain ⟨i, n, d, rfl, _⟩ := h
    rfl
  obtain ⟨v, n, d, rfl, hv, h1, h2, h3, h4, q⟩ := h
  obtain ⟨a, rfl, ha⟩ := dp_two hv
  refine ⟨_, (pss_cons (ps_if (PW.pt (pw_or (pt_not (pt_val (pe_callB call_isi (by rfl) T.z_isinstance (by decide +kernel) (pa_cons (pv 0) (pa_cons (pe_bltn (v := .ty "tuple") (u := .type "tuple") (by rfl) T.z_tuple (by decide +kernel) rfl) pa_nil))))) (pw_or1 (pt_cmpR op_ne (pe_callB call_len_seq (by rfl) T.z_len PySem.boot_len (pa_cons (pv 0) pa_nil)) pe_int (nomark _))))) (pss_one (ps_ret pe_bl)) pss_nil) (pss_cons (ps_asg (pv 0) (pg_tup (by rfl) (pgs_cons (pg_name (i := 1) scIsAmount.nd rfl (Or.inl rfl)) (pgs_cons (pg_name (i := 2) scIsAmount.nd rfl (Or.inl rfl)) pgs_nil)))) (pss_cons (ps_if (PW.pt (pw_or (pt_not (pt_val (pe_call cI.ok (hr.mono (by decide)) rfl cI.mg cI.kp cI.bd .nil pass0 (pa_cons (pv 1) pa_nil)))) (pw_or1 (pt_not (pt_val (pe_call cI.ok (hr.mono (by decide)) rfl cI.mg cI.kp cI.bd .nil pass0 (pa_cons (pv 2) pa_nil))))))) (pss_one (ps_ret pe_bl)) pss_nil) (pss_one (ps_ret (pe_and (pe_cmpR op_ge (pv 1) pe_int (nomark _)) (pe_and (pe_cmpR op_ge (pv 2) pe_int (nomark _)) (pe_one (pe_cmpR op_eq (pe_call cD.ok (hr.mono (by decide)) rfl cD.mg cD.kp cD.bd .nil pass0 (pa_cons (pv 1) (pa_cons (pv 2) pa_nil))) pe_int (nomark _)))))))))), ?_⟩
  refine ⟨_, rfl, _, _, _, _, true, rfl, .ty _, sqt_ty ha, kit_ty (by decide +kernel), true, rfl, ?_⟩
  refine iteF ?_
  refine ⟨_, rfl, a, _, rfl, .inr ha, rfl, _, rfl, ?_⟩
  refine iteNS rfl ?_
  refine ⟨_, rfl, a, _, rfl, ha, rfl, ?_⟩
  refine ⟨_, _, rfl, _, _, rfl, rfl, ?_⟩
  refine ⟨_, rfl, _, rfl, true, rfl, ?_⟩
  refine iteF ?_
  refine ⟨_, rfl, _, rfl, true, rfl, ?_⟩
  refine iteF ?_
  refine ⟨_, rfl, _, _, rfl, rfl, true, bl_t (by omega), ?_⟩
  refine ⟨_, rfl, _, _, rfl, rfl, true, bl_t (by omega), ?_⟩
  refine ⟨_, rfl, _, rfl, n, d, rfl, h1, h3, ?_⟩
  rw [h4]
  exact ⟨rfl, q⟩

theorem Same.seqT {H H' : Hp} {a : Addr} {xs : List V} (e : Same H H') (h : SqT K H a xs) : SqT K H' a xs := by
  rcases h with (h | ⟨o, h⟩) | h
  · exact .inl (.inl (e _ _ h))
  · exact .inl (.inr ⟨o, e _ _ h⟩)
  · exact .inr h
mutual
theorem dp_same {H H' : Hp} (e : Same H H') : ∀ (d : PyData) (v : V), Dp K H v d → Dp K H' v d
  | .none, _, h => by
    cases h
    exact .non
  | .bool b, _, h => by
    cases h
    exact .bl b
  | .int i, _, h => by
    cases h
    exact .int i
  | .str x, _, h => by
    cases h
    exact .str x
  | .list ds, _, h => by
    cases h with
    | lst h1 h2 => exact .lst (e.seq h1) (dp_sameAll e ds _ h2)
  | .tuple ds, _, h => by
    cases h with
    | tup h1 h2 => exact .tup (Same.seqT e h1) (dp_sameAll e ds _ h2)
  | .dict _, _, h => nomatch h
theorem dp_sameAll {H H' : Hp} (e : Same H H') : ∀ (ds : List PyData) (vs : List V), DpAll K H vs ds → DpAll K H' vs ds
  | [], _, h => by
    cases h
    exact .nil
  | d :: ds, _, h => by
    cases h with
    | cons h1 h2 => exact .cons (dp_same e d _ h1) (dp_sameAll e ds _ h2)
end
theorem ok_isEndless {f : Addr} {fd : FuncData} (F : Fun K "is_endless" "is_endless" sIsEndless f fd) (T : TP P w K mg aL left) : FnOk P w K mg base CX0 1 f fd ["thing"] (spIsEndless K) := by
  refine F.ok scIsEndless (fun vs H Q E h => ?_) (fun cdv A outer s H vs Q E hr h => ?_)
  · obtain ⟨v, rfl, _⟩ := h
    rfl
  obtain ⟨v, rfl, h⟩ := h
  obtain ⟨tl, hL⟩ := T.g_ENDLESS
  refine ⟨_, (pss_one (ps_ret (pe_and (pe_callB call_isi (by rfl) T.z_isinstance (by decide +kernel) (pa_cons (pv 0) (pa_cons (pe_bltn (v := .ty "str") (u := .type "str") (by rfl) T.z_str (by decide +kernel) rfl) pa_nil))) (pe_one (pe_cmpR op_eq (pv 0) (pe_glob (v := .str "endless") rfl hL ⟨_, rfl⟩) (nomark _)))))), ?_⟩
  rcases h with ⟨rfl, q⟩ | ⟨a, xs, rfl, ha, q⟩
  · refine ⟨_, rfl, _, _, _, _, true, rfl, .ty _, .base (.str _), kit_ty (by decide +kernel), true, rfl, ?_⟩
    refine ⟨_, rfl, rfl, ?_⟩
    show Q (.bl (decide (V.str "endless" = V.str "endless"))) H
    rw [decide_eq_true rfl]
    exact q
  · refine ⟨_, rfl, _, _, _, _, false, rfl, .ty _, sqt_ty ha, kit_ty (by decide +kernel), false, rfl, ?_⟩
    exact q

theorem val_some {kvs : List (Key × V)} {k : Key} (h : k ∈ kvs.map (·.1)) : (valV kvs k).isSome = true := by
  obtain ⟨p, hp, e⟩ := List.mem_map.mp h
  rw [← valV_any]
  exact List.any_eq_true.mpr ⟨p, hp, decide_eq_true e⟩
theorem ok_isWord {f : Addr} {fd : FuncData} (F : Fun K "is_word" "is_word" sIsWord f fd) (T : TP P w K mg aL left) : FnOk P w K mg base CX0 1 f fd ["thing"] spIsWord := by
  refine F.ok scIsWord (fun vs H Q E h => ?_) (fun cdv A outer s H vs Q E hr h => ?_)
  · obtain ⟨v, rfl, _⟩ := h
    rfl
  obtain ⟨x, rfl, hx, q⟩ := h
  refine ⟨_, (pss_one (ps_ret (pe_and (pe_callB call_isi (by rfl) T.z_isinstance (by decide +kernel) (pa_cons (pv 0) (pa_cons (pe_bltn (v := .ty "str") (u := .type "str") (by rfl) T.z_str (by decide +kernel) rfl) pa_nil))) (pe_one (pe_cmpR op_inT (pv 0) (pe_glob (v := .ref aL) rfl T.g_LEFT_OUT rfl) (by first | exact nomark _ | rfl)))))), ?_⟩
  refine ⟨_, rfl, _, _, _, _, true, rfl, .ty _, .base (.str _), kit_ty (by decide +kernel), true, rfl, ?_⟩
  refine ⟨_, rfl, aL, left, Sum.inr x, rfl, rfl, T.tab, ?_⟩
  rw [val_some (k := (Sum.inr x : Key)) (by rw [T.keys]; exact List.mem_map.mpr ⟨x, hx, rfl⟩)]
  exact q

theorem map_int_get {xs : List Int} {i : Nat} {x : V} (h : (xs.map V.int)[i]? = some x) : ∃ z, x = .int z ∧ xs[i]? = some z := by
  rw [List.getElem?_map] at h
  cases e : xs[i]? with
  | none =>
    rw [e] at h
    cases h
  | some z =>
    rw [e] at h
    exact ⟨z, (Option.some.inj h).symm, rfl⟩
theorem dp_ints {H : Hp} : ∀ {vs : List V} {xs : List Int}, DpAll K H vs (xs.map .int) → vs = xs.map V.int
  | vs, [], h => dpall_nil h
  | vs, x :: xs, h => by
    obtain ⟨v, r, rfl, h1, h2⟩ := dpall_cons h
    rw [dp_int h1, dp_ints h2]
    rfl
theorem drop_at {α : Type} {xs : List α} {i : Nat} {z : α} (h : xs[i]? = some z) : xs.drop i = z :: xs.drop (i + 1) := by
  obtain ⟨hi, e⟩ := List.getElem?_eq_some_iff.mp h
  rw [List.drop_eq_getElem_cons hi, e]
theorem ok_isSet {f g : Addr} {fd gd : FuncData} (F : Fun K "is_set" "is_set" sIsSet f fd) (T : TP P w K mg aL left) (cI : Cal P w K mg base "is_integer" ["thing"] 1 spIsInteger g gd) : FnOk P w K mg base CX0 2 f fd ["thing"] (spIsSet K) := by
  refine F.ok scIsSet (fun vs H Q E h => ?_) (fun cdv A outer s H vs Q E hr h => ?_)
  · obtain ⟨v, xs, rfl, _⟩ := h
    rfl
  obtain ⟨v, xs, rfl, hv, hrise, hlen, q⟩ := h
  obtain ⟨a, ys, rfl, ha, hys⟩ := dp_tup hv
  cases dp_ints hys
  obtain ⟨tl, hL⟩ := T.g_GREATEST_PROCESSOR
  refine ⟨_, (pss_cons (ps_if (pt_not (pt_val (pe_callB call_isi (by rfl) T.z_isinstance (by decide +kernel) (pa_cons (pv 0) (pa_cons (pe_bltn (v := .ty "tuple") (u := .type "tuple") (by rfl) T.z_tuple (by decide +kernel) rfl) pa_nil))))) (pss_one (ps_ret pe_bl)) pss_nil) (pss_cons (ps_set (i := 1) scIsSet.nd rfl (Or.inl rfl) (pe_un un_neg pe_int)) (pss_cons (ps_for PassesOwn.never rfl (pi_tup (pv 0)) (pg_name (i := 2) scIsSet.nd rfl (Or.inl rfl)) (pss_cons (ps_if (PW.pt (pw_or (pt_not (pt_val (pe_call cI.ok (hr.mono (by decide)) rfl cI.mg cI.kp cI.bd .nil pass0 (pa_cons (pv 2) pa_nil)))) (pw_or1 (pt_not (pt_chain op_lt op_le (pv 1) (pv 2) (pe_glob (v := .int 63) rfl hL ⟨_, rfl⟩)))))) (pss_one (ps_ret pe_bl)) pss_nil) (pss_one (ps_set (i := 1) scIsSet.nd rfl (Or.inl rfl) (pv 2))))) (pss_one (ps_ret pe_bl))))), ?_⟩
  refine ⟨_, rfl, _, _, _, _, true, rfl, .ty _, sqt_ty ha, kit_ty (by decide +kernel), true, rfl, ?_⟩
  refine iteF ?_
  refine ⟨_, rfl, ?_⟩
  refine ⟨_, rfl, a, rfl, ⟨_, ha⟩, for_tup (xs := xs.map V.int) (fun i σ H' => H' = H ∧ ∃ (p : Int) (o : Option V), σ = [some (.ref a), some (.int p), o] ∧ RiseOk p (xs.drop i)) ⟨rfl, -1, none, rfl, hrise⟩ ?_ ?_ ?_⟩
  · rintro i σ H' _ ⟨rfl, _⟩
    exact ha
  · rintro i x σ H' hi ⟨rfl, p, o, rfl, hp⟩
    obtain ⟨z, rfl, hz⟩ := map_int_get hi
    rw [drop_at hz] at hp
    obtain ⟨h1, h2, h3⟩ := hp
    refine ⟨_, rfl, z, rfl, true, rfl, ?_⟩
    refine iteF ?_
    refine ⟨_, rfl, _, rfl, _, _, rfl, rfl, true, bl_t h1, ?_⟩
    refine iteT ?_
    refine ⟨_, _, rfl, rfl, true, bl_t h2, ?_⟩
    refine iteF ?_
    refine ⟨_, rfl, ?_⟩
    exact ⟨rfl, z, _, rfl, h3⟩
  · rintro σ H' ⟨rfl, _⟩
    exact q

theorem ifF {b : Bool} {A B : Prop} (h : b = false) (k : B) : if b = true then A else B := by
  rw [h]
  exact iteF k
theorem ifT {b : Bool} {A B : Prop} (h : b = true) (k : A) : if b = true then A else B := by
  rw [h]
  exact iteT k
theorem in_yes {x : V} {xs : List V} (h : inV x xs = true) : (if (false : Bool) = true then !inV x xs else inV x xs) = true := by
  rw [if_neg (by decide)]
  exact h
theorem ok_mayHave {f g e c d : Addr} {fd gd ed cd dd : FuncData} (F : Fun K "may_have" "may_have" sMayHave f fd) (T : TP P w K mg aL left) (cA : Cal P w K mg base "is_amount" ["thing"] 2 (spIsAmount K) g gd) (cI : Cal P w K mg base "is_integer" ["thing"] 1 spIsInteger e ed)
    (cS : Cal P w K mg base "is_set" ["thing"] 2 (spIsSet K) c cd) (cE : Cal P w K mg base "is_endless" ["thing"] 1 (spIsEndless K) d dd) : FnOk P w K mg base CX0 3 f fd ["word", "value"] (spMayHave K) := by
  refine F.ok scMayHave (fun vs H Q E h => ?_) (fun cdv A outer s H vs Q E hr h => ?_)
  · obtain ⟨x, v, d, rfl, _⟩ := h
    rfl
  obtain ⟨x, v, d, rfl, hv, hok, q⟩ := h
  refine ⟨_, (pss_cons (ps_if (pt_cmpR op_in_seq (pv 0) (pe_tup (pa_cons pe_str (pa_cons pe_str (pa_cons pe_str pa_nil)))) (by first | exact nomark _ | rfl)) (pss_one (ps_ret (pe_call cA.ok (hr.mono (by decide)) rfl cA.mg cA.kp cA.bd .nil pass0 (pa_cons (pv 1) pa_nil)))) pss_nil) (pss_cons (ps_if (pt_cmpR op_eq (pv 0) pe_str (nomark _)) (pss_one (ps_ret (pe_or (pe_cmpR op_isN (pv 1) pe_non (nomark _)) (pe_one (pe_call cS.ok (hr.mono (by decide)) rfl cS.mg cS.kp cS.bd .nil pass0 (pa_cons (pv 1) pa_nil)))))) pss_nil) (pss_cons (ps_if (pt_cmpR op_eq (pv 0) pe_str (nomark _)) (pss_one (ps_ret (pe_and (pe_call cI.ok (hr.mono (by decide)) rfl cI.mg cI.kp cI.bd .nil pass0 (pa_cons (pv 1) pa_nil)) (pe_one (pe_cmpR op_in_seq (pv 1) (pe_tup (pa_cons pe_int (pa_cons pe_int pa_nil))) (by first | exact nomark _ | rfl)))))) pss_nil) (pss_one (ps_ret (pe_or (pe_call cE.ok (hr.mono (by decide)) rfl cE.mg cE.kp cE.bd .nil pass0 (pa_cons (pv 1) pa_nil)) (pe_one (pe_call cA.ok (hr.mono (by decide)) rfl cA.mg cA.kp cA.bd .nil pass0 (pa_cons (pv 1) pa_nil))))))))), ?_⟩
  refine ⟨_, rfl, by show 3 ≤ sizeLine; decide, fun p hp => ⟨p, _, rfl, .inr (SqT.of upd_same), rfl, rfl, ?_⟩⟩
  have s1 := Same.new (Same.refl H) hp (.tup [.str "min", .str "low", .str "burst"])
  have hv1 := dp_same s1 d v hv
  cases hok with
  | @amt _ n m hw h1 h2 h3 h4 =>
    obtain ⟨a, rfl, ha⟩ := dp_two hv1
    simp only [List.mem_cons, List.not_mem_nil, or_false] at hw
    rcases hw with rfl | rfl | rfl | rfl | rfl | rfl
    iterate 3
      · refine ⟨true, congrArg V.bl (by decide +kernel), iteT ?_⟩
        exact ⟨_, rfl, _, n, m, rfl, hv1, h1, h2, h3, h4, q _ s1⟩
    iterate 3
      · refine ⟨false, congrArg V.bl (by decide +kernel), iteF ?_⟩
        refine ⟨_, rfl, rfl, _, rfl, ifF (by decide +kernel) ?_⟩
        refine ⟨_, rfl, rfl, _, rfl, ifF (by decide +kernel) ?_⟩
        refine ⟨_, rfl, _, rfl, .inr ⟨a, _, rfl, ha, ?_⟩⟩
        refine ⟨false, rfl, ?_⟩
        refine iteF ?_
        exact ⟨_, rfl, _, n, m, rfl, hv1, h1, h2, h3, h4, q _ s1⟩
  | endl hw =>
    cases dp_str hv
    simp only [List.mem_cons, List.not_mem_nil, or_false] at hw
    rcases hw with rfl | rfl | rfl
    all_goals
      refine ⟨false, congrArg V.bl (by decide +kernel), iteF ?_⟩
      refine ⟨_, rfl, rfl, _, rfl, ifF (by decide +kernel) ?_⟩
      refine ⟨_, rfl, rfl, _, rfl, ifF (by decide +kernel) ?_⟩
      refine ⟨_, rfl, _, rfl, .inl ⟨rfl, ?_⟩⟩
      refine ⟨true, rfl, ?_⟩
      refine iteT ?_
      exact q _ s1
  | none =>
    cases dp_none hv
    refine ⟨false, congrArg V.bl (by decide +kernel), iteF ?_⟩
    refine ⟨_, rfl, rfl, _, rfl, ifT (by decide +kernel) ?_⟩
    refine ⟨_, rfl, rfl, true, rfl, iteT ?_⟩
    exact q _ s1
  | @set xs hx hl =>
    obtain ⟨a, ys, rfl, ha, hys⟩ := dp_tup hv1
    refine ⟨false, congrArg V.bl (by decide +kernel), iteF ?_⟩
    refine ⟨_, rfl, rfl, _, rfl, ifT (by decide +kernel) ?_⟩
    refine ⟨_, rfl, rfl, false, rfl, iteF ?_⟩
    exact ⟨_, rfl, _, xs, rfl, hv1, hx, hl, q _ s1⟩
  | @alone i hi =>
    cases dp_int hv
    refine ⟨false, congrArg V.bl (by decide +kernel), iteF ?_⟩
    refine ⟨_, rfl, rfl, _, rfl, ifF (by decide +kernel) ?_⟩
    refine ⟨_, rfl, rfl, _, rfl, ifT (by decide +kernel) ?_⟩
    refine ⟨_, rfl, i, rfl, true, rfl, iteT ?_⟩
    refine ⟨_, rfl, by show 2 ≤ sizeLine; decide, fun p2 hp2 => ⟨p2, _, rfl, .inr (SqT.of upd_same), rfl, rfl, ?_⟩⟩
    have e : inV (.int i) [.int 0, .int 1] = true := by
      rcases hi with rfl | rfl <;> decide +kernel
    show Q (.bl (inV (.int i) [.int 0, .int 1])) _
    rw [e]
    exact q _ (Same.new s1 hp2 _)

end
end Bd
end

section
namespace Bd
open PySem L2
abbrev sIsName : Stmt := (top 25)
theorem scIsName : FnScope ["thing", "letter"] ["thing"] (defScope sIsName) := ⟨rfl, rfl, rfl, by decide +kernel, rfl, by decide +kernel, by decide +kernel⟩
abbrev sIsDue : Stmt := (top 30)
theorem scIsDue : FnScope ["thing", "word", "value"] ["thing"] (defScope sIsDue) := ⟨rfl, rfl, rfl, by decide +kernel, rfl, by decide +kernel, by decide +kernel⟩
abbrev sIsDues : Stmt := (top 31)
theorem scIsDues : FnScope ["thing", "words", "due"] ["thing"] (defScope sIsDues) := ⟨rfl, rfl, rfl, by decide +kernel, rfl, by decide +kernel, by decide +kernel⟩
abbrev sIsGroupRow : Stmt := (top 32)
theorem scIsGroupRow : FnScope ["thing", "name", "above", "dues"] ["thing"] (defScope sIsGroupRow) := ⟨rfl, rfl, rfl, by decide +kernel, rfl, by decide +kernel, by decide +kernel⟩
abbrev sMayStand : Stmt := (top 34)
theorem scMayStand : FnScope ["tree", "row", "name", "above", "dues"] ["tree", "row"] (defScope sMayStand) := ⟨rfl, rfl, rfl, by decide +kernel, rfl, by decide +kernel, by decide +kernel⟩

def NameOk (x : Str) : Prop := 1 ≤ x.length ∧ x.length ≤ 10 ∧ ∀ c ∈ x.cps.toList, 97 ≤ c ∧ c ≤ 122
structure RowM where
  name : Str
  above : Str
  dues : List (Str × PyData)
/-- a pair of a word and a value at p -/
def DueAt (K : PySem.W.Frag) (H : Hp) (p : Addr) (du : Str × PyData) : Prop := ∃ u, SqT K H p [.str du.1, u] ∧ Dp K H u du.2
/-- dues at t -/
def DuesAt (K : PySem.W.Frag) (H : Hp) (t : Addr) (dues : List (Str × PyData)) : Prop := ∃ ps : List Addr, FrT H t (ps.map V.ref) ∧ Paired (DueAt K H) ps dues
def RowAt (K : PySem.W.Frag) (H : Hp) (v : V) (r : RowM) : Prop := ∃ a t, v = .ref a ∧ SqT K H a [.str r.name, .str r.above, .ref t] ∧ DuesAt K H t r.dues
def DuesOk (dues : List (Str × PyData)) : Prop := (dues.map (·.1)).Nodup ∧ ∀ du ∈ dues, du.1 ∈ leftW ∧ ValOk du.1 du.2
theorem paired_mono {α β : Type} {F G : α → β → Prop} (h : ∀ a b, F a b → G a b) : ∀ {xs : List α} {ys : List β}, Paired F xs ys → Paired G xs ys
  | _, _, .nil => .nil
  | _, _, .cons a b => .cons (h _ _ a) (paired_mono h b)
theorem paired_get {α β : Type} {F : α → β → Prop} : ∀ {xs : List α} {ys : List β}, Paired F xs ys → ∀ {i : Nat} {x : α}, xs[i]? = some x → ∃ y, ys[i]? = some y ∧ F x y
  | _, _, .nil, i, x, h => by simp at h
  | _, _, .cons a b, 0, x, h => by
    cases Option.some.inj h
    exact ⟨_, rfl, a⟩
  | _, _, .cons a b, i + 1, x, h => by
    obtain ⟨y, h1, h2⟩ := paired_get b (i := i) (x := x) (by simpa using h)
    exact ⟨y, by simpa using h1, h2⟩
theorem DueAt.same {K : PySem.W.Frag} {H H' : Hp} (e : Same H H') {p : Addr} {du : Str × PyData} (h : DueAt K H p du) : DueAt K H' p du := by
  obtain ⟨u, h1, h2⟩ := h
  exact ⟨u, Same.seqT e h1, dp_same e _ _ h2⟩
theorem FrT.same {H H' : Hp} (e : Same H H') {a : Addr} {xs : List V} (h : FrT H a xs) : FrT H' a xs := by
  obtain ⟨o, h1, h2⟩ := h
  exact ⟨o, h1, e _ _ h2⟩
theorem DuesAt.same {K : PySem.W.Frag} {H H' : Hp} (e : Same H H') {t : Addr} {dues : List (Str × PyData)} (h : DuesAt K H t dues) : DuesAt K H' t dues := by
  obtain ⟨ps, h1, h2⟩ := h
  exact ⟨ps, FrT.same e h1, paired_mono (fun _ _ z => DueAt.same e z) h2⟩
theorem RowAt.same {K : PySem.W.Frag} {H H' : Hp} (e : Same H H') {v : V} {r : RowM} (h : RowAt K H v r) : RowAt K H' v r := by
  obtain ⟨a, t, rfl, h1, h2⟩ := h
  exact ⟨a, t, rfl, Same.seqT e h1, DuesAt.same e h2⟩
def spIsName : Sp := fun vs H Q _ => ∃ x : Str, vs = [.str x] ∧ NameOk x ∧ ∀ H', Same H H' → Q (.bl true) H'
def spIsDue (K : PySem.W.Frag) : Sp := fun vs H Q _ => ∃ (p : Addr) (du : Str × PyData), vs = [.ref p] ∧ DueAt K H p du ∧ du.1 ∈ leftW ∧ ValOk du.1 du.2 ∧ ∀ H', Same H H' → Q (.bl true) H'
def spIsDues (K : PySem.W.Frag) : Sp := fun vs H Q _ => ∃ (t : Addr) (dues : List (Str × PyData)), vs = [.ref t] ∧ DuesAt K H t dues ∧ DuesOk dues ∧ ∀ H', Same H H' → Q (.bl true) H'
def spIsGroupRow (K : PySem.W.Frag) : Sp := fun vs H Q _ => ∃ (v : V) (r : RowM), vs = [v] ∧ RowAt K H v r ∧ NameOk r.name ∧ DuesOk r.dues ∧ ∀ H', Same H H' → Q (.bl true) H'
section
variable {P : Program} {w : World} {K : PySem.W.Frag} {mg : Str → Option Value} {base : Heap} {aL : Addr} {left : List (Key × V)}
theorem ok_isDue {f g e : Addr} {fd gd ed : FuncData} (F : Fun K "is_due" "is_due" sIsDue f fd) (T : TP P w K mg aL left) (cW : Cal P w K mg base "is_word" ["thing"] 1 spIsWord g gd) (cM : Cal P w K mg base "may_have" ["word", "value"] 3 (spMayHave K) e ed) :
    FnOk P w K mg base CX0 4 f fd ["thing"] (spIsDue K) := by
  refine F.ok scIsDue (fun vs H Q E h => ?_) (fun cdv A outer s H vs Q E hr h => ?_)
  · obtain ⟨p, du, rfl, _⟩ := h
    rfl
  obtain ⟨p, du, rfl, ⟨u, ha, hu⟩, hw, hv, q⟩ := h
  refine ⟨_, (pss_cons (ps_if (PW.pt (pw_or (pt_not (pt_val (pe_callB call_isi (by rfl) T.z_isinstance (by decide +kernel) (pa_cons (pv 0) (pa_cons (pe_bltn (v := .ty "tuple") (u := .type "tuple") (by rfl) T.z_tuple (by decide +kernel) rfl) pa_nil))))) (pw_or1 (pt_cmpR op_ne (pe_callB call_len_seq (by rfl) T.z_len PySem.boot_len (pa_cons (pv 0) pa_nil)) pe_int (nomark _))))) (pss_one (ps_ret pe_bl)) pss_nil) (pss_cons (ps_asg (pv 0) (pg_tup (by rfl) (pgs_cons (pg_name (i := 1) scIsDue.nd rfl (Or.inl rfl)) (pgs_cons (pg_name (i := 2) scIsDue.nd rfl (Or.inl rfl)) pgs_nil)))) (pss_one (ps_ret (pe_and (pe_call cW.ok (hr.mono (by decide)) rfl cW.mg cW.kp cW.bd .nil pass0 (pa_cons (pv 1) pa_nil)) (pe_one (pe_call cM.ok (hr.mono (by decide)) rfl cM.mg cM.kp cM.bd .nil pass0 (pa_cons (pv 1) (pa_cons (pv 2) pa_nil))))))))), ?_⟩
  refine ⟨_, rfl, _, _, _, _, true, rfl, .ty _, sqt_ty ha, kit_ty (by decide +kernel), true, rfl, ?_⟩
  refine iteF ?_
  refine ⟨_, rfl, p, _, rfl, .inr ha, rfl, _, rfl, ?_⟩
  refine iteNS rfl ?_
  refine ⟨_, rfl, p, _, rfl, ha, rfl, ?_⟩
  refine ⟨_, _, rfl, _, _, rfl, rfl, ?_⟩
  refine ⟨_, rfl, du.1, rfl, hw, true, rfl, iteT ?_⟩
  exact ⟨_, rfl, _, rfl, du.1, u, du.2, rfl, hu, hv, q⟩

theorem letter_ok : ∀ c < 123, 97 ≤ c → (!decide ((⟨#[c]⟩ : Str).cps.toList < ("a" : Str).cps.toList)) = true ∧ (!decide (("z" : Str).cps.toList < (⟨#[c]⟩ : Str).cps.toList)) = true := by decide +kernel
theorem ok_isName {f : Addr} {fd : FuncData} (F : Fun K "is_name" "is_name" sIsName f fd) (T : TP P w K mg aL left) : FnOk P w K mg base CX0 1 f fd ["thing"] spIsName := by
  refine F.ok scIsName (fun vs H Q E h => ?_) (fun cdv A outer s H vs Q E hr h => ?_)
  · obtain ⟨x, rfl, _⟩ := h
    rfl
  obtain ⟨x, rfl, ⟨h1, h2, h3⟩, q⟩ := h
  have hx : x.length ≤ sizeLine := small (by omega)
  refine ⟨_, (pss_cons (ps_if (PW.pt (pw_or (pt_not (pt_val (pe_callB call_isi (by rfl) T.z_isinstance (by decide +kernel) (pa_cons (pv 0) (pa_cons (pe_bltn (v := .ty "str") (u := .type "str") (by rfl) T.z_str (by decide +kernel) rfl) pa_nil))))) (pw_or1 (pt_not (pt_chain op_le op_le pe_int (pe_callB call_len_str (by rfl) T.z_len PySem.boot_len (pa_cons (pv 0) pa_nil)) pe_int))))) (pss_one (ps_ret pe_bl)) pss_nil) (pss_one (ps_ret (pe_callB (cr_all rfl) (by rfl) T.z_all (by decide +kernel) (pa_cons (pe_lc (own := [("letter", 1)]) (g := gName 1) (tt := tYes) rfl scIsName.nd (pi_str (pv 0)) (blkOk_by (own := [("letter", 1)]) (N := ["thing", "letter"]) (sc := defScope sIsName) (by decide +kernel)) (fun _ _ _ _ _ => (pg_name (i := 1) scIsName.nd rfl (Or.inl rfl))) (fun _ _ _ _ _ => pts_nil) (fun _ _ _ _ _ => (pe_chain op_le_str op_le_str pe_str (pv 1) pe_str))) pa_nil))))), ?_⟩
  refine ⟨_, rfl, _, _, _, _, true, rfl, .ty _, .base (.str _), kit_ty (by decide +kernel), true, rfl, ?_⟩
  refine iteF ?_
  refine ⟨_, rfl, x, rfl, hx, _, _, rfl, rfl, true, bl_t (by omega), ?_⟩
  refine iteT ?_
  refine ⟨_, _, rfl, rfl, true, bl_t (by omega), ?_⟩
  refine iteF ?_
  refine ⟨_, rfl, x, rfl, fun D hD => lc_it walk_str (fun i H' => H' = upd H D (.lst ((List.replicate i true).map V.bl))) rfl (fun _ _ _ _ => trivial) ?_ ?_⟩
  · rintro i v H1 H2 hi rfl ⟨rfl, c, hc, rfl⟩
    have hm : c ∈ x.cps.toList := by
      rw [← Array.getElem?_toList] at hc
      exact List.mem_of_getElem? hc
    obtain ⟨l1, l2⟩ := h3 c hm
    obtain ⟨e1, e2⟩ := letter_ok c (by omega) l1
    refine ⟨rfl, ?_⟩
    unfold tYes
    refine iteT ?_
    refine ⟨_, rfl, _, _, rfl, rfl, true, congrArg V.bl e1, ?_⟩
    refine iteT ?_
    refine ⟨_, _, rfl, rfl, ?_⟩
    rw [e2]
    refine ⟨_, upd_same, ?_, ?_⟩
    · rw [List.length_map, List.length_replicate]
      have : x.cps.size = x.length := rfl
      exact small1000 (by omega)
    · rw [upd_upd, List.replicate_succ', List.map_append]
      rfl
  · rintro H1 rfl
    refine ⟨D, List.replicate x.cps.size true, rfl, SqL.of upd_same, ?_⟩
    have e : (List.replicate x.cps.size true).all id = true := by simp
    rw [e]
    exact q _ (Same.new (Same.refl H) hD _)

theorem map_ref_get {ps : List Addr} {i : Nat} {x : V} (h : (ps.map V.ref)[i]? = some x) : ∃ p, x = .ref p ∧ ps[i]? = some p := by
  rw [List.getElem?_map] at h
  cases e : ps[i]? with
  | none =>
    rw [e] at h
    cases h
  | some z =>
    rw [e] at h
    exact ⟨z, (Option.some.inj h).symm, rfl⟩
theorem fresh_at {α β : Type} {f : α → β} : ∀ {xs : List α} {i : Nat} {x : α}, (xs.map f).Nodup → xs[i]? = some x → ∀ y ∈ xs.take i, f y ≠ f x
  | [], i, x, _, h => by simp at h
  | a :: r, 0, x, _, h => by
    intro y hy
    simp at hy
  | a :: r, i + 1, x, hn, h => by
    intro y hy
    have hn : (f a :: r.map f).Nodup := hn
    obtain ⟨h1, h2⟩ := List.nodup_cons.mp hn
    have h' : r[i]? = some x := by simpa using h
    rw [List.take_succ_cons] at hy
    rcases List.mem_cons.mp hy with rfl | hy
    · intro e
      exact h1 (by rw [e]; exact List.mem_map.mpr ⟨x, List.mem_of_getElem? h', rfl⟩)
    · exact fresh_at h2 h' y hy
theorem nodup_few {α : Type} [DecidableEq α] : ∀ {xs ys : List α}, xs.Nodup → (∀ x ∈ xs, x ∈ ys) → xs.length ≤ ys.length
  | [], ys, _, _ => Nat.zero_le _
  | x :: xs, ys, hn, h => by
    obtain ⟨h1, h2⟩ := List.nodup_cons.mp hn
    have hx := h x List.mem_cons_self
    have := nodup_few (xs := xs) (ys := ys.erase x) h2 (fun z hz => by
      have hzx : z ≠ x := fun e => h1 (e ▸ hz)
      exact (List.mem_erase_of_ne hzx).mpr (h z (List.mem_cons_of_mem _ hz)))
    rw [List.length_erase_of_mem hx] at this
    have hp : 0 < ys.length := List.length_pos_of_mem hx
    rw [List.length_cons]
    omega
theorem words_few {dues : List (Str × PyData)} (hn : (dues.map (·.1)).Nodup) (h : ∀ du ∈ dues, du.1 ∈ leftW) : dues.length ≤ 8 := by
  have := nodup_few (ys := leftW) hn (fun x hx => by
    obtain ⟨du, hdu, rfl⟩ := List.mem_map.mp hx
    exact h du hdu)
  rw [List.length_map] at this
  exact this
theorem ok_isDues {f g : Addr} {fd gd : FuncData} (F : Fun K "is_dues" "is_dues" sIsDues f fd) (T : TP P w K mg aL left) (cD : Cal P w K mg base "is_due" ["thing"] 4 (spIsDue K) g gd) :
    FnOk P w K mg base CX0 5 f fd ["thing"] (spIsDues K) := by
  refine F.ok scIsDues (fun vs H Q E h => ?_) (fun cdv A outer s H vs Q E hr h => ?_)
  · obtain ⟨p, du, rfl, _⟩ := h
    rfl
  obtain ⟨t, dues, rfl, hd, ⟨hn, hok⟩, q⟩ := h
  have hu := hu_of hr
  obtain ⟨ps, hF, hp⟩ := id hd
  refine ⟨_, (pss_cons (ps_if (pt_not (pt_val (pe_callB call_isi (by rfl) T.z_isinstance (by decide +kernel) (pa_cons (pv 0) (pa_cons (pe_bltn (v := .ty "tuple") (u := .type "tuple") (by rfl) T.z_tuple (by decide +kernel) rfl) pa_nil))))) (pss_one (ps_ret pe_bl)) pss_nil) (pss_cons (ps_set (i := 1) scIsDues.nd rfl (Or.inl rfl) pe_dnewK) (pss_cons (ps_for PassesOwn.never rfl (pi_tup (pv 0)) (pg_name (i := 2) scIsDues.nd rfl (Or.inl rfl)) (pss_cons (ps_if (PW.pt (pw_or (pt_not (pt_val (pe_call cD.ok (hr.mono (by decide)) rfl cD.mg cD.kp cD.bd .nil pass0 (pa_cons (pv 2) pa_nil)))) (pw_or1 (pt_cmp (pc_din hu (pe_ix ix_tup (pv 2) pe_int (fun _ _ => rfl)) (pv 1)))))) (pss_one (ps_ret pe_bl)) pss_nil) (pss_one (ps_dput hu (pv 1) (pe_ix ix_tup (pv 2) pe_int (fun _ _ => rfl)) pe_bl rfl)))) (pss_one (ps_ret pe_bl))))), ?_⟩
  refine ⟨_, rfl, _, _, _, _, true, rfl, .ty _, sqt_ty hF.seq, kit_ty (by decide +kernel), true, rfl, ?_⟩
  refine iteF ?_
  intro d hd0
  refine ⟨_, rfl, t, rfl, ⟨_, Same.seqT (Same.new (Same.refl H) hd0 _) hF.seq⟩, for_tup (xs := ps.map V.ref) (fun i σ H' => Same H H' ∧ ∃ (kvs : List (Key × V)) (o : Option V), σ = [some (.ref t), some (.ref d), o] ∧ H' d = some (.dK kvs) ∧ kvs.map (·.1) = (dues.take i).map (fun du => Sum.inr du.1)) ⟨Same.new (Same.refl H) hd0 _, [], none, rfl, upd_same, rfl⟩ ?_ ?_ ?_⟩
  · rintro i σ H' _ ⟨s1, _⟩
    exact Same.seqT s1 hF.seq
  · rintro i x σ H' hi ⟨s1, kvs, o, rfl, hk, he⟩
    obtain ⟨p, rfl, hpi⟩ := map_ref_get hi
    obtain ⟨du, hdu, hat⟩ := paired_get hp hpi
    have hmem := List.mem_of_getElem? hdu
    obtain ⟨hw, hv⟩ := hok du hmem
    obtain ⟨u, hpu, hu2⟩ := id hat
    refine ⟨_, rfl, p, du, rfl, DueAt.same s1 hat, hw, hv, fun H2 s2 => ?_⟩
    refine ⟨true, rfl, ?_⟩
    refine iteF ?_
    have hk2 := s2 _ _ hk
    have hpu2 := Same.seqT s2 (Same.seqT s1 hpu)
    have hnone : valV kvs (Sum.inr du.1 : Key) = none := by
      cases hv0 : valV kvs (Sum.inr du.1 : Key) with
      | none => rfl
      | some v =>
        have hin := valV_in hv0
        rw [he] at hin
        obtain ⟨du2, hd2, ed2⟩ := List.mem_map.mp hin
        exact absurd (Sum.inr.inj ed2) (fresh_at hn hdu du2 hd2)
    refine ⟨_, rfl, p, _, _, _, rfl, rfl, hpu2, rfl, _, rfl, d, _, rfl, DGet.k (k := Sum.inr du.1) hk2, ?_⟩
    rw [hnone]
    refine ⟨false, rfl, iteF ?_⟩
    refine ⟨_, rfl, _, rfl, p, _, _, _, rfl, rfl, hpu2, rfl, d, _, rfl, DPut.k (k := Sum.inr du.1) hk2 ?_, ?_⟩
    · have e : kvs.length = (dues.take i).length := by
        have := congrArg List.length he
        simpa using this
      rw [List.length_take] at e
      have : dues.length ≤ 8 := words_few hn fun du hdu => (hok du hdu).1
      exact small1000 (by omega)
    · refine ⟨fun b o hb => ?_, _, _, rfl, upd_same, ?_⟩
      · have n : b ≠ d := ne_of_none hb hd0
        rw [upd_ne n]
        exact s2 _ _ (s1 _ _ hb)
      · rw [putK_new _ hnone, List.map_append, he, List.take_add_one, hdu, Option.toList_some, List.map_append]
        rfl
  · rintro σ H' ⟨s1, _⟩
    exact q _ s1

end
end Bd
end

section
namespace Bd
open PySem L2
abbrev sInit : Stmt := (inClass (top 33) 0)
theorem scInit : FnScope ["self", "rows", "handing", "at", "row", "name", "above", "dues"] ["self", "rows", "handing"] (defScope sInit) := ⟨rfl, rfl, rfl, by decide +kernel, rfl, by decide +kernel, by decide +kernel⟩
abbrev sNames : Stmt := (inClass (top 33) 2)
theorem scNames : FnScope ["self"] ["self"] (defScope sNames) := ⟨rfl, rfl, rfl, by decide +kernel, rfl, by decide +kernel, by decide +kernel⟩

/-- tuples stay -/
def TK (H H' : Hp) : Prop := (∀ b xs, H b = some (.tup xs) → H' b = some (.tup xs)) ∧ ∀ b o u, H b = some (.frz o u) → H' b = some (.frz o u)
theorem TK.refl (H : Hp) : TK H H := ⟨fun _ _ h => h, fun _ _ _ h => h⟩
theorem TK.trans {H H1 H2 : Hp} (a : TK H H1) (b : TK H1 H2) : TK H H2 := ⟨fun c xs h => b.1 c xs (a.1 c xs h), fun c o u h => b.2 c o u (a.2 c o u h)⟩
theorem TK.of {H H1 : Hp} (a : Same H H1) : TK H H1 := ⟨fun c xs h => a _ _ h, fun c o u h => a _ _ h⟩
theorem TK.kept {H H1 : Hp} {p : Addr} {xs : List V} (h : H p = some (.lst xs)) (a : Kept p H H1) : TK H H1 :=
  ⟨fun c ys e => a c _ (ne_of e h (by intro z; cases z)) e, fun c o u e => a c _ (ne_of e h (by intro z; cases z)) e⟩
theorem TK.lst {H : Hp} {p : Addr} {xs : List V} (h : H p = some (.lst xs)) (o : HO) : TK H (upd H p o) :=
  ⟨fun c ys e => by rw [upd_ne (ne_of e h (by intro z; cases z))]; exact e, fun c v u e => by rw [upd_ne (ne_of e h (by intro z; cases z))]; exact e⟩
theorem TK.dk {H : Hp} {p : Addr} {xs : List (Key × V)} (h : H p = some (.dK xs)) (o : HO) : TK H (upd H p o) :=
  ⟨fun c ys e => by rw [upd_ne (ne_of e h (by intro z; cases z))]; exact e, fun c v u e => by rw [upd_ne (ne_of e h (by intro z; cases z))]; exact e⟩
theorem TK.ins {H : Hp} {p C dx : Addr} {xs : List (Str × V)} (h : H p = some (.ins C dx xs)) (o : HO) : TK H (upd H p o) :=
  ⟨fun c ys e => by rw [upd_ne (ne_of e h (by intro z; cases z))]; exact e, fun c v u e => by rw [upd_ne (ne_of e h (by intro z; cases z))]; exact e⟩
theorem TK.new {H : Hp} {p : Addr} (h : H p = none) (o : HO) : TK H (upd H p o) := TK.of (Same.new (Same.refl H) h o)
section
variable {K : PySem.W.Frag}
theorem TK.seqT {H H' : Hp} (e : TK H H') {a : Addr} {xs : List V} (h : SqT K H a xs) : SqT K H' a xs := by
  rcases h with (h | ⟨o, h⟩) | h
  · exact .inl (.inl (e.1 _ _ h))
  · exact .inl (.inr ⟨o, e.2 _ _ _ h⟩)
  · exact .inr h
theorem TK.frT {H H' : Hp} (e : TK H H') {a : Addr} {xs : List V} (h : FrT H a xs) : FrT H' a xs := by
  obtain ⟨o, h1, h2⟩ := h
  exact ⟨o, h1, e.2 _ _ _ h2⟩
theorem dp_ofints {H : Hp} : ∀ xs : List Int, DpAll K H (xs.map V.int) (xs.map .int)
  | [] => .nil
  | x :: xs => .cons (.int x) (dp_ofints xs)
theorem TK.val {H H' : Hp} (e : TK H H') {x : Str} {v : V} {d : PyData} (hv : ValOk x d) (h : Dp K H v d) : Dp K H' v d := by
  cases hv with
  | amt =>
    obtain ⟨a, rfl, ha⟩ := dp_two h
    exact .tup (e.seqT ha) (.cons (.int _) (.cons (.int _) .nil))
  | endl =>
    cases h
    exact .str _
  | none =>
    cases h
    exact .non
  | set =>
    obtain ⟨a, ys, rfl, ha, hys⟩ := dp_tup h
    cases dp_ints hys
    exact .tup (e.seqT ha) (dp_ofints _)
  | alone =>
    cases h
    exact .int _
theorem paired_monoM {α β : Type} {F G : α → β → Prop} : ∀ {xs : List α} {ys : List β}, (∀ a b, b ∈ ys → F a b → G a b) → Paired F xs ys → Paired G xs ys
  | _, _, _, .nil => .nil
  | _, _, h, .cons a b => .cons (h _ _ List.mem_cons_self a) (paired_monoM (fun x y hy z => h x y (List.mem_cons_of_mem _ hy) z) b)
theorem TK.dues {H H' : Hp} (e : TK H H') {t : Addr} {dues : List (Str × PyData)} (ok : DuesOk dues) (h : DuesAt K H t dues) : DuesAt K H' t dues := by
  obtain ⟨ps, h1, h2⟩ := h
  refine ⟨ps, e.frT h1, paired_monoM (fun p du hm z => ?_) h2⟩
  obtain ⟨u, h3, h4⟩ := z
  exact ⟨u, e.seqT h3, e.val (ok.2 du hm).2 h4⟩
theorem TK.row {H H' : Hp} (e : TK H H') {v : V} {r : RowM} (ok : DuesOk r.dues) (h : RowAt K H v r) : RowAt K H' v r := by
  obtain ⟨a, t, rfl, h1, h2⟩ := h
  exact ⟨a, t, rfl, e.seqT h1, e.dues ok h2⟩
end
def leftD : List (Str × PyData) := [("min", .tuple [.int 0, .int 1]), ("low", .tuple [.int 0, .int 1]), ("max", .str "endless"), ("quota", .str "endless"), ("burst", .tuple [.int 0, .int 1]), ("tops", .str "endless"), ("sets", .none), ("alone", .int 0)]
def dueOf (dues : List (Str × PyData)) (x : Str) : Option PyData := (dues.find? fun du => decide (du.1 = x)).map (·.2)
def fullD (dues : List (Str × PyData)) : List (Str × PyData) := leftD.map fun wd => (wd.1, (dueOf dues wd.1).getD wd.2)
def FullAt (K : PySem.W.Frag) (H : Hp) (d : Addr) (dues : List (Str × PyData)) : Prop := ∃ kvs : List (Key × V), H d = some (.dK kvs) ∧ Paired (fun kv (wd : Str × PyData) => kv.1 = (Sum.inr wd.1 : Key) ∧ Dp K H kv.2 wd.2) kvs (fullD dues)
theorem leftD_ok : ∀ wd ∈ leftD, wd.1 ∈ leftW ∧ ValOk wd.1 wd.2 := by
  intro wd h
  have z1 : ValOk "min" (.tuple [.int ((0 : Nat) : Int), .int ((1 : Nat) : Int)]) := .amt (by decide +kernel) (Nat.pow_pos (by decide)) (by decide) (Nat.one_lt_two_pow (by decide)) (by decide)
  have z2 : ValOk "low" (.tuple [.int ((0 : Nat) : Int), .int ((1 : Nat) : Int)]) := .amt (by decide +kernel) (Nat.pow_pos (by decide)) (by decide) (Nat.one_lt_two_pow (by decide)) (by decide)
  have z3 : ValOk "burst" (.tuple [.int ((0 : Nat) : Int), .int ((1 : Nat) : Int)]) := .amt (by decide +kernel) (Nat.pow_pos (by decide)) (by decide) (Nat.one_lt_two_pow (by decide)) (by decide)
  simp only [leftD, List.mem_cons, List.not_mem_nil, or_false] at h
  rcases h with rfl | rfl | rfl | rfl | rfl | rfl | rfl | rfl
  · exact ⟨by decide +kernel, z1⟩
  · exact ⟨by decide +kernel, z2⟩
  · exact ⟨by decide +kernel, .endl (by decide +kernel)⟩
  · exact ⟨by decide +kernel, .endl (by decide +kernel)⟩
  · exact ⟨by decide +kernel, z3⟩
  · exact ⟨by decide +kernel, .endl (by decide +kernel)⟩
  · exact ⟨by decide +kernel, .none⟩
  · exact ⟨by decide +kernel, .alone (.inl rfl)⟩
theorem dueOf_mem {dues : List (Str × PyData)} {x : Str} {d : PyData} (h : dueOf dues x = some d) : (x, d) ∈ dues := by
  unfold dueOf at h
  cases e : dues.find? fun du => decide (du.1 = x) with
  | none =>
    rw [e] at h
    cases h
  | some du =>
    rw [e] at h
    have h1 := List.mem_of_find?_eq_some e
    have h2 : du.1 = x := by
      have z := List.find?_some e
      simpa using z
    cases h
    rw [← h2]
    exact h1
theorem fullD_ok {dues : List (Str × PyData)} (ok : DuesOk dues) : ∀ wd ∈ fullD dues, ValOk wd.1 wd.2 := by
  intro wd h
  obtain ⟨ld, hl, rfl⟩ := List.mem_map.mp h
  show ValOk ld.1 ((dueOf dues ld.1).getD ld.2)
  cases e : dueOf dues ld.1 with
  | none => exact (leftD_ok ld hl).2
  | some d => exact (ok.2 _ (dueOf_mem e)).2
theorem TK.full {K : PySem.W.Frag} {H H' : Hp} (e : TK H H') {d : Addr} {dues : List (Str × PyData)} (ok : DuesOk dues) (hd : H' d = H d) (h : FullAt K H d dues) : FullAt K H' d dues := by
  obtain ⟨kvs, h1, h2⟩ := h
  exact ⟨kvs, hd.trans h1, paired_monoM (fun kv wd hm z => ⟨z.1, e.val (fullD_ok ok wd hm) z.2⟩) h2⟩
/-! ### what merging makes -/
theorem mergeK_app : ∀ (more acc : List (Key × V)), ((acc ++ more).map (·.1)).Nodup → mergeK acc more = acc ++ more
  | [], acc, _ => by simp [mergeK]
  | p :: r, acc, h => by
    have hn : valV acc p.1 = none := by
      cases e : valV acc p.1 with
      | none => rfl
      | some v =>
        have h1 := valV_in e
        rw [List.map_append, List.nodup_append] at h
        exact absurd rfl (h.2.2 p.1 h1 p.1 (by simp))
    have h2 : mergeK acc (p :: r) = mergeK (putK acc p.1 p.2) r := rfl
    rw [h2, putK_new _ hn, mergeK_app r (acc ++ [(p.1, p.2)]) (by simpa using h)]
    simp
theorem mergeK_over : ∀ (more kvs : List (Key × V)), (more.map (·.1)).Nodup → (∀ p ∈ more, p.1 ∈ kvs.map (·.1)) → mergeK kvs more = kvs.map fun kv => (kv.1, (valV more kv.1).getD kv.2)
  | [], kvs, _, _ => by simp [mergeK, valV]
  | p :: r, kvs, hn, hm => by
    have hn : (p.1 :: r.map (·.1)).Nodup := hn
    obtain ⟨h1, h2⟩ := List.nodup_cons.mp hn
    have hp : (kvs.any fun kv => decide (kv.1 = p.1)) = true := by
      obtain ⟨q, hq, e⟩ := List.mem_map.mp (hm p List.mem_cons_self)
      exact List.any_eq_true.mpr ⟨q, hq, decide_eq_true e⟩
    have hput : putK kvs p.1 p.2 = kvs.map (fun kv => if kv.1 = p.1 then (kv.1, p.2) else kv) := by
      unfold putK
      rw [if_pos hp]
    have hkeys : (putK kvs p.1 p.2).map (·.1) = kvs.map (·.1) := by
      rw [hput, List.map_map]
      refine List.map_congr_left fun kv _ => ?_
      show (if kv.1 = p.1 then (kv.1, p.2) else kv).1 = kv.1
      split <;> rfl
    have e : mergeK kvs (p :: r) = mergeK (putK kvs p.1 p.2) r := rfl
    rw [e, mergeK_over r (putK kvs p.1 p.2) h2 (fun q hq => by rw [hkeys]; exact hm q (List.mem_cons_of_mem _ hq)), hput, List.map_map]
    refine List.map_congr_left fun kv _ => ?_
    show ((if kv.1 = p.1 then (kv.1, p.2) else kv).1, (valV r (if kv.1 = p.1 then (kv.1, p.2) else kv).1).getD (if kv.1 = p.1 then (kv.1, p.2) else kv).2) = (kv.1, (valV (p :: r) kv.1).getD kv.2)
    by_cases c : kv.1 = p.1
    · rw [if_pos c]
      have hv : valV r kv.1 = none := by
        cases z : valV r kv.1 with
        | none => rfl
        | some v =>
          have z2 := valV_in z
          rw [c] at z2
          exact absurd z2 h1
      show (kv.1, (valV r kv.1).getD p.2) = (kv.1, (valV (p :: r) kv.1).getD kv.2)
      rw [hv, valV_pos c.symm]
      rfl
    · rw [if_neg c, valV_neg (fun z => c z.symm)]
def PV (K : PySem.W.Frag) (H : Hp) (kv : Key × V) (wd : Str × PyData) : Prop := kv.1 = (Sum.inr wd.1 : Key) ∧ Dp K H kv.2 wd.2
theorem val_due {K : PySem.W.Frag} {H : Hp} (x : Str) : ∀ {dk : List (Key × V)} {dues : List (Str × PyData)}, Paired (PV K H) dk dues →
    (valV dk (Sum.inr x : Key) = none ∧ dueOf dues x = none) ∨ ∃ v d, valV dk (Sum.inr x : Key) = some v ∧ dueOf dues x = some d ∧ Dp K H v d
  | _, _, .nil => .inl ⟨rfl, rfl⟩
  | _, _, .cons (a := kv) (b := du) h t => by
    by_cases e : du.1 = x
    · refine .inr ⟨kv.2, du.2, valV_pos (by rw [h.1, e]), ?_, h.2⟩
      unfold dueOf
      rw [List.find?_cons_of_pos (by simpa using e)]
      rfl
    · have e1 : ¬ kv.1 = (Sum.inr x : Key) := fun z => e (Sum.inr.inj (h.1.symm.trans z))
      have e2 : ∀ ds, dueOf (du :: ds) x = dueOf ds x := fun ds => by
        unfold dueOf
        rw [List.find?_cons_of_neg (by simpa using e)]
      rw [valV_neg e1, e2]
      exact val_due x t
theorem paired_map {α β γ δ : Type} {F : α → β → Prop} {G : γ → δ → Prop} {f : α → γ} {g : β → δ} (h : ∀ a b, F a b → G (f a) (g b)) : ∀ {xs : List α} {ys : List β}, Paired F xs ys → Paired G (xs.map f) (ys.map g)
  | _, _, .nil => .nil
  | _, _, .cons a b => .cons (h _ _ a) (paired_map h b)
theorem pv_keys {K : PySem.W.Frag} {H : Hp} : ∀ {dk : List (Key × V)} {dues : List (Str × PyData)}, Paired (PV K H) dk dues → dk.map (·.1) = dues.map fun du => (Sum.inr du.1 : Key)
  | _, _, .nil => rfl
  | _, _, .cons a b => by
    rw [List.map_cons, List.map_cons, a.1, pv_keys b]
theorem nodup_inr {xs : List Str} (h : xs.Nodup) : (xs.map fun x => (Sum.inr x : Key)).Nodup := by
  induction xs with
  | nil => exact List.nodup_nil
  | cons x r ih =>
    obtain ⟨h1, h2⟩ := List.nodup_cons.mp h
    rw [List.map_cons]
    refine List.nodup_cons.mpr ⟨fun m => ?_, ih h2⟩
    obtain ⟨y, hy, e⟩ := List.mem_map.mp m
    exact h1 (Sum.inr.inj e ▸ hy)
theorem leftD_words : leftD.map (·.1) = leftW := by decide +kernel
theorem leftW_nd : leftW.Nodup := by decide +kernel
theorem full_of {K : PySem.W.Frag} {H : Hp} {left dk : List (Key × V)} {dues : List (Str × PyData)} (hl : Paired (PV K H) left leftD) (hd : Paired (PV K H) dk dues) (ok : DuesOk dues) :
    Paired (PV K H) (mergeK (mergeK [] left) (mergeK [] dk)) (fullD dues) := by
  have kl : left.map (·.1) = leftW.map fun x => (Sum.inr x : Key) := by
    rw [pv_keys hl, ← leftD_words, List.map_map]
    rfl
  have kd : dk.map (·.1) = (dues.map (·.1)).map fun x => (Sum.inr x : Key) := by
    rw [pv_keys hd, List.map_map]
    rfl
  have nl : (left.map (·.1)).Nodup := by
    rw [kl]
    exact nodup_inr leftW_nd
  have nd : (dk.map (·.1)).Nodup := by
    rw [kd]
    exact nodup_inr ok.1
  rw [mergeK_app left [] (by simpa using nl), mergeK_app dk [] (by simpa using nd), List.nil_append, List.nil_append, mergeK_over dk left nd ?_]
  · unfold fullD
    refine paired_map (fun kv wd h => ?_) hl
    refine ⟨h.1, ?_⟩
    show Dp K H ((valV dk kv.1).getD kv.2) ((dueOf dues wd.1).getD wd.2)
    rw [h.1]
    rcases val_due wd.1 hd with ⟨e1, e2⟩ | ⟨v, d, e1, e2, e3⟩
    · rw [e1, e2]
      exact h.2
    · rw [e1, e2]
      exact e3
  · intro p hp
    have hm : p.1 ∈ dk.map (·.1) := List.mem_map.mpr ⟨p, hp, rfl⟩
    rw [kd] at hm
    obtain ⟨x, hx, e⟩ := List.mem_map.mp hm
    obtain ⟨du, hdu, rfl⟩ := List.mem_map.mp hx
    rw [kl, ← e]
    exact List.mem_map.mpr ⟨du.1, (ok.2 du hdu).1, rfl⟩
theorem dk_of_dues {K : PySem.W.Frag} {H : Hp} : ∀ {ps : List Addr} {dues : List (Str × PyData)}, Paired (DueAt K H) ps dues → ∃ dk : List (Key × V), Paired (fun p kv => SqT K H p [kV kv.1, kv.2]) ps dk ∧ Paired (PV K H) dk dues
  | _, _, .nil => ⟨[], .nil, .nil⟩
  | _, _, .cons (b := du) ⟨u, h1, h2⟩ t => by
    obtain ⟨dk, h3, h4⟩ := dk_of_dues t
    exact ⟨(Sum.inr du.1, u) :: dk, .cons h1 h3, .cons ⟨rfl, h2⟩ h4⟩
/-- the class as the top has made it -/
structure TC (K : PySem.W.Frag) (mg : Str → Option Value) (C : Addr) : Prop where
  cl : Cls K C
  n_order : NoAttr K C "order"
  n_parents : NoAttr K C "parents"
  n_kids : NoAttr K C "kids"
  n_table : NoAttr K C "table"
  n_hands : NoAttr K C "hands"
  g_Tree : mg "Tree" = some (.ref C)
def tf4 (po pp pk pt : Addr) : List (Str × V) := [("order", .ref po), ("parents", .ref pp), ("kids", .ref pk), ("table", .ref pt)]
def tf5 (po pp pk pt : Addr) (b : Bool) : List (Str × V) := [("order", .ref po), ("parents", .ref pp), ("kids", .ref pk), ("table", .ref pt), ("hands", .bl b)]
def kidsOf (rows : List RowM) (k : Key) : List Str := (rows.filter fun r => decide ((Sum.inr r.above : Key) = k)).map (·.name)
theorem kids_le (rows : List RowM) (k : Key) : (kidsOf rows k).length ≤ rows.length := by
  unfold kidsOf
  rw [List.length_map]
  exact List.length_filter_le _ _
theorem kids_snoc (rows : List RowM) (r : RowM) (k : Key) : kidsOf (rows ++ [r]) k = kidsOf rows k ++ (if (Sum.inr r.above : Key) = k then [r.name] else []) := by
  unfold kidsOf
  rw [List.filter_append, List.map_append]
  by_cases c : (Sum.inr r.above : Key) = k
  · rw [if_pos c, List.filter_cons_of_pos (by simpa using c)]
    rfl
  · rw [if_neg c, List.filter_cons_of_neg (by simpa using c)]
    rfl
theorem kids_none {rows : List RowM} {x : Str} (h : ∀ q ∈ rows, q.above ≠ x) : kidsOf rows (Sum.inr x) = [] := by
  unfold kidsOf
  rw [List.filter_eq_nil_iff.mpr fun q hq => by
    have := h q hq
    simpa using this]
  rfl
def leafB (rows : List RowM) (r : RowM) : Bool := !(rows.any fun q => decide (q.above = r.name))
def leavesOf (rows : List RowM) : List Str := (rows.filter (leafB rows)).map (·.name)
/-- the children of each group -/
def KidsAt (H : Hp) (pk : Addr) (rows : List RowM) : Prop := ∃ ks : List (Key × V), H pk = some (.dK ks) ∧ ks.map (·.1) = (Sum.inr "" : Key) :: rows.map (fun r => (Sum.inr r.name : Key)) ∧ ∀ kv ∈ ks, ∃ l, kv.2 = .ref l ∧ H l = some (.lst ((kidsOf rows kv.1).map .str))
/-- a tree that is being made, behind what stood in H0 -/
structure PartAt (K : PySem.W.Frag) (H0 H : Hp) (C p dx po pp pk pt : Addr) (rows : List RowM) (tk : List (Key × V)) : Prop where
  same : Same H0 H
  n0 : H0 p = none ∧ H0 po = none ∧ H0 pp = none ∧ H0 pk = none ∧ H0 pt = none
  ob : H p = some (.ins C dx (tf4 po pp pk pt))
  or_ : H po = some (.lst (rows.map fun r => .str r.name))
  pa : H pp = some (.dK (rows.map fun r => ((Sum.inr r.name : Key), V.str r.above)))
  kd : ∃ ks, H pk = some (.dK ks) ∧ ks.map (·.1) = (Sum.inr "" : Key) :: rows.map (fun r => (Sum.inr r.name : Key)) ∧ (∀ kv ∈ ks, ∃ l, kv.2 = .ref l ∧ H l = some (.lst ((kidsOf rows kv.1).map .str)) ∧ l ≠ po ∧ H0 l = none) ∧ ∀ kv ∈ ks, ∀ kv2 ∈ ks, (kv.1 = kv2.1 ↔ kv.2 = kv2.2)
  tb : H pt = some (.dK tk)
  td : Paired (fun (kv : Key × V) (r : RowM) => kv.1 = (Sum.inr r.name : Key) ∧ ∃ d, kv.2 = .ref d ∧ H0 d = none ∧ d ≠ pp ∧ d ≠ pk ∧ d ≠ pt ∧ FullAt K H d r.dues) tk rows
  ne : pp ≠ pk ∧ pp ≠ pt ∧ pk ≠ pt
theorem FullAt.same {K : PySem.W.Frag} {H H' : Hp} (e : Same H H') {d : Addr} {dues : List (Str × PyData)} (h : FullAt K H d dues) : FullAt K H' d dues := by
  obtain ⟨kvs, h1, h2⟩ := h
  exact ⟨kvs, e _ _ h1, paired_mono (fun kv wd z => ⟨z.1, dp_same e _ _ z.2⟩) h2⟩
theorem PartAt.grow {K : PySem.W.Frag} {H0 H H' : Hp} {C p dx po pp pk pt : Addr} {rows : List RowM} {tk : List (Key × V)} (h : PartAt K H0 H C p dx po pp pk pt rows tk) (e : Same H H') : PartAt K H0 H' C p dx po pp pk pt rows tk where
  same := h.same.trans e
  n0 := h.n0
  ob := e _ _ h.ob
  or_ := e _ _ h.or_
  pa := e _ _ h.pa
  kd := by
    obtain ⟨ks, h1, h2, h3, h4⟩ := h.kd
    exact ⟨ks, e _ _ h1, h2, fun kv hk => let ⟨l, a, b, c, d⟩ := h3 kv hk; ⟨l, a, e _ _ b, c, d⟩, h4⟩
  tb := e _ _ h.tb
  td := paired_mono (fun kv r z => let ⟨a, d, b, c, d1, d2, d3, f⟩ := z; ⟨a, d, b, c, d1, d2, d3, FullAt.same e f⟩) h.td
  ne := h.ne
/-- a row that may stand behind others -/
def StandOk (rows : List RowM) (r : RowM) : Prop := (∀ q ∈ rows, q.name ≠ r.name) ∧ (r.above = "" ∨ ∃ q ∈ rows, q.name = r.above ∧ dueOf (fullD q.dues) "tops" = some (.str "endless"))
def spMayStand (K : PySem.W.Frag) (C : Addr) : Sp := fun vs H Q _ => ∃ (H0 : Hp) (p dx po pp pk pt : Addr) (rows : List RowM) (tk : List (Key × V)) (v : V) (r : RowM), vs = [.ref p, v] ∧ PartAt K H0 H C p dx po pp pk pt rows tk ∧ RowAt K H v r ∧
  StandOk rows r ∧ (rows.map (·.name)).Nodup ∧ (∀ q ∈ rows, q.name ≠ "") ∧ ∀ H', Same H H' → Q (.bl true) H'
end Bd
end

section
namespace Bd
open PySem L2
section
variable {P : Program} {w : World} {K : PySem.W.Frag} {mg : Str → Option Value} {base : Heap} {aL C : Addr} {left : List (Key × V)}
theorem ok_isGroupRow {f g e : Addr} {fd gd ed : FuncData} (F : Fun K "is_group_row" "is_group_row" sIsGroupRow f fd) (T : TP P w K mg aL left) (cN : Cal P w K mg base "is_name" ["thing"] 1 spIsName g gd) (cD : Cal P w K mg base "is_dues" ["thing"] 5 (spIsDues K) e ed) :
    FnOk P w K mg base CX0 6 f fd ["thing"] (spIsGroupRow K) := by
  refine F.ok scIsGroupRow (fun vs H Q E h => ?_) (fun cdv A outer s H vs Q E hr h => ?_)
  · obtain ⟨p, du, rfl, _⟩ := h
    rfl
  obtain ⟨v, r, rfl, hrow, hn, hd, q⟩ := h
  obtain ⟨a, t, rfl, ha, ht⟩ := id hrow
  refine ⟨_, (pss_cons (ps_if (PW.pt (pw_or (pt_not (pt_val (pe_callB call_isi (by rfl) T.z_isinstance (by decide +kernel) (pa_cons (pv 0) (pa_cons (pe_bltn (v := .ty "tuple") (u := .type "tuple") (by rfl) T.z_tuple (by decide +kernel) rfl) pa_nil))))) (pw_or1 (pt_cmpR op_ne (pe_callB call_len_seq (by rfl) T.z_len PySem.boot_len (pa_cons (pv 0) pa_nil)) pe_int (nomark _))))) (pss_one (ps_ret pe_bl)) pss_nil) (pss_cons (ps_asg (pv 0) (pg_tup (by rfl) (pgs_cons (pg_name (i := 1) scIsGroupRow.nd rfl (Or.inl rfl)) (pgs_cons (pg_name (i := 2) scIsGroupRow.nd rfl (Or.inl rfl)) (pgs_cons (pg_name (i := 3) scIsGroupRow.nd rfl (Or.inl rfl)) pgs_nil))))) (pss_one (ps_ret (pe_and (pe_call cN.ok (hr.mono (by decide)) rfl cN.mg cN.kp cN.bd .nil pass0 (pa_cons (pv 1) pa_nil)) (pe_and (pe_callB call_isi (by rfl) T.z_isinstance (by decide +kernel) (pa_cons (pv 2) (pa_cons (pe_bltn (v := .ty "str") (u := .type "str") (by rfl) T.z_str (by decide +kernel) rfl) pa_nil))) (pe_one (pe_call cD.ok (hr.mono (by decide)) rfl cD.mg cD.kp cD.bd .nil pass0 (pa_cons (pv 3) pa_nil))))))))), ?_⟩
  refine ⟨_, rfl, _, _, _, _, true, rfl, .ty _, sqt_ty ha, kit_ty (by decide +kernel), true, rfl, ?_⟩
  refine iteF ?_
  refine ⟨_, rfl, a, _, rfl, .inr ha, rfl, _, rfl, ?_⟩
  refine iteNS rfl ?_
  refine ⟨_, rfl, a, _, rfl, ha, rfl, ?_⟩
  refine ⟨_, _, rfl, _, _, rfl, _, _, rfl, rfl, ?_⟩
  refine ⟨_, rfl, r.name, rfl, hn, fun H1 s1 => ?_⟩
  refine ⟨true, rfl, iteT ?_⟩
  refine ⟨_, rfl, _, _, _, _, true, rfl, .ty _, .base (.str _), kit_ty (by decide +kernel), true, rfl, ?_⟩
  refine iteT ?_
  exact ⟨_, rfl, t, r.dues, rfl, DuesAt.same s1 ht, hd, fun H2 s2 => q _ (s1.trans s2)⟩

theorem keys_none {kvs : List (Key × V)} {k : Key} (h : ¬ k ∈ kvs.map (·.1)) : valV kvs k = none := by
  cases e : valV kvs k with
  | none => rfl
  | some v => exact absurd (valV_in e) h
theorem td_keys {F : Key × V → RowM → Prop} (hF : ∀ kv r, F kv r → kv.1 = (Sum.inr r.name : Key)) : ∀ {tk : List (Key × V)} {rows : List RowM}, Paired F tk rows → tk.map (·.1) = rows.map fun r => (Sum.inr r.name : Key)
  | _, _, .nil => rfl
  | _, _, .cons a b => by
    rw [List.map_cons, List.map_cons, hF _ _ a, td_keys hF b]
theorem paired_of {α β : Type} {F : α → β → Prop} : ∀ {xs : List α} {ys : List β}, Paired F xs ys → ∀ y ∈ ys, ∃ x ∈ xs, F x y
  | _, _, .nil, y, h => by cases h
  | _, _, .cons a b, y, h => by
    rcases List.mem_cons.mp h with rfl | h
    · exact ⟨_, List.mem_cons_self, a⟩
    · obtain ⟨x, h1, h2⟩ := paired_of b y h
      exact ⟨x, List.mem_cons_of_mem _ h1, h2⟩
theorem val_nd : ∀ {kvs : List (Key × V)}, (kvs.map (·.1)).Nodup → ∀ p ∈ kvs, valV kvs p.1 = some p.2
  | [], _, p, h => by cases h
  | a :: r, hn, p, h => by
    have hn : (a.1 :: r.map (·.1)).Nodup := hn
    obtain ⟨h1, h2⟩ := List.nodup_cons.mp hn
    rcases List.mem_cons.mp h with rfl | h
    · exact valV_pos rfl
    · have e : ¬ a.1 = p.1 := fun z => h1 (by rw [z]; exact List.mem_map.mpr ⟨p, h, rfl⟩)
      rw [valV_neg e]
      exact val_nd h2 p h
theorem tf4_order {po pp pk pt : Addr} : (tf4 po pp pk pt).lookup ("order" : Str) = some (.ref po) := by
  simp only [tf4, List.lookup]
  rfl
theorem tf4_parents {po pp pk pt : Addr} : (tf4 po pp pk pt).lookup ("parents" : Str) = some (.ref pp) := by
  simp only [tf4, List.lookup]
  rfl
theorem tf4_kids {po pp pk pt : Addr} : (tf4 po pp pk pt).lookup ("kids" : Str) = some (.ref pk) := by
  simp only [tf4, List.lookup]
  rfl
theorem tf4_table {po pp pk pt : Addr} : (tf4 po pp pk pt).lookup ("table" : Str) = some (.ref pt) := by
  simp only [tf4, List.lookup]
  rfl
theorem tf5_order {po pp pk pt : Addr} {b : Bool} : (tf5 po pp pk pt b).lookup ("order" : Str) = some (.ref po) := by
  simp only [tf5, List.lookup]
  rfl
theorem tf5_parents {po pp pk pt : Addr} {b : Bool} : (tf5 po pp pk pt b).lookup ("parents" : Str) = some (.ref pp) := by
  simp only [tf5, List.lookup]
  rfl
theorem tf5_kids {po pp pk pt : Addr} {b : Bool} : (tf5 po pp pk pt b).lookup ("kids" : Str) = some (.ref pk) := by
  simp only [tf5, List.lookup]
  rfl
theorem tf5_table {po pp pk pt : Addr} {b : Bool} : (tf5 po pp pk pt b).lookup ("table" : Str) = some (.ref pt) := by
  simp only [tf5, List.lookup]
  rfl
theorem tf5_hands {po pp pk pt : Addr} {b : Bool} : (tf5 po pp pk pt b).lookup ("hands" : Str) = some (.bl b) := by
  simp only [tf5, List.lookup]
  rfl
theorem ok_mayStand {f g : Addr} {fd gd : FuncData} (F : Fun K "may_stand" "may_stand" sMayStand f fd) (T : TP P w K mg aL left) (TCl : TC K mg C) (cE : Cal P w K mg base "is_endless" ["thing"] 1 (spIsEndless K) g gd) :
    FnOk P w K mg base CX0 2 f fd ["tree", "row"] (spMayStand K C) := by
  refine F.ok scMayStand (fun vs H Q E h => ?_) (fun cdv A outer s H vs Q E hr h => ?_)
  · obtain ⟨H0, p, dx, po, pp, pk, pt, rows, tk, v, r, rfl, _⟩ := h
    rfl
  obtain ⟨H0, p, dx, po, pp, pk, pt, rows, tk, v, r, rfl, hp, hrow, hst, hnd, hne, q⟩ := h
  have hu := hu_of hr
  obtain ⟨a, t, rfl, ha, ht⟩ := id hrow
  refine ⟨_, (pss_cons (ps_asg (pv 1) (pg_tup (by rfl) (pgs_cons (pg_name (i := 2) scMayStand.nd rfl (Or.inl rfl)) (pgs_cons (pg_name (i := 3) scMayStand.nd rfl (Or.inl rfl)) (pgs_cons (pg_name (i := 4) scMayStand.nd rfl (Or.inl rfl)) pgs_nil))))) (pss_cons (ps_if (PW.pt (pw_or (pt_cmp (pc_din hu (pv 2) (pe_fld (pv 0) rfl))) (pw_or1 (pt_cmp (pc_dnotin hu (pv 3) (pe_fld (pv 0) rfl)))))) (pss_one (ps_ret pe_bl)) pss_nil) (pss_one (ps_ret (pe_or (pe_cmpR op_eq (pv 3) pe_str (nomark _)) (pe_one (pe_call cE.ok (hr.mono (by decide)) rfl cE.mg cE.kp cE.bd .nil pass0 (pa_cons (pe_dget hu (pe_dget hu (pe_fld (pv 0) rfl) (pv 3) (fun _ _ => rfl)) pe_str (fun _ _ => rfl)) pa_nil)))))))), ?_⟩
  refine ⟨_, rfl, a, _, rfl, ha, rfl, ?_⟩
  refine ⟨_, _, rfl, _, _, rfl, _, _, rfl, rfl, ?_⟩
  have e1 : valV (rows.map fun q => ((Sum.inr q.name : Key), V.str q.above)) (Sum.inr r.name) = none := by
    refine keys_none fun m => ?_
    rw [List.map_map] at m
    obtain ⟨q, hq, e⟩ := List.mem_map.mp m
    exact hst.1 q hq (Sum.inr.inj e)
  obtain ⟨ks, k1, k2, k3⟩ := hp.kd
  have e2 : (valV ks (Sum.inr r.above : Key)).isSome = true := by
    refine val_some ?_
    rw [k2]
    rcases hst.2 with e | ⟨q, hq, e, _⟩
    · rw [e]
      exact List.mem_cons_self
    · exact List.mem_cons_of_mem _ (List.mem_map.mpr ⟨q, hq, by rw [e]⟩)
  refine ⟨_, rfl, _, rfl, p, C, dx, _, _, rfl, hp.ob, TCl.cl, TCl.n_parents, tf4_parents, pp, _, rfl, DGet.k (k := Sum.inr r.name) hp.pa, ?_⟩
  rw [e1]
  refine ⟨false, rfl, iteF ?_⟩
  refine ⟨_, rfl, _, rfl, p, C, dx, _, _, rfl, hp.ob, TCl.cl, TCl.n_kids, tf4_kids, pk, _, rfl, DGet.k (k := Sum.inr r.above) k1, ?_⟩
  rw [e2]
  refine ⟨false, rfl, iteF ?_⟩
  refine ⟨_, rfl, rfl, ?_⟩
  by_cases c : r.above = ""
  · refine ⟨true, congrArg V.bl (decide_eq_true (congrArg V.str c)), iteT ?_⟩
    exact q _ (Same.refl H)
  · refine ⟨false, congrArg V.bl (decide_eq_false fun z => c (V.str.inj z)), iteF ?_⟩
    obtain ⟨qr, hq, hqn, hq2⟩ := hst.2.resolve_left c
    obtain ⟨kv, hkv, hk1, d, hk2, hd0, _, _, _, fk, fk1, fk2⟩ := paired_of hp.td qr hq
    have nt : (tk.map (·.1)).Nodup := by
      rw [td_keys (fun _ _ z => z.1) hp.td]
      have := nodup_inr hnd
      rw [List.map_map] at this
      exact this
    have g1 : valV tk (Sum.inr r.above : Key) = some (.ref d) := by
      have := val_nd nt kv hkv
      rw [hk1, hqn, hk2] at this
      exact this
    have g2 : valV fk (Sum.inr "tops" : Key) = some (.str "endless") := by
      rcases val_due "tops" fk2 with ⟨_, z⟩ | ⟨v, d2, z1, z2, z3⟩
      · rw [z] at hq2
        cases hq2
      · rw [hq2] at z2
        cases z2
        rw [dp_str z3] at z1
        exact z1
    refine ⟨_, rfl, p, C, dx, _, _, rfl, hp.ob, TCl.cl, TCl.n_table, tf4_table, _, rfl, pt, _, rfl, ?_, d, _, rfl, ?_, _, rfl, .inl ⟨rfl, q _ (Same.refl H)⟩⟩
    · have := DGet.k (k := Sum.inr r.above) hp.tb
      rw [g1] at this
      exact this
    · have := DGet.k (k := Sum.inr ("tops" : Str)) fk1
      rw [g2] at this
      exact this

end
end Bd
end

section
namespace Bd
open PySem L2
/-- a tree: its table at tk -/
def TreeAt (K : PySem.W.Frag) (H : Hp) (C p : Addr) (rows : List RowM) (hands : Bool) (tk : List (Key × V)) : Prop := ∃ dx po pp pk pt, H p = some (.ins C dx (tf5 po pp pk pt hands)) ∧ H po = some (.lst (rows.map fun r => .str r.name)) ∧
  H pp = some (.dK (rows.map fun r => ((Sum.inr r.name : Key), V.str r.above))) ∧ H pt = some (.dK tk) ∧ Paired (fun (kv : Key × V) (r : RowM) => kv.1 = (Sum.inr r.name : Key) ∧ ∃ d, kv.2 = .ref d ∧ FullAt K H d r.dues) tk rows ∧ KidsAt H pk rows
/-- rows that make a tree -/
def RowsOk (rows : List RowM) : Prop := ∀ i r, rows[i]? = some r → NameOk r.name ∧ DuesOk r.dues ∧ StandOk (rows.take i) r
def spInit (K : PySem.W.Frag) (C : Addr) : Sp := fun vs H Q _ => ∃ (H0 : Hp) (p dx a : Addr) (xs : List V) (rows : List RowM) (b : Bool), vs = [.ref p, .ref a, .bl b] ∧ Same H0 H ∧ H0 p = none ∧ H p = some (.ins C dx []) ∧ H0 a = some (.lst xs) ∧ Paired (RowAt K H0) xs rows ∧ RowsOk rows ∧ rows.length ≤ 200 ∧
  ∀ H' tk, Same H0 H' → TreeAt K H' C p rows b tk → (∀ kv ∈ tk, ∃ d, kv.2 = .ref d ∧ H0 d = none) → Q .non H'
theorem dget_of {H : Hp} {a : Addr} {kvs : List (Key × V)} {k : Key} {v : V} (h : H a = some (.dK kvs)) (e : valV kvs k = some v) : DGet H a (kV k) (some v) := by
  have := DGet.k (k := k) h
  rw [e] at this
  exact this
theorem none_upd {H : Hp} {a x : Addr} {o : HO} (h : upd H a o x = none) : x ≠ a ∧ H x = none := by
  have n : x ≠ a := fun e => by
    rw [e, upd_same] at h
    cases h
  rw [upd_ne n] at h
  exact ⟨n, h⟩
theorem putF_two (a b : V) : putF "parents" b (putF "order" a []) = ([("order", a), ("parents", b)] : List (Str × V)) := by
  simp only [putF]
  rw [if_neg (by decide +kernel)]
  all_goals rfl
theorem putF_three (a b c : V) : putF "kids" c ([("order", a), ("parents", b)] : List (Str × V)) = ([("order", a), ("parents", b), ("kids", c)] : List (Str × V)) := by
  simp only [putF]
  rw [if_neg (by decide +kernel), if_neg (by decide +kernel)]
theorem putF_four (a b c d : V) : putF "table" d ([("order", a), ("parents", b), ("kids", c)] : List (Str × V)) = ([("order", a), ("parents", b), ("kids", c), ("table", d)] : List (Str × V)) := by
  simp only [putF]
  rw [if_neg (by decide +kernel), if_neg (by decide +kernel), if_neg (by decide +kernel)]
theorem putF_five (a b c d e : V) : putF "hands" e ([("order", a), ("parents", b), ("kids", c), ("table", d)] : List (Str × V)) = ([("order", a), ("parents", b), ("kids", c), ("table", d), ("hands", e)] : List (Str × V)) := by
  simp only [putF]
  rw [if_neg (by decide +kernel), if_neg (by decide +kernel), if_neg (by decide +kernel), if_neg (by decide +kernel)]
theorem paired_snoc {α β : Type} {F : α → β → Prop} {x : α} {y : β} (h : F x y) : ∀ {xs : List α} {ys : List β}, Paired F xs ys → Paired F (xs ++ [x]) (ys ++ [y])
  | _, _, .nil => .cons h .nil
  | _, _, .cons a b => .cons a (paired_snoc h b)
/-- one row more -/
theorem part_step {K : PySem.W.Frag} {H0 H Hz : Hp} {C p dx po pp pk pt l l' D : Addr} {rows : List RowM} {tk : List (Key × V)} {r : RowM} (h : PartAt K H0 H C p dx po pp pk pt rows tk) (ok : ∀ q ∈ rows, DuesOk q.dues) (tkk : TK H Hz)
    (hz : ∀ b o, H b = some o → b ≠ po → b ≠ pp → b ≠ pk → b ≠ pt → b ≠ l' → Hz b = some o) (hl0 : H0 l' = none) (hlo : l' ≠ po) (hl : H l' = some (.lst ((kidsOf rows (Sum.inr r.above)).map .str))) (hn0 : r.name ≠ "") (hst : ∀ q ∈ rows, q.name ≠ r.name) (hk0 : ∀ q ∈ rows, q.above ≠ r.name) (hab : r.above ≠ r.name) (hln : H l = none)
    (zo : Hz po = some (.lst (rows.map (fun r => .str r.name) ++ [.str r.name]))) (zp : Hz pp = some (.dK (rows.map (fun r => ((Sum.inr r.name : Key), V.str r.above)) ++ [(Sum.inr r.name, .str r.above)])))
    (zk : ∃ ks, Hz pk = some (.dK (ks ++ [(Sum.inr r.name, .ref l)])) ∧ H pk = some (.dK ks) ∧ ∃ kv ∈ ks, kv.1 = (Sum.inr r.above : Key) ∧ kv.2 = .ref l') (zl : Hz l = some (.lst [])) (hll : l ≠ po ∧ H0 l = none) (zl' : Hz l' = some (.lst ((kidsOf rows (Sum.inr r.above)).map .str ++ [.str r.name])))
    (zt : Hz pt = some (.dK (tk ++ [(Sum.inr r.name, .ref D)]))) (hD : H0 D = none ∧ D ≠ pp ∧ D ≠ pk ∧ D ≠ pt ∧ FullAt K Hz D r.dues) : PartAt K H0 Hz C p dx po pp pk pt (rows ++ [r]) (tk ++ [(Sum.inr r.name, .ref D)]) where
  same := fun b o hb => hz b o (h.same _ _ hb) (ne_of_none hb h.n0.2.1) (ne_of_none hb h.n0.2.2.1) (ne_of_none hb h.n0.2.2.2.1) (ne_of_none hb h.n0.2.2.2.2) (ne_of_none hb hl0)
  n0 := h.n0
  ob := hz _ _ h.ob (ne_of h.ob h.or_ (by intro z; cases z)) (ne_of h.ob h.pa (by intro z; cases z)) (by
    obtain ⟨ks, k1, _⟩ := h.kd
    exact ne_of h.ob k1 (by intro z; cases z)) (ne_of h.ob h.tb (by intro z; cases z)) (ne_of h.ob hl (by intro z; cases z))
  or_ := by rw [List.map_append]; exact zo
  pa := by rw [List.map_append]; exact zp
  kd := by
    obtain ⟨ks, k1, k2, k3, k4⟩ := h.kd
    obtain ⟨ks', z1, z2, kv0, m0, e0, e0'⟩ := zk
    rw [k1] at z2
    cases z2
    have nk : (Sum.inr r.name : Key) ∉ ks.map (·.1) := fun m => by
      rw [k2] at m
      rcases List.mem_cons.mp m with e | m
      · exact hn0 (Sum.inr.inj e)
      · obtain ⟨q, hq, e⟩ := List.mem_map.mp m
        exact hst q hq (Sum.inr.inj e)
    have nl : ∀ kv ∈ ks, kv.2 ≠ .ref l := fun kv m e => by
      obtain ⟨c, e1, e2, _⟩ := k3 kv m
      rw [e1] at e
      injection e with e
      rw [e, hln] at e2
      cases e2
    refine ⟨_, z1, by rw [List.map_append, k2, List.map_append]; rfl, fun kv hkv => ?_, fun kv hkv kv2 hkv2 => ?_⟩
    · rcases List.mem_append.mp hkv with m | m
      · obtain ⟨c, e1, e2, e3, e4⟩ := k3 kv m
        rw [kids_snoc, List.map_append]
        by_cases c1 : c = l'
        · have ek : kv.1 = kv0.1 := (k4 kv m kv0 m0).mpr (by rw [e1, c1, e0'])
          refine ⟨c, e1, ?_, e3, e4⟩
          rw [c1, zl', ek, e0, if_pos rfl]
          rfl
        · have ek : ¬ (Sum.inr r.above : Key) = kv.1 := fun z => by
            have := (k4 kv m kv0 m0).mp (by rw [← z, e0])
            rw [e1, e0'] at this
            injection this with this
            exact c1 this
          refine ⟨c, e1, ?_, e3, e4⟩
          rw [if_neg ek]
          simpa using hz _ _ e2 e3 (ne_of e2 h.pa (by intro z; cases z)) (ne_of e2 k1 (by intro z; cases z)) (ne_of e2 h.tb (by intro z; cases z)) c1
      · cases List.mem_singleton.mp m
        refine ⟨l, rfl, ?_, hll.1, hll.2⟩
        show Hz l = some (.lst ((kidsOf (rows ++ [r]) (Sum.inr r.name)).map .str))
        rw [kids_none (fun q hq => by
          rcases List.mem_append.mp hq with q1 | q1
          · exact hk0 q q1
          · rw [List.mem_singleton.mp q1]
            exact hab)]
        exact zl
    · rcases List.mem_append.mp hkv with m | m <;> rcases List.mem_append.mp hkv2 with m2 | m2
      · exact k4 kv m kv2 m2
      · rw [List.mem_singleton.mp m2]
        exact ⟨fun e => absurd (List.mem_map.mpr ⟨kv, m, e⟩) nk, fun e => absurd e (nl kv m)⟩
      · rw [List.mem_singleton.mp m]
        exact ⟨fun e => absurd (List.mem_map.mpr ⟨kv2, m2, e.symm⟩) nk, fun e => absurd e.symm (nl kv2 m2)⟩
      · rw [List.mem_singleton.mp m, List.mem_singleton.mp m2]
        exact ⟨fun _ => rfl, fun _ => rfl⟩
  tb := zt
  td := paired_snoc ⟨rfl, D, rfl, hD⟩ (paired_monoM (fun kv q hq z => by
    obtain ⟨e1, d, e2, e3, e4, e5, e6, e7⟩ := z
    refine ⟨e1, d, e2, e3, e4, e5, e6, tkk.full (ok q hq) ?_ e7⟩
    obtain ⟨fk, f1, f2⟩ := e7
    rw [f1]
    exact hz _ _ f1 (ne_of f1 h.or_ (by intro z; cases z)) e4 e5 e6 (ne_of f1 hl (by intro z; cases z))) h.td)
  ne := h.ne
theorem names_nd {rows : List RowM} (h : RowsOk rows) : ∀ i, ((rows.take i).map (·.name)).Nodup
  | 0 => List.nodup_nil
  | i + 1 => by
    have ih := names_nd h i
    rw [List.take_add_one]
    cases e : rows[i]? with
    | none => simpa using ih
    | some r =>
      rw [Option.toList_some, List.map_append]
      refine List.nodup_append.mpr ⟨ih, by simp, fun a ha b hb => ?_⟩
      obtain ⟨q, hq, rfl⟩ := List.mem_map.mp ha
      cases List.mem_singleton.mp hb
      exact (h i r e).2.2.1 q hq
section
variable {P : Program} {w : World} {K : PySem.W.Frag} {mg : Str → Option Value} {base : Heap} {aL C : Addr} {left : List (Key × V)}
/-- the rule for a def with defaults that lets nothing out -/
theorem fund_ok {x qual : Str} {params : Arguments} {body : List Stmt} {scope : Scope} {dvs : List V} {kws : List (Str × V)} {f : Addr} {fd : FuncData} {N ps : List Str} {k : Nat} {sp : Sp} (F : FunD K x qual params body scope dvs kws f fd) (S : FnScope N ps scope) (len : ∀ vs H Q E, sp vs H Q E → vs.length = ps.length)
    (hbody : ∀ (cdv : Value) (A : Around) (outer : List Env) (s : Shared) (H : Hp) (vs : List V) (Q : VK) (E : XK), Room k (A.deeper (PyProof.Rows.envOfC qual scope s.heap.objs.size f cdv)) → sp vs H Q E →
      ∃ t, PSs (cxOf CX0 P w K mg base N qual scope f cdv A outer s H E).nox body t ∧ t { nx := fun _ H' => Q .non H', rt := Q } (start N vs) H) : FnOk P w K mg base CX0 (k + 1) f fd ps sp :=
  F.ok S len fun cdv A outer s H vs Q E hr h => let ⟨t, h1, h2⟩ := hbody cdv A outer s H vs Q E hr h; ⟨t, h1.nox, h2⟩
theorem ok_init {f g e : Addr} {fd gd ed : FuncData} (F : FunD K "__init__" "Tree.__init__" (defArgs sInit) (defBody sInit) (defScope sInit) [.bl false] [] f fd) (T : TP P w K mg aL left) (TCl : TC K mg C) (hLV : ∀ H, Paired (PV K H) left leftD) (cG : Cal P w K mg base "is_group_row" ["thing"] 6 (spIsGroupRow K) g gd) (cM : Cal P w K mg base "may_stand" ["tree", "row"] 2 (spMayStand K C) e ed) :
    FnOk P w K mg base CX0 7 f fd ["self", "rows", "handing"] (spInit K C) := by
  refine fund_ok F scInit (fun vs H Q E h => ?_) (fun cdv A outer s H vs Q E hr h => ?_)
  · obtain ⟨H0, p, dx, a, xs, rows, b, rfl, _⟩ := h
    rfl
  obtain ⟨H0, p, dx, a, xs, rows, b, rfl, s0, p0, hp, ha, hrows, hok, hlen, q⟩ := h
  have hu := hu_of hr
  refine ⟨_, (pss_cons (ps_if (pt_not (pt_val (pe_callB call_isi (by rfl) T.z_isinstance (by decide +kernel) (pa_cons (pv 1) (pa_cons (pe_bltn (v := .ty "list") (u := .type "list") (by rfl) T.z_list (by decide +kernel) rfl) pa_nil))))) (pss_one ps_never) pss_nil) (pss_cons (ps_fld (pv 0) (pe_lst pa_nil) rfl) (pss_cons (ps_fld (pv 0) pe_dnewK rfl) (pss_cons (ps_fld (pv 0) (pe_disp (pps_cons pe_str (pe_lst pa_nil) pps_nil) (by rfl) (by rfl) (fun z => by cases z) (by decide)) rfl) (pss_cons (ps_fld (pv 0) pe_dnewK rfl) (pss_cons (ps_for PassesOwn.never rfl (pi_enum (by rfl) T.z_enumerate (pa_cons (pv 1) pa_nil)) (pg_tup (by rfl) (pgs_cons (pg_name (i := 3) scInit.nd rfl (Or.inl rfl)) (pgs_cons (pg_name (i := 4) scInit.nd rfl (Or.inl rfl)) pgs_nil))) (pss_cons (ps_if (PW.pt (pw_or (pt_not (pt_val (pe_call cG.ok (hr.mono (by decide)) rfl cG.mg cG.kp cG.bd .nil pass0 (pa_cons (pv 4) pa_nil)))) (pw_or1 (pt_not (pt_val (pe_call cM.ok (hr.mono (by decide)) rfl cM.mg cM.kp cM.bd .nil pass0 (pa_cons (pv 0) (pa_cons (pv 4) pa_nil)))))))) (pss_one ps_never) pss_nil) (pss_cons (ps_asg (pv 4) (pg_tup (by rfl) (pgs_cons (pg_name (i := 5) scInit.nd rfl (Or.inl rfl)) (pgs_cons (pg_name (i := 6) scInit.nd rfl (Or.inl rfl)) (pgs_cons (pg_name (i := 7) scInit.nd rfl (Or.inl rfl)) pgs_nil))))) (pss_cons (ps_expr (pe_bm PySem.F.plainAttrs_list PySem.F.slot_list_append PySem.F.type_list_append mt_append (pe_fld (pv 0) rfl) (pa_cons (pv 5) pa_nil))) (pss_cons (ps_dput hu (pe_fld (pv 0) rfl) (pv 5) (pv 6) rfl) (pss_cons (ps_dput hu (pe_fld (pv 0) rfl) (pv 5) (pe_lst pa_nil) rfl) (pss_cons (ps_expr (pe_bm PySem.F.plainAttrs_list PySem.F.slot_list_append PySem.F.type_list_append mt_append (pe_dget hu (pe_fld (pv 0) rfl) (pv 6) (fun _ _ => rfl)) (pa_cons (pv 5) pa_nil))) (pss_one (ps_dput hu (pe_fld (pv 0) rfl) (pv 5) (pe_both (pe_callTy call_dictK (by rfl) T.z_dict (by decide +kernel) (pa_cons (pe_glob (v := .ref aL) rfl T.g_LEFT_OUT rfl) pa_nil)) (pe_callTy (call_dictT rfl) (by rfl) T.z_dict (by decide +kernel) (pa_cons (pv 7) pa_nil))) rfl))))))))) (pss_cons (ps_if (pt_not (pt_val (pe_callB call_isi (by rfl) T.z_isinstance (by decide +kernel) (pa_cons (pv 2) (pa_cons (pe_bltn (v := .ty "bool") (u := .type "bool") (by rfl) T.z_bool (by decide +kernel) rfl) pa_nil))))) (pss_one ps_never) pss_nil) (pss_one (ps_fld (pv 0) (pv 2) rfl))))))))), ?_⟩
  refine ⟨_, rfl, _, _, _, _, true, rfl, .ty _, (.base (.lst (s0 _ _ ha))), kit_ty (by decide +kernel), true, rfl, ?_⟩
  refine iteF ?_
  -- the empty tables
  refine ⟨Nat.zero_le _, fun po hpo => ?_⟩
  have npo : p ≠ po := ne_of_none hp hpo
  refine ⟨_, rfl, p, C, dx, [], rfl, (by rw [upd_ne npo]; exact hp), TCl.cl, TCl.n_order, (by show 0 < 1000; decide), ?_⟩
  intro pp hpp
  obtain ⟨npp1, hpp1⟩ := none_upd hpp
  obtain ⟨npp2, hpp2⟩ := none_upd hpp1
  refine ⟨_, rfl, p, C, dx, _, rfl, (by rw [upd_ne npp1.symm]; exact upd_same), TCl.cl, TCl.n_parents, (by show 1 < 1000; decide), ?_⟩
  rw [putF_two]
  intro pk hpk
  obtain ⟨npk1, hpk1⟩ := none_upd hpk
  obtain ⟨npk2, hpk2⟩ := none_upd hpk1
  obtain ⟨npk3, hpk3⟩ := none_upd hpk2
  obtain ⟨npk4, hpk4⟩ := none_upd hpk3
  refine ⟨Nat.zero_le _, fun l0 hl0 => ?_⟩
  obtain ⟨nl1, hl1⟩ := none_upd hl0
  obtain ⟨nl2, hl2⟩ := none_upd hl1
  obtain ⟨nl3, hl3⟩ := none_upd hl2
  obtain ⟨nl4, hl4⟩ := none_upd hl3
  obtain ⟨nl5, hl5⟩ := none_upd hl4
  refine ⟨by rw [upd_ne nl1.symm]; exact upd_same, [(Sum.inr "", .ref l0)], rfl, by show 1 ≤ 15; decide, ?_⟩
  refine ⟨_, rfl, p, C, dx, _, rfl, (by rw [upd_ne npk1.symm, upd_ne nl2.symm, upd_ne npk1.symm]; exact upd_same), TCl.cl, TCl.n_kids, (by show 2 < 1000; decide), ?_⟩
  rw [putF_three]
  intro pt hpt
  obtain ⟨npt1, hpt1⟩ := none_upd hpt
  obtain ⟨npt2, hpt2⟩ := none_upd hpt1
  obtain ⟨npt3, hpt3⟩ := none_upd hpt2
  obtain ⟨npt4, hpt4⟩ := none_upd hpt3
  obtain ⟨npt5, hpt5⟩ := none_upd hpt4
  obtain ⟨npt6, hpt6⟩ := none_upd hpt5
  obtain ⟨npt7, hpt7⟩ := none_upd hpt6
  refine ⟨_, rfl, p, C, dx, _, rfl, (by rw [upd_ne npt1.symm]; exact upd_same), TCl.cl, TCl.n_table, (by show 3 < 1000; decide), ?_⟩
  rw [putF_four]
  have xl : xs.length = rows.length := Paired.length hrows
  refine ⟨_, rfl, a, xs, rfl, ?_, for_it walk_enum (fun i σ H' => ∃ (tk : List (Key × V)) (o3 o4 o5 o6 o7 : Option V), σ = [some (.ref p), some (.ref a), some (.bl b), o3, o4, o5, o6, o7] ∧ PartAt K H0 H' C p dx po pp pk pt (rows.take i) tk)
    ⟨[], none, none, none, none, none, rfl, ?_⟩ (fun i σ H' _ ⟨_, _, _, _, _, _, _, h⟩ => SqL.of (h.same _ _ ha)) ?_ ?_⟩
  · have := s0 _ _ ha
    have z1 := ne_of_none this hpo
    have z2 := ne_of this hp (by intro z; cases z)
    have z3 := ne_of_none this hpp2
    have z4 := ne_of_none this hpk4
    have z5 := ne_of_none this hl5
    have z6 := ne_of_none this (none_upd hpt7).2
    refine SqL.of ?_
    simp only [upd, if_neg z1, if_neg z2, if_neg z3, if_neg z4, if_neg z5, if_neg z6]
    exact this
  · have npt8 := (none_upd hpt7).1
    have hpt8 := (none_upd hpt7).2
    refine ⟨fun b2 o2 hb => ?_, ⟨p0, s0.free hpo, s0.free hpp2, s0.free hpk4, s0.free hpt8⟩, upd_same, ?_, ?_, ⟨[(Sum.inr "", .ref l0)], ?_, rfl, fun kv hkv => ?_, fun kv hkv kv2 hkv2 => ?_⟩, ?_, .nil, npk2.symm, npt6.symm, npt2.symm⟩
    · have hb' := s0 _ _ hb
      have a1 := ne_of_none hb p0
      have a2 := ne_of_none hb' hpt8
      have a3 := ne_of_none hb' hpk4
      have a4 := ne_of_none hb' hl5
      have a5 := ne_of_none hb' hpp2
      have a6 := ne_of_none hb' hpo
      rw [upd_ne a1, upd_ne a2, upd_ne a1, upd_ne a3, upd_ne a4, upd_ne a3, upd_ne a1, upd_ne a5, upd_ne a1, upd_ne a6]
      exact hb'
    · rw [upd_ne npo.symm, upd_ne npt8.symm, upd_ne npo.symm, upd_ne npk4.symm, upd_ne nl5.symm, upd_ne npk4.symm, upd_ne npo.symm, upd_ne npp2.symm, upd_ne npo.symm]
      exact upd_same
    · rw [upd_ne npp1, upd_ne npt6.symm, upd_ne npp1, upd_ne npk2.symm, upd_ne nl3.symm, upd_ne npk2.symm, upd_ne npp1]
      exact upd_same
    · rw [upd_ne npk1, upd_ne npt2.symm, upd_ne npk1]
      exact upd_same
    · cases List.mem_singleton.mp hkv
      refine ⟨l0, rfl, ?_, nl5, s0.free hl5⟩
      rw [upd_ne nl2, upd_ne npt3.symm, upd_ne nl2, upd_ne nl1]
      exact upd_same
    · cases List.mem_singleton.mp hkv
      cases List.mem_singleton.mp hkv2
      exact ⟨fun _ => rfl, fun _ => rfl⟩
    · rw [upd_ne npt1]
      exact upd_same
  · rintro i v σ H1 H2 hi ⟨tk, o3, o4, o5, o6, o7, rfl, hP⟩ ⟨TT, x, y, rfl, hTT, rfl, hx, hy⟩
    have P1 := hP.grow (Same.new (Same.refl H1) hTT (.tup [x, y]))
    obtain ⟨r, hr1, hrow⟩ := paired_get hrows hy
    obtain ⟨hn, hd, hst⟩ := hok i r hr1
    refine ⟨TT, _, rfl, SqT.of upd_same, rfl, _, _, rfl, _, _, rfl, rfl, ?_⟩
    refine ⟨_, rfl, y, r, rfl, RowAt.same P1.same hrow, hn, hd, fun H3 s3 => ?_⟩
    refine ⟨true, rfl, ?_⟩
    refine iteF ?_
    have P2 := P1.grow s3
    refine ⟨_, rfl, _, rfl, H0, p, dx, po, pp, pk, pt, rows.take i, tk, y, r, rfl, P2, RowAt.same P2.same hrow, hst, ?_, ?_, fun H4 s4 => ?_⟩
    · exact names_nd hok i
    · intro q2 hq2 e
      obtain ⟨m, hm⟩ := List.mem_iff_getElem?.mp (List.mem_of_mem_take hq2)
      have := (hok m q2 hm).1.1
      rw [e] at this
      exact absurd this (by decide +kernel)
    refine ⟨true, rfl, ?_⟩
    refine iteF ?_
    have P3 := P2.grow s4
    obtain ⟨ra, t, rfl, hra, hdues⟩ := RowAt.same P3.same hrow
    refine ⟨_, rfl, ra, _, rfl, hra, rfl, _, _, rfl, _, _, rfl, _, _, rfl, rfl, ?_⟩
    -- self.order.append(name)
    refine ⟨_, rfl, p, C, dx, _, _, rfl, P3.ob, TCl.cl, TCl.n_order, tf4_order, .inl ⟨rfl, _, SqL.of P3.or_⟩, _, rfl, po, _, _, rfl, rfl, P3.or_, ?_, ?_⟩
    · rw [List.length_map, List.length_take]
      exact small1000 (by omega)
    obtain ⟨ks, k1, k2, k3, k4⟩ := P3.kd
    have n_p_o := ne_of P3.ob P3.or_ (by intro z; cases z)
    have n_pp_o := ne_of P3.pa P3.or_ (by intro z; cases z)
    have n_pk_o := ne_of k1 P3.or_ (by intro z; cases z)
    have n_pt_o := ne_of P3.tb P3.or_ (by intro z; cases z)
    have n_p_pp := ne_of P3.ob P3.pa (by intro z; cases z)
    have n_p_pk := ne_of P3.ob k1 (by intro z; cases z)
    have n_p_pt := ne_of P3.ob P3.tb (by intro z; cases z)
    have n_pp_pk := P3.ne.1
    have n_pp_pt := P3.ne.2.1
    have n_pk_pt := P3.ne.2.2
    have lt : (rows.take i).length ≤ 200 := by
      rw [List.length_take]
      omega
    have tkl : tk.length = (rows.take i).length := Paired.length P3.td
    have ksl : ks.length = (rows.take i).length + 1 := by
      have := congrArg List.length k2
      simpa using this
    -- self.parents[name] = above
    refine ⟨_, rfl, _, rfl, p, C, dx, _, _, rfl, (upd_ne n_p_o).trans P3.ob, TCl.cl, TCl.n_parents, tf4_parents, _, rfl, pp, _, rfl, DPut.k (k := Sum.inr r.name) ((upd_ne n_pp_o).trans P3.pa) ?_, ?_⟩
    · rw [List.length_map]
      exact small1000 (by omega)
    -- self.kids[name] = []
    refine ⟨Nat.zero_le _, fun l hl => ?_⟩
    obtain ⟨nl_pp, hlA⟩ := none_upd hl
    obtain ⟨nl_o, hlB⟩ := none_upd hlA
    have nl_p : l ≠ p := (ne_of_none P3.ob hlB).symm
    have nl_pk : l ≠ pk := (ne_of_none k1 hlB).symm
    have nl_pt : l ≠ pt := (ne_of_none P3.tb hlB).symm
    refine ⟨_, rfl, p, C, dx, _, _, rfl, (upd_ne nl_p.symm).trans ((upd_ne n_p_pp).trans ((upd_ne n_p_o).trans P3.ob)), TCl.cl, TCl.n_kids, tf4_kids, _, rfl, pk, _, rfl,
      DPut.k (k := Sum.inr r.name) ((upd_ne nl_pk.symm).trans ((upd_ne n_pp_pk.symm).trans ((upd_ne n_pk_o).trans k1))) (small1000 (by omega)), ?_⟩
    -- self.kids[above].append(name)
    have hab : r.above ≠ r.name := by
      rcases hst.2 with e | ⟨q2, hq2, e, _⟩
      · intro z
        have := hn.1
        rw [← z, e] at this
        exact absurd this (by decide +kernel)
      · intro z
        exact hst.1 q2 hq2 (e.trans z)
    obtain ⟨l2, lx, hkv, hl2, hl2o, hl20, hlx, hlxe, hkvm⟩ : ∃ l2 lx, valV ks (Sum.inr r.above : Key) = some (.ref l2) ∧ H4 l2 = some (.lst lx) ∧ l2 ≠ po ∧ H0 l2 = none ∧ lx.length ≤ (rows.take i).length ∧ lx = (kidsOf (rows.take i) (Sum.inr r.above)).map .str ∧ ∃ kv ∈ ks, kv.1 = (Sum.inr r.above : Key) ∧ kv.2 = .ref l2 := by
      have hin : (Sum.inr r.above : Key) ∈ ks.map (·.1) := by
        rw [k2]
        rcases hst.2 with e | ⟨q, hq, e, _⟩
        · rw [e]
          exact List.mem_cons_self
        · exact List.mem_cons_of_mem _ (List.mem_map.mpr ⟨q, hq, by rw [e]⟩)
      cases hv : valV ks (Sum.inr r.above : Key) with
      | none => exact absurd hin (valV_not hv)
      | some v =>
        unfold valV at hv
        obtain ⟨kv, hf, he⟩ := Option.map_eq_some_iff.mp hv
        obtain ⟨c, e1, e2, e3, e4⟩ := k3 kv (List.mem_of_find?_eq_some hf)
        have ek : kv.1 = (Sum.inr r.above : Key) := by
          have := List.find?_some hf
          simpa using this
        rw [ek] at e2
        refine ⟨c, _, by rw [← he, e1], e2, e3, e4, ?_, rfl, kv, List.mem_of_find?_eq_some hf, ek, e1⟩
        rw [List.length_map]
        exact kids_le _ _
    have hkv2 : valV (putK ks (Sum.inr r.name : Key) (.ref l)) (Sum.inr r.above : Key) = some (.ref l2) := by
      rw [valV_put, if_neg (fun z => hab (Sum.inr.inj z))]
      exact hkv
    have n_l2_l : l2 ≠ l := ne_of_none hl2 hlB
    have n_l2_pp := ne_of hl2 P3.pa (by intro z; cases z)
    have n_l2_pk := ne_of hl2 k1 (by intro z; cases z)
    have n_l2_p := ne_of hl2 P3.ob (by intro z; cases z)
    have n_l2_pt := ne_of hl2 P3.tb (by intro z; cases z)
    have c_l2 : ∀ o1 o2 o3 o4, upd (upd (upd (upd H4 po o1) pp o2) l o3) pk o4 l2 = some (.lst lx) := fun o1 o2 o3 o4 => by
      rw [upd_ne n_l2_pk, upd_ne n_l2_l, upd_ne n_l2_pp, upd_ne hl2o]
      exact hl2
    refine ⟨_, rfl, p, C, dx, _, _, rfl, (upd_ne n_p_pk).trans ((upd_ne nl_p.symm).trans ((upd_ne n_p_pp).trans ((upd_ne n_p_o).trans P3.ob))), TCl.cl, TCl.n_kids, tf4_kids, _, rfl, pk, _, rfl,
      dget_of upd_same hkv2, .inl ⟨rfl, _, SqL.of (c_l2 _ _ _ _)⟩, _, rfl, l2, _, _, rfl, rfl, c_l2 _ _ _ _, small1000 (by omega), ?_⟩
    -- self.table[name] = both
    refine fun D hD => ⟨aL, left, rfl, T.tab, fun d1 h1 => ?_⟩
    obtain ⟨nD_l2, hD1⟩ := none_upd hD
    obtain ⟨nD_pk, hD2⟩ := none_upd hD1
    obtain ⟨nD_l, hD3⟩ := none_upd hD2
    obtain ⟨nD_pp, hD4⟩ := none_upd hD3
    obtain ⟨nD_o, hD5⟩ := none_upd hD4
    have nD_p : D ≠ p := (ne_of_none P3.ob hD5).symm
    have nD_pt : D ≠ pt := (ne_of_none P3.tb hD5).symm
    obtain ⟨n1_D, h11⟩ := none_upd h1
    obtain ⟨n1_l2, h12⟩ := none_upd h11
    obtain ⟨n1_pk, h13⟩ := none_upd h12
    obtain ⟨n1_l, h14⟩ := none_upd h13
    obtain ⟨n1_pp, h15⟩ := none_upd h14
    obtain ⟨n1_o, h16⟩ := none_upd h15
    have n1_p : d1 ≠ p := (ne_of_none P3.ob h16).symm
    have n1_pt : d1 ≠ pt := (ne_of_none P3.tb h16).symm
    have t8 := ((((((TK.lst P3.or_ (.lst (List.map (fun r => V.str r.name) (List.take i rows) ++ [V.str r.name]))).trans (TK.dk ((upd_ne n_pp_o).trans P3.pa) _)).trans (TK.new hl _)).trans (TK.dk ((upd_ne nl_pk.symm).trans ((upd_ne n_pp_pk.symm).trans ((upd_ne n_pk_o).trans k1))) _)).trans (TK.lst (c_l2 _ _ _ _) _)).trans (TK.new hD _)).trans (TK.new h1 (.dK left))
    have t9 := t8.trans (TK.dk ((upd_ne n1_D.symm).trans upd_same) (.dK (mergeK [] left)))
    obtain ⟨ps, f1, f2⟩ := t9.dues hd hdues
    obtain ⟨dk, g1, g2⟩ := dk_of_dues f2
    have dkl : dk.length ≤ 8 := by
      have e := Paired.length g2
      have := words_few hd.1 fun du hdu => (hd.2 du hdu).1
      omega
    have lefl : left.length = 8 := by
      have := congrArg List.length T.keys
      rw [List.length_map, List.length_map] at this
      exact this
    have mdl : (mergeK [] dk).length ≤ 8 := by
      have := length_mergeK dk []
      rw [List.length_nil] at this
      omega
    refine ⟨d1, left, rfl, (upd_ne n1_D.symm).trans upd_same, upd_same, n1_D.symm, ?_⟩
    refine ⟨_, rfl, t, ps, dk, rfl, f1, g1, fun d2 h2 => ?_⟩
    obtain ⟨n2_D, h21⟩ := none_upd h2
    obtain ⟨n2_1, h22⟩ := none_upd h21
    obtain ⟨_, h23⟩ := none_upd h22
    obtain ⟨n2_l2, h24⟩ := none_upd h23
    obtain ⟨n2_pk, h25⟩ := none_upd h24
    obtain ⟨n2_l, h26⟩ := none_upd h25
    obtain ⟨n2_pp, h27⟩ := none_upd h26
    obtain ⟨n2_o, h28⟩ := none_upd h27
    have n2_p : d2 ≠ p := (ne_of_none P3.ob h28).symm
    have n2_pt : d2 ≠ pt := (ne_of_none P3.tb h28).symm
    refine ⟨d2, mergeK [] dk, rfl, (upd_ne n2_D.symm).trans upd_same, upd_same, n2_D.symm, by omega, ?_⟩
    have t10 := (t9.trans (TK.new h2 (.dK (mergeK [] dk)))).trans (TK.dk ((upd_ne n2_D.symm).trans upd_same) (.dK (mergeK (mergeK [] left) (mergeK [] dk))))
    have e_p : ∀ o1 o2 o3 o4 o5 o6 o7 o8 o9 o10, upd (upd (upd (upd (upd (upd (upd (upd (upd (upd H4 po o1) pp o2) l o3) pk o4) l2 o5) D o6) d1 o7) D o8) d2 o9) D o10 p = some (.ins C dx (tf4 po pp pk pt)) := fun o1 o2 o3 o4 o5 o6 o7 o8 o9 o10 => by
      rw [upd_ne nD_p.symm, upd_ne n2_p.symm, upd_ne nD_p.symm, upd_ne n1_p.symm, upd_ne nD_p.symm, upd_ne n_l2_p.symm, upd_ne n_p_pk, upd_ne nl_p.symm, upd_ne n_p_pp, upd_ne n_p_o]
      exact P3.ob
    have e_pt : ∀ o1 o2 o3 o4 o5 o6 o7 o8 o9 o10, upd (upd (upd (upd (upd (upd (upd (upd (upd (upd H4 po o1) pp o2) l o3) pk o4) l2 o5) D o6) d1 o7) D o8) d2 o9) D o10 pt = some (.dK tk) := fun o1 o2 o3 o4 o5 o6 o7 o8 o9 o10 => by
      rw [upd_ne nD_pt.symm, upd_ne n2_pt.symm, upd_ne nD_pt.symm, upd_ne n1_pt.symm, upd_ne nD_pt.symm, upd_ne n_l2_pt.symm, upd_ne n_pk_pt.symm, upd_ne nl_pt.symm, upd_ne n_pp_pt.symm, upd_ne n_pt_o]
      exact P3.tb
    refine ⟨_, rfl, p, C, dx, _, _, rfl, e_p _ _ _ _ _ _ _ _ _ _, TCl.cl, TCl.n_table, tf4_table, _, rfl, pt, _, rfl, DPut.k (k := Sum.inr r.name) (e_pt _ _ _ _ _ _ _ _ _ _) (small1000 (by omega)), ?_⟩
    have nm : ∀ q ∈ rows.take i, q.name ≠ r.name := hst.1
    have tknew : putK tk (Sum.inr r.name : Key) (V.ref D) = tk ++ [(Sum.inr r.name, .ref D)] := by
      refine putK_new _ (keys_none fun m => ?_)
      rw [td_keys (fun _ _ z => z.1) P3.td] at m
      obtain ⟨q, hq, e⟩ := List.mem_map.mp m
      exact nm q hq (Sum.inr.inj e)
    have ksnew : putK ks (Sum.inr r.name : Key) (V.ref l) = ks ++ [(Sum.inr r.name, .ref l)] := by
      refine putK_new _ (keys_none fun m => ?_)
      rw [k2] at m
      rcases List.mem_cons.mp m with e | m
      · have := hn.1
        rw [Sum.inr.inj e] at this
        exact absurd this (by decide +kernel)
      · obtain ⟨q, hq, e⟩ := List.mem_map.mp m
        exact nm q hq (Sum.inr.inj e)
    have panew : putK (List.map (fun r => ((Sum.inr r.name : Key), V.str r.above)) (rows.take i)) (Sum.inr r.name : Key) (V.str r.above) = List.map (fun r => ((Sum.inr r.name : Key), V.str r.above)) (rows.take i) ++ [(Sum.inr r.name, .str r.above)] := by
      refine putK_new _ (keys_none fun m => ?_)
      rw [List.map_map] at m
      obtain ⟨q, hq, e⟩ := List.mem_map.mp m
      exact nm q hq (Sum.inr.inj e)
    have t11 := t10.trans (TK.dk (e_pt _ _ _ _ _ _ _ _ _ _) (.dK (tk ++ [(Sum.inr r.name, .ref D)])))
    refine ⟨tk ++ [(Sum.inr r.name, .ref D)], _, _, _, _, _, rfl, ?_⟩
    rw [List.take_add_one, hr1, Option.toList_some, tknew, ksnew, panew]
    rw [ksnew, panew] at t11
    subst hlxe
    have hn0 : r.name ≠ "" := fun z => by
      have := hn.1
      rw [z] at this
      exact absurd this (by decide +kernel)
    have hk0 : ∀ q ∈ rows.take i, q.above ≠ r.name := fun q hq z => by
      obtain ⟨m, hm⟩ := List.mem_iff_getElem?.mp hq
      have hmi : m < i := by
        have := (List.getElem?_eq_some_iff.mp hm).1
        rw [List.length_take] at this
        omega
      rw [List.getElem?_take_of_lt hmi] at hm
      rcases (hok m q hm).2.2.2 with e | ⟨q2, hq2, e, _⟩
      · exact hn0 (z.symm.trans e)
      · refine hst.1 q2 ?_ (e.trans z)
        obtain ⟨m2, hm2⟩ := List.mem_iff_getElem?.mp hq2
        have hmi2 : m2 < m := by
          have := (List.getElem?_eq_some_iff.mp hm2).1
          rw [List.length_take] at this
          omega
        rw [List.getElem?_take_of_lt hmi2] at hm2
        exact List.mem_iff_getElem?.mpr ⟨m2, by rw [List.getElem?_take_of_lt (by omega)]; exact hm2⟩
    refine part_step (l := l) (l' := l2) (D := D) P3 (fun q hq => ?_) t11 (fun b2 o2 hb b1 b2' b3 b4 b5 => ?_) hl20 hl2o hl2 hn0 hst.1 hk0 hab hlB ?_ ?_ ⟨ks, ?_, k1, hkvm⟩ ?_ ⟨nl_o, P3.same.free hlB⟩ ?_ upd_same ⟨P3.same.free hD5, nD_pp, nD_pk, nD_pt, ?_⟩
    · obtain ⟨m, hm⟩ := List.mem_iff_getElem?.mp (List.mem_of_mem_take hq)
      exact (hok m q hm).2.1
    · rw [upd_ne b4, upd_ne (ne_of_none hb hD5), upd_ne (ne_of_none hb h28), upd_ne (ne_of_none hb hD5), upd_ne (ne_of_none hb h16), upd_ne (ne_of_none hb hD5), upd_ne b5, upd_ne b3, upd_ne (ne_of_none hb hlB), upd_ne b2', upd_ne b1]
      exact hb
    · rw [upd_ne n_pt_o.symm, upd_ne nD_o.symm, upd_ne n2_o.symm, upd_ne nD_o.symm, upd_ne n1_o.symm, upd_ne nD_o.symm, upd_ne hl2o.symm, upd_ne n_pk_o.symm, upd_ne nl_o.symm, upd_ne n_pp_o.symm]
      exact upd_same
    · rw [upd_ne n_pp_pt, upd_ne nD_pp.symm, upd_ne n2_pp.symm, upd_ne nD_pp.symm, upd_ne n1_pp.symm, upd_ne nD_pp.symm, upd_ne n_l2_pp.symm, upd_ne n_pp_pk, upd_ne nl_pp.symm]
      exact upd_same
    · rw [upd_ne n_pk_pt, upd_ne nD_pk.symm, upd_ne n2_pk.symm, upd_ne nD_pk.symm, upd_ne n1_pk.symm, upd_ne nD_pk.symm, upd_ne n_l2_pk.symm]
      exact upd_same
    · rw [upd_ne nl_pt, upd_ne nD_l.symm, upd_ne n2_l.symm, upd_ne nD_l.symm, upd_ne n1_l.symm, upd_ne nD_l.symm, upd_ne n_l2_l.symm, upd_ne nl_pk]
      exact upd_same
    · rw [upd_ne n_l2_pt, upd_ne nD_l2.symm, upd_ne n2_l2.symm, upd_ne nD_l2.symm, upd_ne n1_l2.symm, upd_ne nD_l2.symm]
      exact upd_same
    · have t12 := ((TK.new h2 (.dK (mergeK [] dk))).trans (TK.dk ((upd_ne n2_D.symm).trans upd_same) (.dK (mergeK (mergeK [] left) (mergeK [] dk))))).trans (TK.dk (e_pt _ _ _ _ _ _ _ _ _ _) (.dK (tk ++ [(Sum.inr r.name, .ref D)])))
      have g3 := g2
      rw [ksnew, panew] at t12 g3
      exact ⟨_, (upd_ne nD_pt).trans upd_same, full_of (hLV _) (paired_monoM (fun kv du hm z => ⟨z.1, t12.val (hd.2 du hm).2 z.2⟩) g3) hd⟩
  · rintro σ H1 ⟨tk, o3, o4, o5, o6, o7, rfl, hP⟩
    rw [xl, List.take_length] at hP
    refine ⟨_, rfl, _, _, _, _, true, rfl, .ty _, .base (.bl b), kit_ty (by decide +kernel), true, rfl, ?_⟩
    refine iteF ?_
    refine ⟨_, rfl, _, rfl, p, C, dx, _, rfl, hP.ob, TCl.cl, TCl.n_hands, (by show 4 < 1000; decide), ?_⟩
    show Q .non (upd H1 p (.ins C dx (putF "hands" (.bl b) [("order", V.ref po), ("parents", .ref pp), ("kids", .ref pk), ("table", .ref pt)])))
    rw [putF_five]
    have tkk : TK H1 (upd H1 p (.ins C dx (tf5 po pp pk pt b))) := TK.ins hP.ob _
    refine q _ tk (fun b2 o2 hb => ?_) ⟨dx, po, pp, pk, pt, upd_same, ?_, ?_, ?_, ?_, ?_⟩ ?_
    · rw [upd_ne (ne_of_none hb p0)]
      exact hP.same _ _ hb
    · rw [upd_ne (ne_of hP.or_ hP.ob (by intro z; cases z))]
      exact hP.or_
    · rw [upd_ne (ne_of hP.pa hP.ob (by intro z; cases z))]
      exact hP.pa
    · rw [upd_ne (ne_of hP.tb hP.ob (by intro z; cases z))]
      exact hP.tb
    · refine paired_monoM (fun kv r hr z => ?_) hP.td
      obtain ⟨e1, d, e2, e3, e4, e5, e6, e7⟩ := z
      refine ⟨e1, d, e2, tkk.full ?_ ?_ e7⟩
      · obtain ⟨m, hm⟩ := List.mem_iff_getElem?.mp hr
        exact (hok m r hm).2.1
      · obtain ⟨fk, f1, _⟩ := e7
        rw [upd_ne (ne_of f1 hP.ob (by intro z; cases z))]
    · obtain ⟨ks, k1, k2, k3, _⟩ := hP.kd
      refine ⟨ks, (upd_ne (ne_of k1 hP.ob (by intro z; cases z))).trans k1, k2, fun kv hkv => ?_⟩
      obtain ⟨l, e1, e2, _⟩ := k3 kv hkv
      exact ⟨l, e1, (upd_ne (ne_of e2 hP.ob (by intro z; cases z))).trans e2⟩
    · intro kv hkv
      obtain ⟨m, hm⟩ := List.mem_iff_getElem?.mp hkv
      obtain ⟨r, _, _, d, e2, e3, _⟩ := paired_get hP.td hm
      exact ⟨d, e2, e3⟩

end
end Bd
end

section
namespace Bd
open PySem L2
abbrev sTEq : Stmt := (inClass (top 33) 1)
theorem scTEq : FnScope ["self", "other"] ["self", "other"] (defScope sTEq) := ⟨rfl, rfl, rfl, by decide +kernel, rfl, by decide +kernel, by decide +kernel⟩

def duesEqB (a b : List (Str × PyData)) : Bool := (List.zipWith (fun x y => PyData.eqv x.2 y.2) a b).all id
/-- dicts that two tables share tell the same dues -/
def ShareOk (tk tk' : List (Key × V)) (rows rows' : List RowM) : Prop := ∀ (i : Nat) (kv kv' : Key × V) (r r' : RowM), tk[i]? = some kv → tk'[i]? = some kv' → rows[i]? = some r → rows'[i]? = some r' → kv.2 = kv'.2 → fullD r.dues = fullD r'.dues
def treeEqB (rows : List RowM) (h : Bool) (rows' : List RowM) (h' : Bool) : Bool :=
  decide (rows.map (·.name) = rows'.map (·.name)) && (decide (rows.map (·.above) = rows'.map (·.above)) && ((List.zipWith (fun r r' => duesEqB (fullD r.dues) (fullD r'.dues)) rows rows').all id && decide (h = h')))
/-- three lists in step -/
inductive P3 {α β γ : Type} (F : α → β → γ → Prop) : List α → List β → List γ → Prop
  | nil : P3 F [] [] []
  | cons {a : α} {b : β} {c : γ} {as : List α} {bs : List β} {cs : List γ} : F a b c → P3 F as bs cs → P3 F (a :: as) (b :: bs) (c :: cs)
theorem hits_al {F : V → V → Bool → Prop} {ls : List (Key × V)} (nd : (ls.map (·.1)).Nodup) {ks us : List (Key × V)} {rs : List Bool} (h : P3 (fun (k u : Key × V) r => k.1 = u.1 ∧ F k.2 u.2 r) ks us rs) (hu : ∀ u ∈ us, u ∈ ls) : HitsV F ls ks (rs.all id) := by
  induction h with
  | nil => exact .nil
  | @cons k u r ks us rs h1 h2 ih =>
    obtain ⟨k1, k2⟩ := k
    have e : valV ls k1 = some u.2 := by
      have := val_nd nd u (hu u List.mem_cons_self)
      rw [← h1.1] at this
      exact this
    rw [List.all_cons]
    exact .hit e h1.2 (ih fun x hx => hu x (List.mem_cons_of_mem _ hx))
theorem eqv_strs : ∀ (xs ys : List Str), PyData.eqvAll (xs.map .str) (ys.map .str) = decide (xs = ys)
  | [], [] => by simp [PyData.eqvAll]
  | [], y :: ys => by simp [PyData.eqvAll]
  | x :: xs, [] => by simp [PyData.eqvAll]
  | x :: xs, y :: ys => by
    rw [List.map_cons, List.map_cons, PyData.eqvAll, eqv_strs xs ys, PyData.eqv]
    by_cases a : x = y
    · subst a
      simp
    · simp [a]
theorem eqv_strL (xs ys : List Str) : PyData.eqv (.list (xs.map .str)) (.list (ys.map .str)) = decide (xs = ys) := by
  rw [PyData.eqv]
  exact eqv_strs xs ys
theorem lay_strs : ∀ xs : List Str, (∀ x ∈ xs, PyData.canLay0 (.str x) = true) → PyData.canLayAll0 (xs.map .str) = true
  | [], _ => by simp [PyData.canLayAll0]
  | x :: xs, h => by
    rw [List.map_cons, PyData.canLayAll0, lay_strs xs fun y hy => h y (List.mem_cons_of_mem _ hy), h x List.mem_cons_self]
    rfl
theorem dep_strs : ∀ xs : List Str, PyData.depthAll (xs.map .str) = 0
  | [] => by simp [PyData.depthAll]
  | x :: xs => by
    rw [List.map_cons, PyData.depthAll, dep_strs xs, PyData.depth]
    rfl
theorem shaped_strs {xs : List Str} (h : ∀ x ∈ xs, PyData.canLay0 (.str x) = true) : SeqAt.shaped (.list (xs.map .str)) = true := by
  unfold SeqAt.shaped
  rw [PyData.canLay0, lay_strs xs h, PyData.depth, dep_strs]
  rfl
theorem lay_name {x : Str} (h : NameOk x) : PyData.canLay0 (.str x) = true := by
  have e : PyData.canLay0 (.str x) = x.cps.all (· < 0x110000) := by
    rw [PyData.canLay0]
    rfl
  rw [e, Array.all_eq_true']
  intro c hc
  have := (h.2.2 c (Array.mem_toList_iff.mpr hc)).2
  exact decide_eq_true (by omega)
theorem lay_ints : ∀ xs : List Int, PyData.canLayAll0 (xs.map .int) = true
  | [] => by simp [PyData.canLayAll0]
  | x :: xs => by
    rw [List.map_cons, PyData.canLayAll0, lay_ints xs, PyData.canLay0]
    rfl
theorem dep_ints : ∀ xs : List Int, PyData.depthAll (xs.map .int) = 0
  | [] => by simp [PyData.depthAll]
  | x :: xs => by
    rw [List.map_cons, PyData.depthAll, dep_ints xs, PyData.depth]
    rfl
theorem shaped_ints (xs : List Int) : SeqAt.shaped (.tuple (xs.map .int)) = true := by
  unfold SeqAt.shaped
  rw [PyData.canLay0, lay_ints xs, PyData.depth, dep_ints]
  rfl
theorem shaped_val {x : Str} {d : PyData} (h : ValOk x d) : SeqAt.shaped d = true := by
  cases h with
  | amt => exact shaped_ints [_, _]
  | endl => decide +kernel
  | none => decide +kernel
  | set => exact shaped_ints _
  | alone =>
    unfold SeqAt.shaped
    rw [PyData.canLay0, PyData.depth]
    rfl
theorem shaped_name {x : Str} (h : PyData.canLay0 (.str x) = true) : SeqAt.shaped (.str x) = true := by
  unfold SeqAt.shaped
  rw [h, PyData.depth]
  rfl
/-- aboves, too, are names or the root's -/
theorem lay_above {rows : List RowM} (h : RowsOk rows) {i : Nat} {r : RowM} (e : rows[i]? = some r) : PyData.canLay0 (.str r.above) = true := by
  rcases (h i r e).2.2.2 with z | ⟨q, hq, z, _⟩
  · rw [z]
    decide +kernel
  · rw [← z]
    obtain ⟨m, hm⟩ := List.mem_iff_getElem?.mp (List.mem_of_mem_take hq)
    exact lay_name (h m q hm).1
theorem dp_strs {K : PySem.W.Frag} {H : Hp} : ∀ xs : List Str, DpAll K H (xs.map V.str) (xs.map .str)
  | [] => .nil
  | x :: xs => .cons (.str x) (dp_strs xs)
/-- a thing that is no instance of the class -/
def NonIns (K : PySem.W.Frag) (H : Hp) (C : Addr) (y : V) : Prop := ∃ t, TyX K H y t ∧ PySem.W.kitOne K t (.ref C) = some false
/-- what isinstance asks of the class -/
structure TI (K : PySem.W.Frag) (C : Addr) : Prop where
  ha : PySem.W.findIn K (.ref C) "__class__" = some (some (.builtin "object.__class__"))
  hn : PySem.W.specialIn K (.builtin "object.__class__") "__get__" = some (some (.builtin "getset_descriptor.__get__"))
  htk : PySem.W.takesIn K (.builtin "object.__class__") = some true
  hm : PySem.W.mroIn K C (.type "object") = some true
def spTEq (K : PySem.W.Frag) (C : Addr) : Sp := fun vs H Q _ => ∃ (p : Addr) (y : V) (rows : List RowM) (h : Bool) (tk : List (Key × V)), vs = [.ref p, y] ∧ TreeAt K H C p rows h tk ∧ RowsOk rows ∧
  ((NonIns K H C y ∧ Q (.bl false) H) ∨ ∃ p' rows' h' tk', y = .ref p' ∧ TreeAt K H C p' rows' h' tk' ∧ RowsOk rows' ∧ ShareOk tk tk' rows rows' ∧ Q (.bl (treeEqB rows h rows' h')) H)
section
variable {P : Program} {w : World} {K : PySem.W.Frag} {mg : Str → Option Value} {base : Heap} {aL C : Addr} {left : List (Key × V)}
theorem hu100 {A : Around} {k : Nat} (hr : Room k A) : A.units + 100 < cLine := by
  have := hr.un
  omega
theorem p3_dues {H : Hp} : ∀ {kvs lvs : List (Key × V)} {a b : List (Str × PyData)}, Paired (PV K H) kvs a → Paired (PV K H) lvs b → a.map (·.1) = b.map (·.1) → (∀ x ∈ a, ValOk x.1 x.2) → (∀ x ∈ b, ValOk x.1 x.2) →
    P3 (fun (k u : Key × V) r => k.1 = u.1 ∧ EqF K H 0 k.2 u.2 r) kvs lvs (List.zipWith (fun x y => PyData.eqv x.2 y.2) a b)
  | _, _, _, _, .nil, .nil, _, _, _ => .nil
  | _, _, _, _, .cons x1 x2, .cons y1 y2, e, h1, h2 => by
    rw [List.map_cons, List.map_cons] at e
    injection e with e1 e2
    exact .cons ⟨by rw [x1.1, y1.1, e1], _, _, x1.2, y1.2, shaped_val (h1 _ List.mem_cons_self), shaped_val (h2 _ List.mem_cons_self), rfl⟩ (p3_dues x2 y2 e2 (fun z hz => h1 z (List.mem_cons_of_mem _ hz)) fun z hz => h2 z (List.mem_cons_of_mem _ hz))
  | _, _, _, _, .nil, .cons _ _, e, _, _ => by cases e
  | _, _, _, _, .cons _ _, .nil, e, _, _ => by cases e
theorem fullD_keys (a : List (Str × PyData)) : (fullD a).map (·.1) = leftW := by
  rw [← leftD_words]
  unfold fullD
  rw [List.map_map]
  rfl
theorem full_nd {H : Hp} {kvs : List (Key × V)} {a : List (Str × PyData)} (h : Paired (PV K H) kvs (fullD a)) : (kvs.map (·.1)).Nodup := by
  have e : (fullD a).map (fun du => (Sum.inr du.1 : Key)) = leftW.map fun x => (Sum.inr x : Key) := by
    rw [← fullD_keys a, List.map_map]
    rfl
  rw [pv_keys h, e]
  exact nodup_inr leftW_nd
theorem lay_val {x : Str} {d : PyData} (h : ValOk x d) : PyData.canLay0 d = true ∧ PyData.depth d ≤ 1 ∧ PyData.eqv d d = true := by
  have hI : ∀ xs : List Int, PyData.canLay0 (.tuple (xs.map .int)) = true ∧ PyData.depth (.tuple (xs.map .int)) ≤ 1 ∧ PyData.eqv (.tuple (xs.map .int)) (.tuple (xs.map .int)) = true := fun xs => by
    refine ⟨by rw [PyData.canLay0, lay_ints], by rw [PyData.depth, dep_ints]; exact Nat.le_refl _, ?_⟩
    rw [PyData.eqv]
    induction xs with
    | nil => rfl
    | cons a r ih =>
      rw [List.map_cons, PyData.eqvAll, ih, PyData.eqv]
      simp
  cases h with
  | amt => exact hI [_, _]
  | endl => exact ⟨by decide +kernel, by decide +kernel, by decide +kernel⟩
  | none => exact ⟨by decide +kernel, by decide +kernel, by decide +kernel⟩
  | set => exact hI _
  | alone =>
    refine ⟨by rw [PyData.canLay0] <;> rfl, by rw [PyData.depth]; exact Nat.zero_le _, ?_⟩
    rw [PyData.eqv]
    simp
theorem dues_refl : ∀ {a : List (Str × PyData)}, (∀ x ∈ a, ValOk x.1 x.2) → duesEqB a a = true
  | [], _ => rfl
  | x :: a, h => by
    have ih := dues_refl (a := a) fun y hy => h y (List.mem_cons_of_mem _ hy)
    unfold duesEqB at ih ⊢
    rw [List.zipWith_cons_cons, List.all_cons, ih, (lay_val (h x List.mem_cons_self)).2.2]
    rfl
theorem p3_table {H : Hp} : ∀ {tk tk' : List (Key × V)} {rows rows' : List RowM}, Paired (fun (kv : Key × V) (r : RowM) => kv.1 = (Sum.inr r.name : Key) ∧ ∃ d, kv.2 = .ref d ∧ FullAt K H d r.dues) tk rows →
    Paired (fun (kv : Key × V) (r : RowM) => kv.1 = (Sum.inr r.name : Key) ∧ ∃ d, kv.2 = .ref d ∧ FullAt K H d r.dues) tk' rows' → rows.map (·.name) = rows'.map (·.name) → (∀ r ∈ rows, DuesOk r.dues) → (∀ r ∈ rows', DuesOk r.dues) →
    ShareOk tk tk' rows rows' → P3 (fun (k u : Key × V) r => k.1 = u.1 ∧ EqF K H 1 k.2 u.2 r) tk tk' (List.zipWith (fun r r' => duesEqB (fullD r.dues) (fullD r'.dues)) rows rows')
  | _, _, _, _, .nil, .nil, _, _, _, _ => .nil
  | _, _, _, _, .cons (a := kv) (b := r) x1 x2, .cons (a := kv') (b := r') y1 y2, e, h1, h2, h3 => by
    rw [List.map_cons, List.map_cons] at e
    injection e with e1 e2
    obtain ⟨k1, d, k2, fk, f1, f2⟩ := x1
    obtain ⟨l1, d', l2, gk, g1, g2⟩ := y1
    have ih := p3_table x2 y2 e2 (fun z hz => h1 z (List.mem_cons_of_mem _ hz)) (fun z hz => h2 z (List.mem_cons_of_mem _ hz)) fun i kv kv' r r' a b c d => h3 (i + 1) kv kv' r r' (by simpa using a) (by simpa using b) (by simpa using c) (by simpa using d)
    by_cases dd : d = d'
    · have ef := h3 0 kv kv' r r' rfl rfl rfl rfl (by rw [k2, l2, dd])
      exact .cons ⟨by rw [k1, l1, e1], d, d', k2, l2, .inl ⟨dd, by show duesEqB (fullD r.dues) (fullD r'.dues) = true; rw [← ef]; exact dues_refl (fullD_ok (h1 _ List.mem_cons_self))⟩⟩ ih
    refine .cons ⟨by rw [k1, l1, e1], d, d', k2, l2, .inr ⟨dd, fk, gk, _, f1, g1, fun _ => hits_al (full_nd g2) (p3_dues f2 g2 ?_ ?_ ?_) fun u hu => hu, ?_⟩⟩ ih
    · rw [fullD_keys, fullD_keys]
    · exact fullD_ok (h1 _ List.mem_cons_self)
    · exact fullD_ok (h2 _ List.mem_cons_self)
    · have z1 : fk.length = gk.length := by
        rw [Paired.length f2, Paired.length g2]
        unfold fullD
        rw [List.length_map, List.length_map]
      unfold duesEqB
      rw [z1]
      simp
  | _, _, _, _, .nil, .cons _ _, e, _, _, _ => by cases e
  | _, _, _, _, .cons _ _, .nil, e, _, _, _ => by cases e
theorem p3_above {H : Hp} : ∀ {rows rows' : List RowM}, rows.map (·.name) = rows'.map (·.name) → (∀ r ∈ rows, PyData.canLay0 (.str r.above) = true) → (∀ r ∈ rows', PyData.canLay0 (.str r.above) = true) →
    P3 (fun (k u : Key × V) r => k.1 = u.1 ∧ EqF K H 0 k.2 u.2 r) (rows.map fun r => ((Sum.inr r.name : Key), V.str r.above)) (rows'.map fun r => ((Sum.inr r.name : Key), V.str r.above)) (List.zipWith (fun r r' => decide (r.above = r'.above)) rows rows')
  | [], [], _, _, _ => .nil
  | r :: rows, r' :: rows', e, h1, h2 => by
    rw [List.map_cons, List.map_cons] at e
    injection e with e1 e2
    refine .cons ⟨congrArg Sum.inr e1, _, _, .str _, .str _, shaped_name (h1 _ List.mem_cons_self), shaped_name (h2 _ List.mem_cons_self), ?_⟩ (p3_above e2 (fun z hz => h1 z (List.mem_cons_of_mem _ hz)) fun z hz => h2 z (List.mem_cons_of_mem _ hz))
    rw [PyData.eqv]
    show decide (r.above = r'.above) = (r.above == r'.above)
    by_cases c : r.above = r'.above
    · rw [decide_eq_true c, c]
      exact (beq_self_eq_true _).symm
    · rw [decide_eq_false c]
      exact (beq_eq_false_iff_ne.mpr c).symm
  | [], _ :: _, e, _, _ => by cases e
  | _ :: _, [], e, _, _ => by cases e
theorem above_all : ∀ {rows rows' : List RowM}, rows.length = rows'.length → (List.zipWith (fun (r r' : RowM) => decide (r.above = r'.above)) rows rows').all id = decide (rows.map (·.above) = rows'.map (·.above))
  | [], [], _ => by simp
  | r :: rows, r' :: rows', e => by
    rw [List.zipWith_cons_cons, List.all_cons, above_all (by simpa using e), List.map_cons, List.map_cons]
    by_cases c : r.above = r'.above
    · simp [c]
    · simp [c]
  | [], _ :: _, e => by cases e
  | _ :: _, [], e => by cases e
theorem ok_teq {f : Addr} {fd : FuncData} (F : Fun K "__eq__" "Tree.__eq__" sTEq f fd) (T : TP P w K mg aL left) (TCl : TC K mg C) (TIs : TI K C) : FnOk P w K mg base CX0 1 f fd ["self", "other"] (spTEq K C) := by
  refine F.ok scTEq (fun vs H Q E h => ?_) (fun cdv A outer s H vs Q E hr h => ?_)
  · obtain ⟨p, y, rows, h, tk, rfl, _⟩ := h
    rfl
  obtain ⟨p, y, rows, h, tk, rfl, ht, hok, hy⟩ := h
  refine ⟨_, (pss_one (ps_ret (pe_and (pe_callB call_isi (by rfl) T.z_isinstance (by decide +kernel) (pa_cons (pv 1) (pa_cons (pe_glob (v := .ref C) rfl TCl.g_Tree rfl) pa_nil))) (pe_and (pe_cmpR (op_eqD hr.units) (pe_fld (pv 0) rfl) (pe_fld (pv 1) rfl) (nomark _)) (pe_and (pe_cmpR (op_eqF (hu100 hr)) (pe_fld (pv 0) rfl) (pe_fld (pv 1) rfl) (nomark _)) (pe_and (pe_cmpR (op_eqF (hu100 hr)) (pe_fld (pv 0) rfl) (pe_fld (pv 1) rfl) (nomark _)) (pe_one (pe_cmpR op_eq (pe_fld (pv 0) rfl) (pe_fld (pv 1) rfl) (nomark _))))))))), ?_⟩
  rcases hy with ⟨⟨t, ty, kt⟩, q⟩ | ⟨p', rows', h', tk', rfl, ht', hok', hdis, q⟩
  · exact ⟨_, rfl, _, _, _, _, false, rfl, .own C, ty, kt, false, rfl, iteF q⟩
  obtain ⟨dx, po, pp, pk, pt, o1, o2, o3, o4, o5, _⟩ := ht
  obtain ⟨dx', po', pp', pk', pt', w1, w2, w3, w4, w5, _⟩ := ht'
  refine ⟨_, rfl, _, _, _, _, true, rfl, .own C, .base (.ins w1 TCl.cl TIs.ha TIs.hn TIs.htk TIs.hm), by simp [PySem.W.kitOne], true, rfl, iteT ?_⟩
  refine ⟨_, rfl, p, C, dx, _, _, rfl, o1, TCl.cl, TCl.n_order, tf5_order, _, rfl, p', C, dx', _, _, rfl, w1, TCl.cl, TCl.n_order, tf5_order, ?_⟩
  have mem : ∀ {rs : List RowM}, RowsOk rs → ∀ r ∈ rs, NameOk r.name ∧ DuesOk r.dues ∧ PyData.canLay0 (.str r.above) = true := fun ok r hr => by
    obtain ⟨m, hm⟩ := List.mem_iff_getElem?.mp hr
    exact ⟨(ok m r hm).1, (ok m r hm).2.1, lay_above ok hm⟩
  have lays : ∀ {rs : List RowM}, RowsOk rs → ∀ x ∈ rs.map (·.name), PyData.canLay0 (.str x) = true := fun ok x hx => by
    obtain ⟨r, hr, rfl⟩ := List.mem_map.mp hx
    exact lay_name (mem ok r hr).1
  refine ⟨.list ((rows.map (·.name)).map .str), .list ((rows'.map (·.name)).map .str), .lst (SqL.of o2) ?_, .lst (SqL.of w2) ?_, shaped_strs (lays hok), shaped_strs (lays hok'), ?_⟩
  · have := dp_strs (K := K) (H := H) (rows.map (·.name))
    rw [List.map_map] at this
    exact this
  · have := dp_strs (K := K) (H := H) (rows'.map (·.name))
    rw [List.map_map] at this
    exact this
  rw [eqv_strL]
  unfold treeEqB at q
  by_cases en : rows.map (·.name) = rows'.map (·.name)
  · rw [decide_eq_true en]
    rw [decide_eq_true en, Bool.true_and] at q
    have el : rows.length = rows'.length := by
      have := congrArg List.length en
      simpa using this
    refine ⟨true, rfl, iteT ?_⟩
    refine ⟨_, rfl, p, C, dx, _, _, rfl, o1, TCl.cl, TCl.n_parents, tf5_parents, _, rfl, p', C, dx', _, _, rfl, w1, TCl.cl, TCl.n_parents, tf5_parents, ?_⟩
    have ndp : ((rows'.map fun r => ((Sum.inr r.name : Key), V.str r.above)).map (·.1)).Nodup := by
      have := names_nd hok' rows'.length
      rw [List.take_length] at this
      have := nodup_inr this
      rw [List.map_map] at this ⊢
      exact this
    refine ⟨pp, pp', _, _, _, 0, by decide, rfl, rfl, o3, w3, fun _ => hits_al ndp (p3_above en (fun r hr => (mem hok r hr).2.2) fun r hr => (mem hok' r hr).2.2) fun u hu => hu, ?_⟩
    rw [above_all el, List.length_map, List.length_map, el, beq_self_eq_true, Bool.true_and]
    by_cases ea : rows.map (·.above) = rows'.map (·.above)
    · rw [decide_eq_true ea]
      rw [decide_eq_true ea, Bool.true_and] at q
      refine ⟨true, rfl, iteT ?_⟩
      refine ⟨_, rfl, p, C, dx, _, _, rfl, o1, TCl.cl, TCl.n_table, tf5_table, _, rfl, p', C, dx', _, _, rfl, w1, TCl.cl, TCl.n_table, tf5_table, ?_⟩
      have ndt : (tk'.map (·.1)).Nodup := by
        rw [td_keys (fun _ _ z => z.1) w5]
        rw [List.map_map] at ndp
        exact ndp
      refine ⟨pt, pt', _, _, _, 1, by decide, rfl, rfl, o4, w4, fun _ => hits_al ndt (p3_table o5 w5 en (fun r hr => (mem hok r hr).2.1) (fun r hr => (mem hok' r hr).2.1) hdis) fun u hu => hu, ?_⟩
      rw [Paired.length o5, Paired.length w5, el, beq_self_eq_true, Bool.true_and]
      cases et : (List.zipWith (fun r r' => duesEqB (fullD r.dues) (fullD r'.dues)) rows rows').all id with
      | false =>
        rw [et, Bool.false_and] at q
        exact ⟨false, rfl, iteF q⟩
      | true =>
        rw [et, Bool.true_and] at q
        refine ⟨true, rfl, iteT ?_⟩
        refine ⟨_, rfl, p, C, dx, _, _, rfl, o1, TCl.cl, TCl.n_hands, tf5_hands, _, rfl, p', C, dx', _, _, rfl, w1, TCl.cl, TCl.n_hands, tf5_hands, rfl, ?_⟩
        have e : decide (V.bl h = V.bl h') = decide (h = h') := by
          by_cases c : h = h'
          · rw [c]
            simp
          · rw [decide_eq_false c, decide_eq_false fun z => c (V.bl.inj z)]
        show Q (.bl (decide (V.bl h = V.bl h'))) H
        rw [e]
        exact q
    · rw [decide_eq_false ea]
      rw [decide_eq_false ea, Bool.false_and] at q
      exact ⟨false, rfl, iteF q⟩
  · rw [decide_eq_false en]
    rw [decide_eq_false en, Bool.false_and] at q
    exact ⟨false, rfl, iteF q⟩
end
end Bd
end

section
namespace Bd
open PySem L2
abbrev sNames2 : Stmt := (top 45)
theorem scNames2 : FnScope ["_law_source_here", "_law_many", "_law_some", "_law_found", "_law_turn"] ["_law_source_here", "_law_many"] (defScope sNames2) := ⟨rfl, rfl, rfl, by decide +kernel, rfl, by decide +kernel, by decide +kernel⟩
abbrev sWords : Stmt := (top 49)
theorem scWords : FnScope [] [] (defScope sWords) := ⟨rfl, rfl, rfl, by decide +kernel, rfl, by decide +kernel, by decide +kernel⟩
abbrev sValue2 : Stmt := (top 50)
theorem scValue2 : FnScope ["_law_source_here", "_law_word"] ["_law_source_here", "_law_word"] (defScope sValue2) := ⟨rfl, rfl, rfl, by decide +kernel, rfl, by decide +kernel, by decide +kernel⟩

def menu : List Str := ["a", "b", "c", "d", "e", "f", "g", "h", "k", "m", "pit", "shed", "tenletters", "zz"]
def bigD : PyData := .tuple [.int (10 ^ 15 + 1), .int 1]
def spWords : Sp := fun vs H Q _ => vs = [] ∧ ∀ r, H r = none → Q (.ref r) (upd H r (.lst (leftW.map .str)))
def spNames2 : Sp := fun vs H Q _ => ∃ (s : Addr) (m : Nat), vs = [.ref s, .int (m : Int)] ∧ Src H s ∧ m ≤ 12 ∧
  ∀ r H' (xs : List Str), H r = none → H' r = some (.lst (xs.map .str)) → xs.Nodup → (∀ x ∈ xs, x ∈ menu) → xs.length = m → Src H' s → Kept s H H' → Q (.ref r) H'
def spValue (K : PySem.W.Frag) : Sp := fun vs H Q _ => ∃ (s : Addr) (x : Str), vs = [.ref s, .str x] ∧ Src H s ∧ x ∈ leftW ∧
  ∀ v d H', ValOk x d → d ≠ bigD → Dp K H' v d → Src H' s → Kept s H H' → Q v H'
section
variable {P : Program} {w : World} {K : PySem.W.Frag} {mg : Str → Option Value} {base : Heap}
theorem src_ne {H : Hp} {p r : Addr} (h : Src H p) (hr : H r = none) : p ≠ r := by
  obtain ⟨_, _, _, h⟩ := h
  exact ne_of_none h hr
theorem src_new {H : Hp} {p r : Addr} {o : HO} (h : Src H p) (hr : H r = none) : Src (upd H r o) p := by
  have n := src_ne h hr
  obtain ⟨x, y, z, h⟩ := h
  exact ⟨x, y, z, by rw [upd_ne n]; exact h⟩
theorem src_upd {H : Hp} {p r : Addr} {o : HO} (h : Src H p) (hr : p ≠ r) : Src (upd H r o) p := by
  obtain ⟨x, y, z, h⟩ := h
  exact ⟨x, y, z, by rw [upd_ne hr]; exact h⟩
theorem ok_words {f : Addr} {fd : FuncData} (F : Fun K "_law_words" "_law_words" sWords f fd) : FnOk P w K mg base CX0 1 f fd [] spWords := by
  refine F.ok scWords (fun vs H Q E h => ?_) (fun cdv A outer s H vs Q E hr h => ?_)
  · obtain ⟨rfl, _⟩ := h
    rfl
  obtain ⟨rfl, q⟩ := h
  refine ⟨_, (pss_one (ps_ret (pe_lst (pa_cons pe_str (pa_cons pe_str (pa_cons pe_str (pa_cons pe_str (pa_cons pe_str (pa_cons pe_str (pa_cons pe_str (pa_cons pe_str pa_nil))))))))))), ?_⟩
  refine ⟨by show 8 ≤ sizeLine; decide, fun r hr' => ?_⟩
  exact q r hr'

theorem seq_nat {k n : Nat} (h : k < n) : seqIndex? (k : Int) n = some k := by
  rw [seqIndex_of (by omega) (by omega)]
  rfl
theorem map_erase {α β : Type} (f : α → β) : ∀ (xs : List α) (i : Nat), (xs.map f).eraseIdx i = (xs.eraseIdx i).map f
  | [], _ => rfl
  | x :: xs, 0 => rfl
  | x :: xs, i + 1 => by
    rw [List.map_cons, List.eraseIdx_cons_succ, List.eraseIdx_cons_succ, List.map_cons, map_erase f xs i]
theorem perm_erase {α : Type} : ∀ (ys : List α) (k : Nat) (h : k < ys.length), (ys[k] :: ys.eraseIdx k).Perm ys
  | y :: ys, 0, _ => List.Perm.refl _
  | y :: ys, k + 1, h => by
    rw [List.eraseIdx_cons_succ, List.getElem_cons_succ]
    exact (List.Perm.swap _ _ _).trans ((perm_erase ys k (by simpa using h)).cons y)
theorem ok_names2 {f g : Addr} {fd gd : FuncData} (F : Fun K "_law_names" "_law_names" sNames2 f fd) (T : TA mg) (cN : Cal P w K mg base "_law_next" ["_law_source_here", "_law_many"] 2 spNext g gd) : FnOk P w K mg base CX0 3 f fd ["_law_source_here", "_law_many"] spNames2 := by
  refine F.ok scNames2 (fun vs H Q E h => ?_) (fun cdv A outer s H vs Q E hr h => ?_)
  · obtain ⟨p, m, rfl, _⟩ := h
    rfl
  obtain ⟨p, m, rfl, hp, hm, q⟩ := h
  refine ⟨_, (pss_cons (ps_set (i := 2) scNames2.nd rfl (Or.inl rfl) (pe_lst (pa_cons pe_str (pa_cons pe_str (pa_cons pe_str (pa_cons pe_str (pa_cons pe_str (pa_cons pe_str (pa_cons pe_str (pa_cons pe_str (pa_cons pe_str (pa_cons pe_str (pa_cons pe_str (pa_cons pe_str (pa_cons pe_str (pa_cons pe_str pa_nil)))))))))))))))) (pss_cons (ps_set (i := 3) scNames2.nd rfl (Or.inl rfl) (pe_lst pa_nil)) (pss_cons (ps_for PassesOwn.never rfl (pi_range1 rfl T.z_range (pa_cons (pv 1) pa_nil)) (pg_name (i := 4) scNames2.nd rfl (Or.inl rfl)) (pss_one (ps_expr (pe_bm PySem.F.plainAttrs_list PySem.F.slot_list_append PySem.F.type_list_append mt_append (pv 3) (pa_cons (pe_bm PySem.F.plainAttrs_list PySem.F.slot_list_pop PySem.F.type_list_pop mt_popAt (pv 2) (pa_cons (pe_call cN.ok (hr.mono (by decide)) rfl cN.mg cN.kp cN.bd .nil pass0 (pa_cons (pv 0) (pa_cons (pe_callB call_len_seq (by rfl) T.z_len PySem.boot_len (pa_cons (pv 2) pa_nil)) pa_nil))) pa_nil)) pa_nil))))) (pss_one (ps_ret (pv 3)))))), ?_⟩
  refine ⟨by show 14 ≤ sizeLine; decide, fun a ha => ?_⟩
  refine ⟨Nat.zero_le _, fun r hr' => ?_⟩
  obtain ⟨nra, hr0⟩ := none_upd hr'
  have npa := src_ne hp ha
  have npr := src_ne hp hr0
  refine ⟨_, rfl, _, rfl, ?_, ?_, for_range (n := m) (fun i σ H' => ∃ (o : Option V) (xs ys : List Str), σ = [some (.ref p), some (.int (m : Int)), some (.ref a), some (.ref r), o] ∧ Src H' p ∧ Kept p H H' ∧ H' a = some (.lst (ys.map .str)) ∧ H' r = some (.lst (xs.map .str)) ∧ (xs ++ ys).Perm menu ∧ xs.length = i)
    ⟨none, [], menu, rfl, src_new (src_new hp ha) hr', ((Kept.refl p H).new ha _).new hr' _, by rw [upd_ne nra.symm]; exact upd_same, upd_same, List.Perm.refl _, rfl⟩ ?_ ?_⟩
  · omega
  · omega
  · rintro i σ H1 hi ⟨o, xs, ys, rfl, hs, k1, ea, er, hperm, hlen⟩
    have l14 : (xs ++ ys).length = 14 := hperm.length_eq
    rw [List.length_append] at l14
    have yl : (ys.map V.str).length = ys.length := List.length_map _
    refine ⟨_, rfl, .inl ⟨rfl, _, SqL.of er⟩, _, rfl, .inl ⟨rfl, _, SqL.of ea⟩, _, rfl, _, rfl, a, _, rfl, .inl (SqL.of ea), p, (ys.map V.str).length, rfl, hs, by omega, by omega, fun k H2 hk hs2 kk => ?_⟩
    have ea2 := kk a _ npa.symm ea
    have er2 := kk r _ npr.symm er
    have hk' : k < ys.length := by omega
    have hy : (ys.map V.str)[k]? = some (V.str ys[k]) := by rw [List.getElem?_map, List.getElem?_eq_getElem hk']; rfl
    refine ⟨a, _, (k : Int), k, V.str ys[k], rfl, rfl, ea2, by omega, by omega, seq_nat (by omega), hy, r, _, _, rfl, rfl, (upd_ne nra).trans er2, ?_, ?_⟩
    · rw [List.length_map]
      exact small1000 (by omega)
    · refine ⟨_, xs ++ [ys[k]], ys.eraseIdx k, rfl, src_upd (src_upd hs2 npa) npr, ?_, ?_, ?_, ?_, ?_⟩
      · intro b2 o2 hb e
        have e1 := k1 b2 o2 hb e
        have e2 := kk b2 o2 hb e1
        rw [upd_ne (ne_of_none e hr0), upd_ne (ne_of_none e ha)]
        exact e2
      · rw [upd_ne nra.symm, upd_same, map_erase]
      · rw [upd_same, List.map_append]
        rfl
      · refine List.Perm.trans ?_ hperm
        rw [List.append_assoc]
        exact (List.perm_append_left_iff xs).mpr (perm_erase ys k hk')
      · rw [List.length_append, hlen]
        rfl
  · rintro σ H1 ⟨o, xs, ys, rfl, hs, k1, ea, er, hperm, hlen⟩
    have nd : (xs ++ ys).Nodup := hperm.nodup_iff.mpr (by decide +kernel)
    exact ⟨_, rfl, q r H1 xs hr0 er (List.nodup_append.mp nd).1 (fun x hx => hperm.mem_iff.mp (List.mem_append_left _ hx)) hlen hs k1⟩

theorem big_pow : 10 ^ 13 < 2 ^ 3000 := by decide +kernel
theorem amt_val {x : Str} {n d : Nat} (hx : x ∈ (["min", "low", "burst", "max", "quota", "tops"] : List Str)) (h : AmtOk n d) : ValOk x (.tuple [.int n, .int d]) ∧ (PyData.tuple [.int n, .int d]) ≠ bigD := by
  obtain ⟨h1, h2, h3, h4⟩ := h
  refine ⟨.amt hx (Nat.lt_of_le_of_lt h3 (big_pow)) h1 (Nat.lt_of_le_of_lt h4 big_pow) h2, fun e => ?_⟩
  unfold bigD at e
  injection e with e
  injection e with e _
  injection e with e
  omega
theorem amt_dp {H : Hp} {v : V} {n d : Nat} (h : AmtAt H v n d) : Dp K H v (.tuple [.int n, .int d]) := by
  obtain ⟨p, rfl, h⟩ := h
  exact .tup (SqT.of h) (.cons (.int _) (.cons (.int _) .nil))
theorem ok_value {f g e c : Addr} {fd gd ed cd : FuncData} (F : Fun K "_law_value" "_law_value" sValue2 f fd) (cN : Cal P w K mg base "_law_next" ["_law_source_here", "_law_many"] 2 spNext g gd) (cA : Cal P w K mg base "_law_amount" ["_law_source_here"] 3 spAmount e ed)
    (cO : Cal P w K mg base "_law_one" ["_law_source_here", "_law_things"] 3 (spOne K) c cd) : FnOk P w K mg base CX0 4 f fd ["_law_source_here", "_law_word"] (spValue K) := by
  refine F.ok scValue2 (fun vs H Q E h => ?_) (fun cdv A outer s H vs Q E hr h => ?_)
  · obtain ⟨p, m, rfl, _⟩ := h
    rfl
  obtain ⟨p, x, rfl, hp, hx, q⟩ := h
  have amt : ∀ H1, Src H1 p → Kept p H H1 → x ∈ (["min", "low", "burst", "max", "quota", "tops"] : List Str) → spAmount [.ref p] H1 Q E0 := fun H1 h1 k1 hx => ⟨p, rfl, h1, fun v n d H2 ok at_ s2 k2 => q v _ H2 (amt_val hx ok).1 (amt_val hx ok).2 (amt_dp at_) s2 (k1.trans k2)⟩
  refine ⟨_, (pss_cons (ps_if (pt_cmpR op_in_seq (pv 1) (pe_tup (pa_cons pe_str (pa_cons pe_str (pa_cons pe_str pa_nil)))) (by first | exact nomark _ | rfl)) (pss_one (ps_ret (pe_call cA.ok (hr.mono (by decide)) rfl cA.mg cA.kp cA.bd .nil pass0 (pa_cons (pv 0) pa_nil)))) pss_nil) (pss_cons (ps_if (pt_cmpR op_in_seq (pv 1) (pe_tup (pa_cons pe_str (pa_cons pe_str (pa_cons pe_str pa_nil)))) (by first | exact nomark _ | rfl)) (pss_one (ps_ret (pe_ifExp (pt_cmpR op_eq (pe_call cN.ok (hr.mono (by decide)) rfl cN.mg cN.kp cN.bd .nil pass0 (pa_cons (pv 0) (pa_cons pe_int pa_nil))) pe_int (nomark _)) pe_str (pe_call cA.ok (hr.mono (by decide)) rfl cA.mg cA.kp cA.bd .nil pass0 (pa_cons (pv 0) pa_nil))))) pss_nil) (pss_cons (ps_if (pt_cmpR op_eq (pv 1) pe_str (nomark _)) (pss_one (ps_ret (pe_call cO.ok (hr.mono (by decide)) rfl cO.mg cO.kp cO.bd .nil pass0 (pa_cons (pv 0) (pa_cons (pe_lst (pa_cons pe_non (pa_cons (pe_tup pa_nil) (pa_cons (pe_tup (pa_cons pe_int pa_nil)) (pa_cons (pe_tup (pa_cons pe_int pa_nil)) (pa_cons (pe_tup (pa_cons pe_int (pa_cons pe_int (pa_cons pe_int pa_nil)))) pa_nil)))))) pa_nil))))) pss_nil) (pss_one (ps_ret (pe_call cN.ok (hr.mono (by decide)) rfl cN.mg cN.kp cN.bd .nil pass0 (pa_cons (pv 0) (pa_cons pe_int pa_nil)))))))), ?_⟩
  refine ⟨_, rfl, by show 3 ≤ sizeLine; decide, fun a ha => ⟨a, _, rfl, .inr (SqT.of upd_same), rfl, rfl, ?_⟩⟩
  have s1 := src_new (o := .tup [.str "min", .str "low", .str "burst"]) hp ha
  have k1 := (Kept.refl p H).new ha (.tup [.str "min", .str "low", .str "burst"])
  simp only [leftW, List.mem_cons, List.not_mem_nil, or_false] at hx
  have no1 : ∀ {G : Prop}, True → G → G := fun _ g => g
  have ints_ok : ∀ {H1 : Hp} {t : Addr} {xs : List Int}, x = "sets" → RiseOk (-1) xs → xs.length ≤ 64 → xs.length ≠ 2 → SqT K H1 t (xs.map V.int) → Src H1 p → Kept p H H1 → Q (.ref t) H1 := fun {H1 t xs} hx h1 h2 h3 h4 h5 h6 => by
    subst hx
    refine q _ (.tuple (xs.map .int)) H1 (.set h1 h2) (fun e => ?_) (.tup h4 (dp_ofints xs)) h5 h6
    unfold bigD at e
    injection e with e
    have := congrArg List.length e
    rw [List.length_map] at this
    exact h3 this
  rcases hx with rfl | rfl | rfl | rfl | rfl | rfl | rfl | rfl
  · exact ⟨true, congrArg V.bl (by decide +kernel), iteT ⟨_, rfl, amt _ s1 k1 (by decide +kernel)⟩⟩
  · exact ⟨true, congrArg V.bl (by decide +kernel), iteT ⟨_, rfl, amt _ s1 k1 (by decide +kernel)⟩⟩
  iterate 2
    · refine ⟨false, congrArg V.bl (by decide +kernel), iteF ?_⟩
      refine ⟨_, rfl, by show 3 ≤ sizeLine; decide, fun a2 ha2 => ⟨a2, _, rfl, .inr (SqT.of upd_same), rfl, rfl, true, congrArg V.bl (by decide +kernel), iteT ?_⟩⟩
      refine ⟨_, rfl, p, 3, rfl, src_new s1 ha2, by decide, by decide, fun v H3 hv s3 k3 => ⟨rfl, _, rfl, ?_⟩⟩
      have k4 := (k1.new ha2 (.tup [.str "max", .str "quota", .str "tops"])).trans k3
      refine ite2 (fun _ => ?_) (fun _ => ?_)
      · exact q _ (.str "endless") H3 (.endl (by decide +kernel)) (fun e => by cases e) (.str _) s3 k4
      · exact ⟨_, rfl, amt _ s3 k4 (by decide +kernel)⟩
  · exact ⟨true, congrArg V.bl (by decide +kernel), iteT ⟨_, rfl, amt _ s1 k1 (by decide +kernel)⟩⟩
  · refine ⟨false, congrArg V.bl (by decide +kernel), iteF ?_⟩
    refine ⟨_, rfl, by show 3 ≤ sizeLine; decide, fun a2 ha2 => ⟨a2, _, rfl, .inr (SqT.of upd_same), rfl, rfl, true, congrArg V.bl (by decide +kernel), iteT ?_⟩⟩
    refine ⟨_, rfl, p, 3, rfl, src_new s1 ha2, by decide, by decide, fun v H3 hv s3 k3 => ⟨rfl, _, rfl, ?_⟩⟩
    have k4 := (k1.new ha2 (.tup [.str "max", .str "quota", .str "tops"])).trans k3
    refine ite2 (fun _ => ?_) (fun _ => ?_)
    · exact q _ (.str "endless") H3 (.endl (by decide +kernel)) (fun e => by cases e) (.str _) s3 k4
    · exact ⟨_, rfl, amt _ s3 k4 (by decide +kernel)⟩
  · refine ⟨false, congrArg V.bl (by decide +kernel), iteF ?_⟩
    refine ⟨_, rfl, by show 3 ≤ sizeLine; decide, fun a2 ha2 => ⟨a2, _, rfl, .inr (SqT.of upd_same), rfl, rfl, false, congrArg V.bl (by decide +kernel), iteF ?_⟩⟩
    have s2 := src_new (o := .tup [.str "max", .str "quota", .str "tops"]) s1 ha2
    have k2 := k1.new ha2 (.tup [.str "max", .str "quota", .str "tops"])
    refine ⟨_, rfl, rfl, _, rfl, ifT (by decide +kernel) ?_⟩
    refine ⟨_, rfl, Nat.zero_le _, fun t0 h0 => ⟨by show 1 ≤ sizeLine; decide, fun t1 h1 => ⟨by show 1 ≤ sizeLine; decide, fun t2 h2 => ⟨by show 3 ≤ sizeLine; decide, fun t3 h3 => ⟨by show 5 ≤ sizeLine; decide, fun l hl => ?_⟩⟩⟩⟩⟩
    have s7 := src_new (o := .lst [.non, .ref t0, .ref t1, .ref t2, .ref t3]) (src_new (o := .tup [.int 1, .int 5, .int 40]) (src_new (o := .tup [.int 63]) (src_new (o := .tup [.int 0]) (src_new (o := .tup []) s2 h0) h1) h2) h3) hl
    have k7 := ((((k2.new h0 (.tup [])).new h1 (.tup [.int 0])).new h2 (.tup [.int 63])).new h3 (.tup [.int 1, .int 5, .int 40])).new hl (.lst [.non, .ref t0, .ref t1, .ref t2, .ref t3])
    obtain ⟨nl3, hl3⟩ := none_upd hl
    obtain ⟨nl2, hl2⟩ := none_upd hl3
    obtain ⟨nl1, hl1⟩ := none_upd hl2
    obtain ⟨nl0, hl0⟩ := none_upd hl1
    obtain ⟨n32, h32⟩ := none_upd h3
    obtain ⟨n31, h31⟩ := none_upd h32
    obtain ⟨n30, h30⟩ := none_upd h31
    obtain ⟨n21, h21⟩ := none_upd h2
    obtain ⟨n20, h20⟩ := none_upd h21
    obtain ⟨n10, h10⟩ := none_upd h1
    have np0 := src_ne s2 h0
    have np1 := src_ne s2 h10
    have np2 := src_ne s2 h20
    have np3 := src_ne s2 h30
    refine ⟨p, l, _, rfl, s7, SqL.of upd_same, (src_ne s2 hl0).symm, by simp, by show 5 ≤ 1000; decide, fun v H4 hv s4 k4 => ?_⟩
    have kk := k7.trans k4
    simp only [List.mem_cons, List.not_mem_nil, or_false] at hv
    rcases hv with rfl | rfl | rfl | rfl | rfl
    · exact q _ .none H4 .none (fun e => by cases e) .non s4 kk
    · refine ints_ok (xs := []) rfl trivial (by decide) (by decide) (SqT.of (k4 t0 _ np0.symm ?_)) s4 kk
      rw [upd_ne nl0.symm, upd_ne n30.symm, upd_ne n20.symm, upd_ne n10.symm]
      exact upd_same
    · refine ints_ok (xs := [0]) rfl ⟨by decide, by decide, trivial⟩ (by decide) (by decide) (SqT.of (k4 t1 _ np1.symm ?_)) s4 kk
      rw [upd_ne nl1.symm, upd_ne n31.symm, upd_ne n21.symm]
      exact upd_same
    · refine ints_ok (xs := [63]) rfl ⟨by decide, by decide, trivial⟩ (by decide) (by decide) (SqT.of (k4 t2 _ np2.symm ?_)) s4 kk
      rw [upd_ne nl2.symm, upd_ne n32.symm]
      exact upd_same
    · refine ints_ok (xs := [1, 5, 40]) rfl ⟨by decide, by decide, by decide, by decide, by decide, by decide, trivial⟩ (by decide) (by decide) (SqT.of (k4 t3 _ np3.symm ?_)) s4 kk
      rw [upd_ne nl3.symm]
      exact upd_same
  · refine ⟨false, congrArg V.bl (by decide +kernel), iteF ?_⟩
    refine ⟨_, rfl, by show 3 ≤ sizeLine; decide, fun a2 ha2 => ⟨a2, _, rfl, .inr (SqT.of upd_same), rfl, rfl, false, congrArg V.bl (by decide +kernel), iteF ?_⟩⟩
    refine ⟨_, rfl, rfl, _, rfl, ifF (by decide +kernel) ?_⟩
    refine ⟨_, rfl, p, 2, rfl, src_new s1 ha2, by decide, by decide, fun v H3 hv s3 k3 => ?_⟩
    have k4 := (k1.new ha2 (.tup [.str "max", .str "quota", .str "tops"])).trans k3
    exact q _ (.int (v : Int)) H3 (.alone (by omega)) (fun e => by cases e) (.int _) s3 k4

end
end Bd
end

section
namespace Bd
open PySem L2
abbrev sRows2 : Stmt := (top 46)
theorem scRows2 : FnScope ["_law_source_here", "_law_many", "_law_words_here", "_law_names_here", "_law_found", "_law_at", "_law_name", "_law_way", "_law_above", "_law_dues", "_law_spot", "_law_word"] ["_law_source_here", "_law_many", "_law_words_here"] (defScope sRows2) := ⟨rfl, rfl, rfl, by decide +kernel, rfl, by decide +kernel, by decide +kernel⟩
abbrev sLeaves2 : Stmt := (top 47)
theorem scLeaves2 : FnScope ["_law_rows_here", "_law_above", "_law_row"] ["_law_rows_here"] (defScope sLeaves2) := ⟨rfl, rfl, rfl, by decide +kernel, rfl, by decide +kernel, by decide +kernel⟩

def Plain (rows : List RowM) : Prop := ∀ (i : Nat) (r : RowM), rows[i]? = some r → r.dues = [] ∧ (r.above = ("" : Str) ∨ ∃ q ∈ rows.take i, q.name = r.above)
def spRows2 (K : PySem.W.Frag) : Sp := fun vs H Q _ => ∃ (s wl : Addr) (m : Nat), vs = [.ref s, .int (m : Int), .ref wl] ∧ Src H s ∧ m ≤ 12 ∧ H wl = some (.lst []) ∧ wl ≠ s ∧
  ∀ r H' vs rows, H r = none → H' r = some (.lst vs) → Paired (RowAt K H') vs rows → Plain rows → (rows.map (·.name)).Nodup → (∀ x ∈ rows.map (·.name), x ∈ menu) → rows.length = m → Src H' s → Kept s H H' → Q (.ref r) H'
section
variable {P : Program} {w : World} {K : PySem.W.Frag} {mg : Str → Option Value} {base : Heap}
theorem plain_snoc {rows : List RowM} {r : RowM} (h : Plain rows) (h1 : r.dues = []) (h2 : r.above = ("" : Str) ∨ ∃ q ∈ rows, q.name = r.above) : Plain (rows ++ [r]) := by
  intro i q e
  by_cases c : i < rows.length
  · rw [List.getElem?_append_left c] at e
    rw [List.take_append_of_le_length (Nat.le_of_lt c)]
    exact h i q e
  · rw [List.getElem?_append_right (by omega)] at e
    have z : i - rows.length = 0 := by
      cases hz : i - rows.length with
      | zero => rfl
      | succ k =>
        rw [hz] at e
        cases e
    rw [z] at e
    cases Option.some.inj e
    have : i = rows.length := by omega
    rw [this, List.take_left]
    exact ⟨h1, h2⟩
theorem plain_ok {rows : List RowM} (h : Plain rows) : ∀ r ∈ rows, DuesOk r.dues := fun r hr => by
  obtain ⟨m, hm⟩ := List.mem_iff_getElem?.mp hr
  rw [(h m r hm).1]
  exact ⟨List.nodup_nil, fun _ h => nomatch h⟩
theorem ok_rows2 {f g e : Addr} {fd gd ed : FuncData} (F : Fun K "_law_rows" "_law_rows" sRows2 f fd) (T : TA mg) (cN : Cal P w K mg base "_law_next" ["_law_source_here", "_law_many"] 2 spNext g gd) (cM : Cal P w K mg base "_law_names" ["_law_source_here", "_law_many"] 3 spNames2 e ed) :
    FnOk P w K mg base CX0 4 f fd ["_law_source_here", "_law_many", "_law_words_here"] (spRows2 K) := by
  refine F.ok scRows2 (fun vs H Q E h => ?_) (fun cdv A outer s H vs Q E hr h => ?_)
  · obtain ⟨p, wl, m, rfl, _⟩ := h
    rfl
  obtain ⟨p, wl, m, rfl, hp, hm, hwl, nwl, q⟩ := h
  refine ⟨_, (pss_cons (ps_par (i := 3) (j := 4) (by rfl) scRows2.nd rfl rfl (by decide) rfl rfl (pa_cons (pe_call cM.ok (hr.mono (by decide)) rfl cM.mg cM.kp cM.bd .nil pass0 (pa_cons (pv 0) (pa_cons (pv 1) pa_nil))) (pa_cons (pe_lst pa_nil) pa_nil)) (by rfl)) (pss_cons (ps_for PassesOwn.never rfl (pi_enum (by rfl) T.z_enumerate (pa_cons (pv 3) pa_nil)) (pg_tup (by rfl) (pgs_cons (pg_name (i := 5) scRows2.nd rfl (Or.inl rfl)) (pgs_cons (pg_name (i := 6) scRows2.nd rfl (Or.inl rfl)) pgs_nil))) (pss_cons (ps_set (i := 7) scRows2.nd rfl (Or.inl rfl) (pe_call cN.ok (hr.mono (by decide)) rfl cN.mg cN.kp cN.bd .nil pass0 (pa_cons (pv 0) (pa_cons pe_int pa_nil)))) (pss_cons (ps_par (i := 8) (j := 9) (by rfl) scRows2.nd rfl rfl (by decide) rfl rfl (pa_cons pe_str (pa_cons (pe_lst pa_nil) pa_nil)) (by rfl)) (pss_cons (ps_if (PW.pt (pw_and (pt_cmpR op_gt (pv 5) pe_int (nomark _)) (pw_and1 (pt_cmpR op_gt (pv 7) pe_int (nomark _))))) (pss_cons (ps_set (i := 10) scRows2.nd rfl (Or.inl rfl) (pe_ifExp (pt_cmpR op_eq (pv 7) pe_int (nomark _)) (pe_op op_sub (pv 5) pe_int) (pe_call cN.ok (hr.mono (by decide)) rfl cN.mg cN.kp cN.bd .nil pass0 (pa_cons (pv 0) (pa_cons (pv 5) pa_nil))))) (pss_one (ps_set (i := 8) scRows2.nd rfl (Or.inl rfl) (pe_ix ix_list (pv 3) (pv 10) (fun _ _ => rfl))))) pss_nil) (pss_cons (ps_for PassesOwn.never rfl (pi_list (pv 2)) (pg_name (i := 11) scRows2.nd rfl (Or.inl rfl)) (pss_one ps_never)) (pss_one (ps_expr (pe_bm PySem.F.plainAttrs_list PySem.F.slot_list_append PySem.F.type_list_append mt_append (pv 4) (pa_cons (pe_tup (pa_cons (pv 6) (pa_cons (pv 8) (pa_cons (pe_callTy call_tupleF (by rfl) T.z_tuple (by decide +kernel) (pa_cons (pv 9) pa_nil)) pa_nil)))) pa_nil))))))))) (pss_one (ps_ret (pv 4))))), ?_⟩
  refine ⟨_, rfl, _, rfl, p, m, rfl, hp, hm, fun nl H1 xs hnl enl hnd hmem hxl s1 k1 => ?_⟩
  refine ⟨Nat.zero_le _, fun fl hfl => ⟨_, _, rfl, ?_⟩⟩
  have npf := src_ne s1 hfl
  have nfl : H fl = none := k1.free npf.symm hfl
  have npn := src_ne hp hnl
  have nnf : nl ≠ fl := ne_of_none enl hfl
  have nwf : wl ≠ fl := ne_of_none hwl nfl
  refine ⟨_, rfl, nl, xs.map V.str, rfl, SqL.of (by rw [upd_ne nnf]; exact enl), for_it (walk_enum (xs := xs.map V.str)) (fun i σ H' => ∃ (o5 o6 o7 o8 o9 o10 o11 : Option V) (vs : List V) (rows : List RowM), σ = [some (.ref p), some (.int (m : Int)), some (.ref wl), some (.ref nl), some (.ref fl), o5, o6, o7, o8, o9, o10, o11] ∧
      Src H' p ∧ Kept p H H' ∧ H' nl = some (.lst (xs.map V.str)) ∧ H' fl = some (.lst vs) ∧ Paired (RowAt K H') vs rows ∧ rows.map (·.name) = xs.take i ∧ Plain rows)
    ⟨none, none, none, none, none, none, none, [], [], rfl, src_new s1 hfl, k1.new hfl _, by rw [upd_ne nnf]; exact enl, upd_same, .nil, rfl, fun i r e => by simp at e⟩ ?_ ?_ ?_⟩
  · rintro i σ H' _ ⟨_, _, _, _, _, _, _, _, _, _, _, _, e, _⟩
    exact SqL.of e
  · rintro i v σ H2 H3 hi ⟨o5, o6, o7, o8, o9, o10, o11, vs, rows, rfl, s2, k2, en2, ef2, hpr, hnm, hpl⟩ ⟨TT, x, y, rfl, hTT, rfl, hx, hy⟩
    have hx' : x = .int (i : Nat) := (Option.some.inj hx).symm
    subst hx'
    rw [List.length_map] at hi
    obtain ⟨nm, rfl, hnm2⟩ : ∃ nm, y = .str nm ∧ xs[i]? = some nm := by
      have hy : (xs.map V.str)[i]? = some y := hy
      rw [List.getElem?_map] at hy
      obtain ⟨a, b, c⟩ := Option.map_eq_some_iff.mp hy
      exact ⟨a, c.symm, b⟩
    refine ⟨TT, _, rfl, SqT.of upd_same, rfl, _, _, rfl, _, _, rfl, rfl, ?_⟩
    have s3 := src_new (o := .tup [.int (i : Nat), .str nm]) s2 hTT
    have k3 := k2.new hTT (.tup [.int (i : Nat), .str nm])
    have tk3 : TK H2 (upd H2 TT (.tup [.int (i : Nat), .str nm])) := TK.new hTT _
    have nTn := ne_of_none en2 hTT
    have nTf := ne_of_none ef2 hTT
    refine ⟨_, rfl, p, 3, rfl, s3, by decide, by decide, fun way H4 hway s4 k4 => ?_⟩
    refine ⟨Nat.zero_le _, fun d hd => ⟨_, _, rfl, ?_⟩⟩
    have en4 := k4 nl _ npn.symm ((upd_ne nTn).trans en2)
    have ef4 := k4 fl _ npf.symm ((upd_ne nTf).trans ef2)
    have npd := src_ne s4 hd
    have s5 := src_new (o := .lst []) s4 hd
    have k5 := (k3.trans k4).new hd (.lst [])
    have n_n_d := ne_of_none en4 hd
    have n_f_d := ne_of_none ef4 hd
    have en5 : upd H4 d (.lst []) nl = some (.lst (xs.map V.str)) := (upd_ne n_n_d).trans en4
    have ef5 : upd H4 d (.lst []) fl = some (.lst vs) := (upd_ne n_f_d).trans ef4
    have tk5 : TK H2 (upd H4 d (.lst [])) := (tk3.trans (let ⟨_, _, _, z⟩ := s3; TK.kept z k4)).trans (TK.new hd _)
    have ed5 : upd H4 d (.lst []) d = some (.lst []) := upd_same
    have ew5 : upd H4 d (.lst []) wl = some (.lst []) := k5 wl _ nwl hwl
    have rl : rows.length ≤ 12 := by
      have := congrArg List.length hnm
      rw [List.length_map, List.length_take] at this
      omega
    have vl : vs.length = rows.length := Paired.length hpr
    have below : ∀ j, j < i → ∃ a, xs[j]? = some a ∧ ∃ q ∈ rows, q.name = a := fun j hj => by
      have hjx : j < xs.length := by omega
      refine ⟨xs[j], List.getElem?_eq_getElem hjx, ?_⟩
      have hm : xs[j] ∈ rows.map (·.name) := by
        rw [hnm]
        have : (xs.take i)[j]? = some xs[j] := by
          rw [List.getElem?_take_of_lt hj, List.getElem?_eq_getElem hjx]
        exact List.mem_of_getElem? this
      obtain ⟨q, hq, e⟩ := List.mem_map.mp hm
      exact ⟨q, hq, e⟩
    refine ⟨_, rfl, _, _, rfl, rfl, _, rfl, ?_⟩
    refine ite2 (fun c1 => ?_) (fun c1 => ?_)
    · have c1' : (0 : Int) < (i : Int) := of_decide_eq_true c1
      refine ⟨_, rfl, _, _, rfl, rfl, _, rfl, ?_⟩
      refine ite2 (fun c2 => ?_) (fun c2 => ?_)
      · refine ⟨_, rfl, rfl, _, rfl, ite2 (fun c3 => ?_) (fun c3 => ?_)⟩
        · refine ⟨_, rfl, _, _, rfl, rfl, ?_⟩
          obtain ⟨ab, hab, habR⟩ := below (i - 1) (by omega)
          refine ⟨_, rfl, _, rfl, nl, _, _, .str ab, rfl, rfl, SqL.of en5, at_of (j := i - 1) (by show (i : Int) - 1 = ((i - 1 : Nat) : Int); omega) (by rw [List.getElem?_map, hab]; rfl), ?_⟩
          have hsR := s5
          have kR := k5
          have enR := en5
          have efR := ef5
          have edR := ed5
          have ewR := ew5
          have tkR := tk5
          have habR : ab = "" ∨ ∃ q ∈ rows, q.name = ab := .inr habR
          refine ⟨_, rfl, wl, rfl, ⟨_, SqL.of ewR⟩, for_list (xs := []) (fun _ σ' H' => σ' = _ ∧ H' = _) ⟨rfl, rfl⟩ (fun _ _ _ _ ⟨_, e⟩ => by rw [e]; exact SqL.of ewR) (fun i x _ _ hx => by simp at hx) ?_⟩
          rintro _ _ ⟨rfl, rfl⟩
          refine ⟨_, rfl, .inl ⟨rfl, _, SqL.of efR⟩, _, rfl, _, rfl, _, rfl, d, [], rfl, SqL.of edR, fun t o ht ho => ⟨by show 3 ≤ sizeLine; decide, fun ra hra => ?_⟩⟩
          obtain ⟨nrt, hra2⟩ := none_upd hra
          have n_ft := ne_of_none efR ht
          have n_fr := ne_of_none efR hra2
          have n_pt := src_ne hsR ht
          have n_pr := src_ne hsR hra2
          have n_nt := ne_of_none enR ht
          have n_nr := ne_of_none enR hra2
          refine ⟨fl, _, _, rfl, rfl, (upd_ne n_fr).trans ((upd_ne n_ft).trans efR), small1000 (by omega), ?_⟩
          have tkZ := ((tkR.trans (TK.new ht (.frz o (.tup [])))).trans (TK.new hra (.tup [.str nm, .str ab, .ref t]))).trans (TK.lst ((upd_ne n_fr).trans ((upd_ne n_ft).trans efR)) (.lst (vs ++ [.ref ra])))
          refine ⟨_, _, _, _, _, _, _, vs ++ [.ref ra], rows ++ [⟨nm, ab, []⟩], rfl, src_upd (src_new (src_new hsR ht) hra) npf, ?_, (upd_ne nnf).trans ((upd_ne n_nr).trans ((upd_ne n_nt).trans enR)), upd_same, paired_snoc ?_ (paired_monoM (fun v q hq z => tkZ.row (plain_ok hpl q hq) z) hpr), ?_, plain_snoc hpl rfl habR⟩
          · intro b2 o2 hb e
            have z := kR b2 o2 hb e
            rw [upd_ne (ne_of_none e nfl), upd_ne (ne_of_none z hra2), upd_ne (ne_of_none z ht)]
            exact z
          · refine ⟨ra, t, rfl, SqT.of ?_, [], ⟨o, ho, ?_⟩, .nil⟩
            · rw [upd_ne n_fr.symm]
              exact upd_same
            · rw [upd_ne n_ft.symm, upd_ne nrt.symm]
              exact upd_same
          · rw [List.map_append, hnm, List.take_add_one, hnm2]
            rfl
        · refine ⟨_, rfl, _, rfl, p, i, rfl, s5, by omega, by omega, fun sp H6 hsp s6 k6 => ?_⟩
          obtain ⟨ab, hab, habR⟩ := below sp hsp
          have enR := k6 nl _ npn.symm en5
          refine ⟨_, rfl, _, rfl, nl, _, _, .str ab, rfl, rfl, SqL.of enR, at_of (j := sp) rfl (by rw [List.getElem?_map, hab]; rfl), ?_⟩
          have hsR := s6
          have kR := k5.trans k6
          have efR := k6 fl _ npf.symm ef5
          have edR := k6 d _ npd.symm ed5
          have ewR := k6 wl _ nwl ew5
          have tkR := tk5.trans (let ⟨_, _, _, z⟩ := s5; TK.kept z k6)
          have habR : ab = "" ∨ ∃ q ∈ rows, q.name = ab := .inr habR
          refine ⟨_, rfl, wl, rfl, ⟨_, SqL.of ewR⟩, for_list (xs := []) (fun _ σ' H' => σ' = _ ∧ H' = _) ⟨rfl, rfl⟩ (fun _ _ _ _ ⟨_, e⟩ => by rw [e]; exact SqL.of ewR) (fun i x _ _ hx => by simp at hx) ?_⟩
          rintro _ _ ⟨rfl, rfl⟩
          refine ⟨_, rfl, .inl ⟨rfl, _, SqL.of efR⟩, _, rfl, _, rfl, _, rfl, d, [], rfl, SqL.of edR, fun t o ht ho => ⟨by show 3 ≤ sizeLine; decide, fun ra hra => ?_⟩⟩
          obtain ⟨nrt, hra2⟩ := none_upd hra
          have n_ft := ne_of_none efR ht
          have n_fr := ne_of_none efR hra2
          have n_pt := src_ne hsR ht
          have n_pr := src_ne hsR hra2
          have n_nt := ne_of_none enR ht
          have n_nr := ne_of_none enR hra2
          refine ⟨fl, _, _, rfl, rfl, (upd_ne n_fr).trans ((upd_ne n_ft).trans efR), small1000 (by omega), ?_⟩
          have tkZ := ((tkR.trans (TK.new ht (.frz o (.tup [])))).trans (TK.new hra (.tup [.str nm, .str ab, .ref t]))).trans (TK.lst ((upd_ne n_fr).trans ((upd_ne n_ft).trans efR)) (.lst (vs ++ [.ref ra])))
          refine ⟨_, _, _, _, _, _, _, vs ++ [.ref ra], rows ++ [⟨nm, ab, []⟩], rfl, src_upd (src_new (src_new hsR ht) hra) npf, ?_, (upd_ne nnf).trans ((upd_ne n_nr).trans ((upd_ne n_nt).trans enR)), upd_same, paired_snoc ?_ (paired_monoM (fun v q hq z => tkZ.row (plain_ok hpl q hq) z) hpr), ?_, plain_snoc hpl rfl habR⟩
          · intro b2 o2 hb e
            have z := kR b2 o2 hb e
            rw [upd_ne (ne_of_none e nfl), upd_ne (ne_of_none z hra2), upd_ne (ne_of_none z ht)]
            exact z
          · refine ⟨ra, t, rfl, SqT.of ?_, [], ⟨o, ho, ?_⟩, .nil⟩
            · rw [upd_ne n_fr.symm]
              exact upd_same
            · rw [upd_ne n_ft.symm, upd_ne nrt.symm]
              exact upd_same
          · rw [List.map_append, hnm, List.take_add_one, hnm2]
            rfl
      · have hsR := s5
        have kR := k5
        have enR := en5
        have efR := ef5
        have edR := ed5
        have ewR := ew5
        have tkR := tk5
        have habR : ("" : Str) = "" ∨ ∃ q ∈ rows, q.name = ("" : Str) := .inl rfl
        refine ⟨_, rfl, wl, rfl, ⟨_, SqL.of ewR⟩, for_list (xs := []) (fun _ σ' H' => σ' = _ ∧ H' = _) ⟨rfl, rfl⟩ (fun _ _ _ _ ⟨_, e⟩ => by rw [e]; exact SqL.of ewR) (fun i x _ _ hx => by simp at hx) ?_⟩
        rintro _ _ ⟨rfl, rfl⟩
        refine ⟨_, rfl, .inl ⟨rfl, _, SqL.of efR⟩, _, rfl, _, rfl, _, rfl, d, [], rfl, SqL.of edR, fun t o ht ho => ⟨by show 3 ≤ sizeLine; decide, fun ra hra => ?_⟩⟩
        obtain ⟨nrt, hra2⟩ := none_upd hra
        have n_ft := ne_of_none efR ht
        have n_fr := ne_of_none efR hra2
        have n_pt := src_ne hsR ht
        have n_pr := src_ne hsR hra2
        have n_nt := ne_of_none enR ht
        have n_nr := ne_of_none enR hra2
        refine ⟨fl, _, _, rfl, rfl, (upd_ne n_fr).trans ((upd_ne n_ft).trans efR), small1000 (by omega), ?_⟩
        have tkZ := ((tkR.trans (TK.new ht (.frz o (.tup [])))).trans (TK.new hra (.tup [.str nm, .str ("" : Str), .ref t]))).trans (TK.lst ((upd_ne n_fr).trans ((upd_ne n_ft).trans efR)) (.lst (vs ++ [.ref ra])))
        refine ⟨_, _, _, _, _, _, _, vs ++ [.ref ra], rows ++ [⟨nm, ("" : Str), []⟩], rfl, src_upd (src_new (src_new hsR ht) hra) npf, ?_, (upd_ne nnf).trans ((upd_ne n_nr).trans ((upd_ne n_nt).trans enR)), upd_same, paired_snoc ?_ (paired_monoM (fun v q hq z => tkZ.row (plain_ok hpl q hq) z) hpr), ?_, plain_snoc hpl rfl habR⟩
        · intro b2 o2 hb e
          have z := kR b2 o2 hb e
          rw [upd_ne (ne_of_none e nfl), upd_ne (ne_of_none z hra2), upd_ne (ne_of_none z ht)]
          exact z
        · refine ⟨ra, t, rfl, SqT.of ?_, [], ⟨o, ho, ?_⟩, .nil⟩
          · rw [upd_ne n_fr.symm]
            exact upd_same
          · rw [upd_ne n_ft.symm, upd_ne nrt.symm]
            exact upd_same
        · rw [List.map_append, hnm, List.take_add_one, hnm2]
          rfl
    · refine iteF ?_
      have hsR := s5
      have kR := k5
      have enR := en5
      have efR := ef5
      have edR := ed5
      have ewR := ew5
      have tkR := tk5
      have habR : ("" : Str) = "" ∨ ∃ q ∈ rows, q.name = ("" : Str) := .inl rfl
      refine ⟨_, rfl, wl, rfl, ⟨_, SqL.of ewR⟩, for_list (xs := []) (fun _ σ' H' => σ' = _ ∧ H' = _) ⟨rfl, rfl⟩ (fun _ _ _ _ ⟨_, e⟩ => by rw [e]; exact SqL.of ewR) (fun i x _ _ hx => by simp at hx) ?_⟩
      rintro _ _ ⟨rfl, rfl⟩
      refine ⟨_, rfl, .inl ⟨rfl, _, SqL.of efR⟩, _, rfl, _, rfl, _, rfl, d, [], rfl, SqL.of edR, fun t o ht ho => ⟨by show 3 ≤ sizeLine; decide, fun ra hra => ?_⟩⟩
      obtain ⟨nrt, hra2⟩ := none_upd hra
      have n_ft := ne_of_none efR ht
      have n_fr := ne_of_none efR hra2
      have n_pt := src_ne hsR ht
      have n_pr := src_ne hsR hra2
      have n_nt := ne_of_none enR ht
      have n_nr := ne_of_none enR hra2
      refine ⟨fl, _, _, rfl, rfl, (upd_ne n_fr).trans ((upd_ne n_ft).trans efR), small1000 (by omega), ?_⟩
      have tkZ := ((tkR.trans (TK.new ht (.frz o (.tup [])))).trans (TK.new hra (.tup [.str nm, .str ("" : Str), .ref t]))).trans (TK.lst ((upd_ne n_fr).trans ((upd_ne n_ft).trans efR)) (.lst (vs ++ [.ref ra])))
      refine ⟨_, _, _, _, _, _, _, vs ++ [.ref ra], rows ++ [⟨nm, ("" : Str), []⟩], rfl, src_upd (src_new (src_new hsR ht) hra) npf, ?_, (upd_ne nnf).trans ((upd_ne n_nr).trans ((upd_ne n_nt).trans enR)), upd_same, paired_snoc ?_ (paired_monoM (fun v q hq z => tkZ.row (plain_ok hpl q hq) z) hpr), ?_, plain_snoc hpl rfl habR⟩
      · intro b2 o2 hb e
        have z := kR b2 o2 hb e
        rw [upd_ne (ne_of_none e nfl), upd_ne (ne_of_none z hra2), upd_ne (ne_of_none z ht)]
        exact z
      · refine ⟨ra, t, rfl, SqT.of ?_, [], ⟨o, ho, ?_⟩, .nil⟩
        · rw [upd_ne n_fr.symm]
          exact upd_same
        · rw [upd_ne n_ft.symm, upd_ne nrt.symm]
          exact upd_same
      · rw [List.map_append, hnm, List.take_add_one, hnm2]
        rfl
  · rintro σ H2 ⟨o5, o6, o7, o8, o9, o10, o11, vs, rows, rfl, s2, k2, en2, ef2, hpr, hnm, hpl⟩
    rw [List.length_map, List.take_length] at hnm
    exact ⟨_, rfl, q fl H2 vs rows nfl ef2 hpr hpl (by rw [hnm]; exact hnd) (by rw [hnm]; exact hmem) (by
      have := congrArg List.length hnm
      rw [List.length_map] at this
      omega) s2 k2⟩

theorem leaves_le (rows : List RowM) : (leavesOf rows).length ≤ rows.length := by
  unfold leavesOf
  rw [List.length_map]
  exact List.length_filter_le _ _
theorem leaves_not {rows : List RowM} : ∀ x ∈ leavesOf rows, ∀ q ∈ rows, q.above ≠ x := by
  intro x hx q hq e
  obtain ⟨r, hr, rfl⟩ := List.mem_map.mp hx
  have h := (List.mem_filter.mp hr).2
  unfold leafB at h
  have : (rows.any fun q => decide (q.above = r.name)) = true := List.any_eq_true.mpr ⟨q, hq, decide_eq_true e⟩
  rw [this] at h
  cases h
theorem inV_strs (x : Str) (xs : List Str) : inV (V.str x) (xs.map V.str) = xs.any fun y => decide (y = x) := by
  unfold inV
  rw [List.any_map]
  congr 1
def spLeaves (K : PySem.W.Frag) : Sp := fun vs H Q _ => ∃ (a : Addr) (vs' : List V) (rows : List RowM), vs = [.ref a] ∧ H a = some (.lst vs') ∧ Paired (RowAt K H) vs' rows ∧ rows.length ≤ 12 ∧
  ∀ r H' (ls : List Str), H r = none → Same H H' → H' r = some (.lst (ls.map .str)) → ls = leavesOf rows → Q (.ref r) H'
theorem ok_leaves {f : Addr} {fd : FuncData} (F : Fun K "_law_leaves" "_law_leaves" sLeaves2 f fd) : FnOk P w K mg base CX0 1 f fd ["_law_rows_here"] (spLeaves K) := by
  refine F.ok scLeaves2 (fun vs H Q E h => ?_) (fun cdv A outer s H vs Q E hr h => ?_)
  · obtain ⟨a, vs', rows, rfl, _⟩ := h
    rfl
  obtain ⟨a, vs', rows, rfl, ha, hrows, hl, q⟩ := h
  refine ⟨_, (pss_cons (ps_set (i := 1) scLeaves2.nd rfl (Or.inr rfl) (pe_lc (own := [("_law_row", 2)]) (g := gName 2) (tt := tYes) (te := tOp (rIxT K) (tVar 2) (tC (.int 1))) rfl scLeaves2.nd (pi_list (pv 0)) (blkOk_by (own := [("_law_row", 2)]) (N := ["_law_rows_here", "_law_above", "_law_row"]) (sc := defScope sLeaves2) (by decide +kernel)) (fun _ _ _ _ _ => (pg_name (i := 2) scLeaves2.nd rfl (Or.inl rfl))) (fun _ _ _ _ _ => pts_nil) (fun _ _ _ _ _ => (pe_ix ix_tup (pv 2) pe_int (fun _ _ => rfl))))) (pss_one (ps_ret (pe_lc (own := [("_law_row", 2)]) (g := gName 2) (tt := tTest (tOp (rIn K true) (tOp (rIxT K) (tVar 2) (tC (.int 0))) (tVar 1))) (te := tOp (rIxT K) (tVar 2) (tC (.int 0))) rfl scLeaves2.nd (pi_list (pv 0)) (blkOk_by (own := [("_law_row", 2)]) (N := ["_law_rows_here", "_law_above", "_law_row"]) (sc := defScope sLeaves2) (by decide +kernel)) (fun _ _ _ _ _ => (pg_name (i := 2) scLeaves2.nd rfl (Or.inl rfl))) (fun _ _ _ _ _ => (pts_one (pt_cmpR op_notIn_seq (pe_ix ix_tup (pv 2) pe_int (fun _ _ => rfl)) (pv 1) (by first | exact nomark _ | rfl)))) (fun _ _ _ _ _ => (pe_ix ix_tup (pv 2) pe_int (fun _ _ => rfl))))))), ?_⟩
  have vl : vs'.length = rows.length := Paired.length hrows
  refine ⟨_, rfl, a, rfl, ⟨_, SqL.of ha⟩, fun D hD => lc_list (K := K) (a := a) (xs := vs') (fun i H' => H' = upd H D (.lst ((rows.take i).map fun r => .str r.above))) rfl ?_ ?_ ?_⟩
  · rintro i _ _ rfl
    exact SqL.of (by rw [upd_ne (ne_of_none ha hD)]; exact ha)
  · rintro i x _ hx rfl
    obtain ⟨r, hr1, ra, t, rfl, hra, _⟩ := paired_get hrows hx
    have il : i < rows.length := (List.getElem?_eq_some_iff.mp hr1).1
    refine ⟨rfl, ?_⟩
    unfold tYes
    refine iteT ?_
    refine ⟨_, rfl, ra, _, _, _, rfl, rfl, Same.seqT (Same.new (Same.refl H) hD _) hra, rfl, _, upd_same, ?_, ?_⟩
    · rw [List.length_map, List.length_take]
      exact small1000 (by omega)
    · rw [upd_upd, List.take_add_one, hr1, Option.toList_some, List.map_append]
      rfl
  rintro _ rfl
  rw [vl, List.take_length]
  have naD := ne_of_none ha hD
  refine ⟨_, rfl, a, rfl, ⟨_, SqL.of (by rw [upd_ne naD]; exact ha)⟩, fun D2 hD2 => lc_list (K := K) (a := a) (xs := vs') (fun i H' => ∃ ls : List Str, H' = upd (upd H D (.lst (rows.map fun r => .str r.above))) D2 (.lst (ls.map V.str)) ∧ ls = ((rows.take i).filter (leafB rows)).map (·.name) ∧ ls.length ≤ i)
    ⟨[], rfl, rfl, Nat.le_refl _⟩ ?_ ?_ ?_⟩
  · rintro i _ _ ⟨ls, rfl, _⟩
    obtain ⟨_, hD3⟩ := none_upd hD2
    exact SqL.of (by rw [upd_ne (ne_of_none ha hD3), upd_ne naD]; exact ha)
  · rintro i x _ hx ⟨ls, rfl, hls, hli⟩
    obtain ⟨r, hr1, ra, t, rfl, hra, _⟩ := paired_get hrows hx
    have il : i < rows.length := (List.getElem?_eq_some_iff.mp hr1).1
    obtain ⟨nD2, hD3⟩ := none_upd hD2
    have hra2 : SqT K (upd (upd H D (.lst (rows.map fun r => .str r.above))) D2 (.lst (ls.map V.str))) ra [.str r.name, .str r.above, .ref t] := Same.seqT (Same.new (Same.new (Same.refl H) hD _) hD2 _) hra
    refine ⟨rfl, ?_⟩
    refine ⟨_, rfl, ra, _, _, _, rfl, rfl, hra2, rfl, _, rfl, D, rows.map (fun r => .str r.above), rfl, .inl (SqL.of (by rw [upd_ne nD2.symm]; exact upd_same)), rfl, ?_, _, rfl, ?_⟩
    · rw [List.all_map]
      exact List.all_eq_true.mpr fun _ _ => rfl
    · have ec : (!inV (V.str r.name) (rows.map fun r => V.str r.above)) = leafB rows r := by
        have := inV_strs r.name (rows.map (·.above))
        rw [List.map_map] at this
        unfold leafB
        rw [show (rows.map fun r => V.str r.above) = rows.map (V.str ∘ fun r => r.above) from rfl, this, List.any_map]
        rfl
      have et : ((rows.take (i + 1)).filter (leafB rows)).map (·.name) = ls ++ (if leafB rows r = true then [r.name] else []) := by
        rw [List.take_add_one, hr1, Option.toList_some, List.filter_append, List.map_append, hls]
        cases z : leafB rows r with
        | true =>
          rw [List.filter_cons_of_pos z]
          rfl
        | false =>
          rw [List.filter_cons_of_neg (by rw [z]; decide)]
          rfl
      refine ite2 (fun c => ?_) (fun c => ?_)
      · refine ⟨_, rfl, ra, _, _, _, rfl, rfl, hra2, rfl, _, upd_same, ?_, ls ++ [r.name], ?_, ?_, ?_⟩
        · rw [List.length_map]
          exact small1000 (by omega)
        · rw [upd_upd, List.map_append]
          rfl
        · have c2 : (!inV (V.str r.name) (rows.map fun r => V.str r.above)) = true := c
          rw [ec] at c2
          rw [et, if_pos c2]
        · rw [List.length_append, List.length_singleton]
          omega
      · have c2 : (!inV (V.str r.name) (rows.map fun r => V.str r.above)) = false := Bool.eq_false_iff.mpr c
        rw [ec] at c2
        refine ⟨ls, rfl, ?_, by omega⟩
        rw [et, c2]
        exact (List.append_nil ls).symm
  · rintro _ ⟨ls, rfl, hls, hli⟩
    obtain ⟨nD2, hD3⟩ := none_upd hD2
    rw [vl, List.take_length] at hls
    exact q D2 _ ls hD3 (Same.new (Same.new (Same.refl H) hD _) hD2 _) upd_same hls

end
end Bd
end

section
namespace Bd
open PySem L2
abbrev sFull : Stmt := (top 51)
theorem scFull : FnScope ["_law_source_here", "_law_many", "_law_plain", "_law_found", "_law_ends", "_law_name", "_law_above", "_law_dues", "_law_words_here", "_law_word"] ["_law_source_here", "_law_many"] (defScope sFull) := ⟨rfl, rfl, rfl, by decide +kernel, rfl, by decide +kernel, by decide +kernel⟩

def Good (ends : List Str) (r : RowM) : Prop := DuesOk r.dues ∧ (∀ du ∈ r.dues, du.2 ≠ bigD) ∧ ((∃ du ∈ r.dues, du.1 = ("tops" : Str)) → r.name ∈ ends)
/-- rows as the law draws them -/
def LawRows (rows : List RowM) : Prop := RowsOk rows ∧ (∀ r ∈ rows, ∀ du ∈ r.dues, du.2 ≠ bigD) ∧ (∀ x ∈ rows.map (·.name), x ∈ menu)
def spFull (K : PySem.W.Frag) : Sp := fun vs H Q _ => ∃ (s : Addr) (m : Nat), vs = [.ref s, .int (m : Int)] ∧ Src H s ∧ m ≤ 12 ∧
  ∀ r H' vs rows, H r = none → H' r = some (.lst vs) → Paired (RowAt K H') vs rows → LawRows rows → rows.length = m → Src H' s → Kept s H H' → Q (.ref r) H'
theorem menu_ok : ∀ x ∈ menu, NameOk x := by
  intro x hx
  have h : (menu.all fun x => decide (1 ≤ x.length) && decide (x.length ≤ 10) && x.cps.toList.all fun c => decide (97 ≤ c) && decide (c ≤ 122)) = true := by decide +kernel
  have := List.all_eq_true.mp h x hx
  simp only [Bool.and_eq_true, decide_eq_true_eq, List.all_eq_true] at this
  exact ⟨this.1.1, this.1.2, this.2⟩
theorem dueOf_map (f : Str × PyData → PyData) (x : Str) : ∀ l : List (Str × PyData), dueOf (l.map fun wd => (wd.1, f wd)) x = (l.find? fun wd => decide (wd.1 = x)).map f
  | [] => rfl
  | a :: l => by
    rw [List.map_cons]
    unfold dueOf
    by_cases c : a.1 = x
    · rw [List.find?_cons_of_pos (by simpa using c), List.find?_cons_of_pos (by simpa using c)]
      rfl
    · rw [List.find?_cons_of_neg (by simpa using c), List.find?_cons_of_neg (by simpa using c)]
      exact dueOf_map f x l
theorem tops_of (dues : List (Str × PyData)) (h : ¬ ∃ du ∈ dues, du.1 = ("tops" : Str)) : dueOf (fullD dues) "tops" = some (.str "endless") := by
  unfold fullD
  rw [dueOf_map (fun wd => (dueOf dues wd.1).getD wd.2)]
  have e : (leftD.find? fun wd => decide (wd.1 = ("tops" : Str))) = some (("tops" : Str), PyData.str "endless") := by rfl
  rw [e]
  have z : dueOf dues "tops" = none := by
    cases z : dueOf dues "tops" with
    | none => rfl
    | some d => exact absurd ⟨_, dueOf_mem z, rfl⟩ h
  show some ((dueOf dues "tops").getD (.str "endless")) = _
  rw [z]
  rfl
/-- rows with the names and groups above of plain ones, and good dues -/
theorem full_rows_ok {plain rows : List RowM} {ends : List Str} (hp : Plain plain) (hnd : (plain.map (·.name)).Nodup) (hm : ∀ x ∈ plain.map (·.name), x ∈ menu) (hn : rows.map (·.name) = plain.map (·.name)) (ha : rows.map (·.above) = plain.map (·.above))
    (hg : ∀ r ∈ rows, Good ends r) (he : ∀ x ∈ ends, ∀ q ∈ plain, q.above ≠ x) : LawRows rows := by
  have hl : rows.length = plain.length := by
    have := congrArg List.length hn
    simpa using this
  refine ⟨fun i r hr => ?_, fun r hr => (hg r hr).2.1, fun x hx => hm x (by rw [← hn]; exact hx)⟩
  have hmr := List.mem_of_getElem? hr
  have il := (List.getElem?_eq_some_iff.mp hr).1
  have hp1 : plain[i]? = some plain[i] := List.getElem?_eq_getElem (by omega)
  have en : ∀ (j : Nat) (a b : RowM), rows[j]? = some a → plain[j]? = some b → a.name = b.name ∧ a.above = b.above := fun j a b h1 h2 => by
    have z1 : (rows.map (·.name))[j]? = (plain.map (·.name))[j]? := by rw [hn]
    have z2 : (rows.map (·.above))[j]? = (plain.map (·.above))[j]? := by rw [ha]
    rw [List.getElem?_map, List.getElem?_map, h1, h2] at z1 z2
    exact ⟨Option.some.inj z1, Option.some.inj z2⟩
  obtain ⟨e1, e2⟩ := en i r _ hr hp1
  refine ⟨menu_ok _ (hm _ (by rw [e1]; exact List.mem_map.mpr ⟨_, List.mem_of_getElem? hp1, rfl⟩)), (hg r hmr).1, ?_, ?_⟩
  · intro q hq e
    obtain ⟨j, hj⟩ := List.mem_iff_getElem?.mp hq
    have hji : j < i := by
      have := (List.getElem?_eq_some_iff.mp hj).1
      rw [List.length_take] at this
      omega
    rw [List.getElem?_take_of_lt hji] at hj
    have nd2 : (rows.map (·.name)).Nodup := by
      rw [hn]
      exact hnd
    exact fresh_at nd2 hr q hq e
  · rw [e2]
    rcases (hp i _ hp1).2 with z | ⟨q, hq, z⟩
    · exact .inl z
    · right
      obtain ⟨j, hj⟩ := List.mem_iff_getElem?.mp hq
      have hji : j < i := by
        have := (List.getElem?_eq_some_iff.mp hj).1
        rw [List.length_take] at this
        omega
      rw [List.getElem?_take_of_lt hji] at hj
      have hjr : rows[j]? = some (rows[j]'(by omega)) := List.getElem?_eq_getElem (by omega)
      obtain ⟨f1, f2⟩ := en j _ _ hjr hj
      refine ⟨rows[j]'(by omega), ?_, by rw [f1]; exact z, tops_of _ fun h => ?_⟩
      · have : (rows.take i)[j]? = some (rows[j]'(by omega)) := by
          rw [List.getElem?_take_of_lt hji]
          exact hjr
        exact List.mem_of_getElem? this
      · have := (hg _ (List.mem_of_getElem? hjr)).2.2 h
        rw [f1] at this
        exact he _ this _ (List.mem_of_getElem? hp1) z.symm
section
variable {P : Program} {w : World} {K : PySem.W.Frag} {mg : Str → Option Value} {base : Heap}
theorem ok_full {f f1 f2 f3 f4 f5 : Addr} {fd d1 d2 d3 d4 d5 : FuncData} (F : Fun K "_law_full_rows" "_law_full_rows" sFull f fd) (T : TA mg) (cN : Cal P w K mg base "_law_next" ["_law_source_here", "_law_many"] 2 spNext f1 d1) (cR : Cal P w K mg base "_law_rows" ["_law_source_here", "_law_many", "_law_words_here"] 4 (spRows2 K) f2 d2)
    (cL : Cal P w K mg base "_law_leaves" ["_law_rows_here"] 1 (spLeaves K) f3 d3) (cW : Cal P w K mg base "_law_words" [] 1 spWords f4 d4) (cV : Cal P w K mg base "_law_value" ["_law_source_here", "_law_word"] 4 (spValue K) f5 d5) :
    FnOk P w K mg base CX0 5 f fd ["_law_source_here", "_law_many"] (spFull K) := by
  refine F.ok scFull (fun vs H Q E h => ?_) (fun cdv A outer s H vs Q E hr h => ?_)
  · obtain ⟨p, m, rfl, _⟩ := h
    rfl
  obtain ⟨p, m, rfl, hp, hm, q⟩ := h
  refine ⟨_, (pss_cons (ps_par (i := 2) (j := 3) (by rfl) scFull.nd rfl rfl (by decide) rfl rfl (pa_cons (pe_call cR.ok (hr.mono (by decide)) rfl cR.mg cR.kp cR.bd .nil pass0 (pa_cons (pv 0) (pa_cons (pv 1) (pa_cons (pe_lst pa_nil) pa_nil)))) (pa_cons (pe_lst pa_nil) pa_nil)) (by rfl)) (pss_cons (ps_set (i := 4) scFull.nd rfl (Or.inr rfl) (pe_call cL.ok (hr.mono (by decide)) rfl cL.mg cL.kp cL.bd .nil pass0 (pa_cons (pv 2) pa_nil))) (pss_cons (ps_for PassesOwn.never rfl (pi_list (pv 2)) (pg_tup (by rfl) (pgs_cons (pg_name (i := 5) scFull.nd rfl (Or.inr rfl)) (pgs_cons (pg_name (i := 6) scFull.nd rfl (Or.inl rfl)) (pgs_cons (pg_name (i := 7) scFull.nd rfl (Or.inl rfl)) pgs_nil)))) (pss_cons (ps_setLc (i := 8) (own := [("_law_word", 9)]) (g := gName 9) (tt := tAnd (tTest (tOp rEq (tCall spNext [] E0 (tCons (tVar 0) (tCons (tC (.int 3)) tNil))) (tC (.int 0)))) (tOr (tTest (tOp rNe (tVar 9) (tC (.str "tops")))) (tTest (tOp (rIn K false) (tVar 5) (tVar 4))))) (te := tVar 9) rfl scFull.nd rfl rfl (sw_true rfl rfl rfl (by decide +kernel)) (pi_list (pe_call0 cW.ok (hr.mono (by decide)) rfl cW.mg cW.kp cW.bd .nil pass0)) (blkOk_by (own := [("_law_word", 9)]) (N := ["_law_source_here", "_law_many", "_law_plain", "_law_found", "_law_ends", "_law_name", "_law_above", "_law_dues", "_law_words_here", "_law_word"]) (sc := defScope sFull) (by decide +kernel)) (fun _ _ _ _ _ => (pg_name (i := 9) scFull.nd rfl (Or.inl rfl))) (fun _ _ _ _ _ => (pts_one (PW.pt (pw_and (pt_cmpR op_eq (pe_call cN.ok (hr.mono (by decide)) rfl cN.mg cN.kp cN.bd .nil pass0 (pa_cons (pv 0) (pa_cons pe_int pa_nil))) pe_int (nomark _)) (pw_and1 (PW.pt (pw_or (pt_cmpR op_ne (pv 9) pe_str (nomark _)) (pw_or1 (pt_cmpR op_in_seq (pv 5) (pv 4) (by first | exact nomark _ | rfl)))))))))) (fun _ _ _ _ _ => (pv 9))) (pss_cons (ps_set (i := 8) scFull.nd rfl (Or.inl rfl) (pe_ifExp (pt_cmpR op_eq (pe_call cN.ok (hr.mono (by decide)) rfl cN.mg cN.kp cN.bd .nil pass0 (pa_cons (pv 0) (pa_cons pe_int pa_nil))) pe_int (nomark _)) (pe_revL (pv 8)) (pv 8))) (pss_one (ps_expr (pe_bm PySem.F.plainAttrs_list PySem.F.slot_list_append PySem.F.type_list_append mt_append (pv 3) (pa_cons (pe_tup (pa_cons (pv 5) (pa_cons (pv 6) (pa_cons (pe_callTy call_tupleF (by rfl) T.z_tuple (by decide +kernel) (pa_cons (pe_lc (own := [("_law_word", 9)]) (g := gName 9) (tt := tYes) (te := tTup (tCons (tVar 9) (tCons (tCall (spValue K) [] E0 (tCons (tVar 0) (tCons (tVar 9) tNil))) tNil))) rfl scFull.nd (pi_list (pv 8)) (blkOk_by (own := [("_law_word", 9)]) (N := ["_law_source_here", "_law_many", "_law_plain", "_law_found", "_law_ends", "_law_name", "_law_above", "_law_dues", "_law_words_here", "_law_word"]) (sc := defScope sFull) (by decide +kernel)) (fun _ _ _ _ _ => (pg_name (i := 9) scFull.nd rfl (Or.inl rfl))) (fun _ _ _ _ _ => pts_nil) (fun _ _ _ _ _ => (pe_tup (pa_cons (pv 9) (pa_cons (pe_call cV.ok (hr.mono (by decide)) rfl cV.mg cV.kp cV.bd .nil pass0 (pa_cons (pv 0) (pa_cons (pv 9) pa_nil))) pa_nil))))) pa_nil)) pa_nil)))) pa_nil))))))) (pss_one (ps_ret (pv 3)))))), ?_⟩
  refine ⟨_, rfl, _, rfl, Nat.zero_le _, fun wl hwl => ⟨p, wl, m, rfl, src_new hp hwl, hm, upd_same, (src_ne hp hwl).symm, fun pl H1 pvs plain hpl epl hpr hplain hnd hmem hlen s2 k2 => ?_⟩⟩
  refine ⟨Nat.zero_le _, fun fl hfl => ⟨_, _, rfl, ?_⟩⟩
  have npl := src_ne (src_new (o := .lst []) hp hwl) hpl
  have npf := src_ne s2 hfl
  have n_l_f := ne_of_none epl hfl
  have epl2 : upd H1 fl (.lst []) pl = some (.lst pvs) := (upd_ne n_l_f).trans epl
  refine ⟨_, rfl, pl, pvs, plain, rfl, epl2, paired_mono (fun _ _ z => RowAt.same (Same.new (Same.refl H1) hfl _) z) hpr, by omega, fun el H3 ends hel s3 eel hends => ?_⟩
  have he : ∀ x ∈ ends, ∀ q ∈ plain, q.above ≠ x := by
    rw [hends]
    exact leaves_not
  have hle : ends.length ≤ 12 := by
    have := leaves_le plain
    rw [hends]
    omega
  have s3' : Src H3 p := let ⟨x, y, z, e⟩ := src_new (o := .lst []) s2 hfl; ⟨x, y, z, s3 _ _ e⟩
  have k3 : Kept p H H3 := fun b o hb e => s3 _ _ ((((Kept.refl p H).new hwl (.lst [])).trans k2).new hfl (.lst []) b o hb e)
  have npe := src_ne (src_new (o := .lst []) s2 hfl) hel
  have n_l_e := ne_of_none epl2 hel
  have n_f_e := ne_of_none (upd_same : upd H1 fl (.lst []) fl = some (.lst [])) hel
  have nfl : H fl = none := by
    have z := (k2.free (by exact npf.symm) hfl)
    exact (none_upd z).2
  refine ⟨_, rfl, pl, rfl, ⟨_, SqL.of (s3 _ _ epl2)⟩, for_list (K := K) (a := pl) (xs := pvs) (fun i σ H' => ∃ (o5 o6 o7 o8 o9 : Option V) (fvs : List V) (rows : List RowM), σ = [some (.ref p), some (.int (m : Int)), some (.ref pl), some (.ref fl), some (.ref el), o5, o6, o7, o8, o9] ∧
      Src H' p ∧ Kept p H H' ∧ H' pl = some (.lst pvs) ∧ H' fl = some (.lst fvs) ∧ H' el = some (.lst (ends.map V.str)) ∧ Paired (RowAt K H') pvs plain ∧ Paired (RowAt K H') fvs rows ∧ rows.map (·.name) = (plain.take i).map (·.name) ∧ rows.map (·.above) = (plain.take i).map (·.above) ∧ ∀ r ∈ rows, Good ends r)
    ⟨none, none, none, none, none, [], [], rfl, s3', k3, s3 _ _ epl2, s3 _ _ upd_same, eel, paired_mono (fun _ _ z => RowAt.same ((Same.new (Same.refl H1) hfl _).trans s3) z) hpr, .nil, rfl, rfl, fun _ h => nomatch h⟩ ?_ ?_ ?_⟩
  · rintro i σ H' _ ⟨_, _, _, _, _, _, _, _, _, _, e, _⟩
    exact SqL.of e
  · rintro i x σ H' hi ⟨o5, o6, o7, o8, o9, fvs, rows, rfl, s4, k4, el4, ef4, ee4, hp4, hr4, hn4, ha4, hg4⟩
    obtain ⟨r, hr1, hrow⟩ := paired_get hp4 hi
    obtain ⟨ra, t, rfl, hra, _⟩ := id hrow
    refine ⟨ra, _, rfl, hra, rfl, _, _, rfl, _, _, rfl, _, _, rfl, rfl, ?_⟩
    refine ⟨rfl, fun wl2 hwl2 => ⟨wl2, rfl, ⟨_, SqL.of upd_same⟩, fun D hD => ?_⟩⟩
    have nw2 := src_ne s4 hwl2
    have sb := src_new (o := .lst (leftW.map V.str)) s4 hwl2
    have kb := (Kept.refl p H').new hwl2 (.lst (leftW.map V.str))
    have nDp := src_ne sb hD
    refine lc_list (K := K) (a := wl2) (xs := leftW.map V.str) (fun j G => ∃ ws : List Str, G D = some (.lst (ws.map V.str)) ∧ (∀ x ∈ ws, x ∈ leftW.take j ∧ (x = "tops" → r.name ∈ ends)) ∧ ws.Nodup ∧ ws.length ≤ j ∧ Src G p ∧ Kept p (upd H' wl2 (.lst (leftW.map V.str))) G)
      ⟨[], upd_same, (fun _ h => nomatch h), List.nodup_nil, Nat.le_refl _, src_new sb hD, (Kept.refl p _).new hD _⟩ ?_ ?_ ?_
    · rintro j G _ ⟨ws, _, _, _, _, _, kG⟩
      exact SqL.of (kG wl2 _ nw2.symm upd_same)
    · rintro j x2 G hj ⟨ws, eD, hws, wnd, wlen, sG, kG⟩
      obtain ⟨wd, rfl, hwd⟩ : ∃ wd, x2 = .str wd ∧ leftW[j]? = some wd := by
        rw [List.getElem?_map] at hj
        obtain ⟨a, b, c⟩ := Option.map_eq_some_iff.mp hj
        exact ⟨a, c.symm, b⟩
      have j8 : j < 8 := (List.getElem?_eq_some_iff.mp hwd).1
      have tk1 : leftW.take (j + 1) = leftW.take j ++ [wd] := by
        rw [List.take_add_one, hwd]
        rfl
      have skip : ∀ G2, Src G2 p → Kept p G G2 → ∃ ws : List Str, G2 D = some (.lst (ws.map V.str)) ∧ (∀ x ∈ ws, x ∈ leftW.take (j + 1) ∧ (x = "tops" → r.name ∈ ends)) ∧ ws.Nodup ∧ ws.length ≤ j + 1 ∧ Src G2 p ∧ Kept p (upd H' wl2 (.lst (leftW.map V.str))) G2 := fun G2 s2 k2 =>
        ⟨ws, k2 D _ nDp.symm eD, fun x hx => ⟨by rw [tk1]; exact List.mem_append_left _ (hws x hx).1, (hws x hx).2⟩, wnd, by omega, s2, kG.trans k2⟩
      have keep : ∀ G2, Src G2 p → Kept p G G2 → (wd = "tops" → r.name ∈ ends) → ∃ acc, G2 D = some (.lst acc) ∧ acc.length < sizeLine ∧ ∃ ws : List Str, (upd G2 D (.lst (acc ++ [.str wd]))) D = some (.lst (ws.map V.str)) ∧ (∀ x ∈ ws, x ∈ leftW.take (j + 1) ∧ (x = "tops" → r.name ∈ ends)) ∧ ws.Nodup ∧ ws.length ≤ j + 1 ∧ Src (upd G2 D (.lst (acc ++ [.str wd]))) p ∧
          Kept p (upd H' wl2 (.lst (leftW.map V.str))) (upd G2 D (.lst (acc ++ [.str wd]))) := fun G2 s2 k2 ht => by
        refine ⟨_, k2 D _ nDp.symm eD, ?_, ws ++ [wd], ?_, fun x hx => ?_, ?_, ?_, src_upd s2 nDp, ?_⟩
        · rw [List.length_map]
          exact small1000 (by omega)
        · rw [upd_same, List.map_append]
          rfl
        · rcases List.mem_append.mp hx with h | h
          · exact ⟨by rw [tk1]; exact List.mem_append_left _ (hws x h).1, (hws x h).2⟩
          · cases List.mem_singleton.mp h
            exact ⟨by rw [tk1]; exact List.mem_append_right _ (List.mem_singleton.mpr rfl), ht⟩
        · refine List.nodup_append.mpr ⟨wnd, by simp, fun a ha b hb => ?_⟩
          cases List.mem_singleton.mp hb
          have nd8 : (leftW.map id).Nodup := by
            rw [List.map_id]
            exact leftW_nd
          exact fresh_at nd8 hwd a (hws a ha).1
        · rw [List.length_append, List.length_singleton]
          omega
        · intro b2 o2 hb e
          have z := k2 b2 o2 hb (kG b2 o2 hb e)
          rw [upd_ne (ne_of_none e hD)]
          exact z
      refine ⟨rfl, ?_⟩
      refine ⟨_, rfl, p, 3, rfl, sG, by decide, by decide, fun v G2 hv s2 k2 => ⟨rfl, _, rfl, ?_⟩⟩
      refine ite2 (fun _ => ?_) (fun _ => ?_)
      · refine ⟨_, rfl, rfl, _, rfl, ?_⟩
        refine ite2 (fun c => ?_) (fun c => ?_)
        · refine iteT ⟨_, rfl, keep G2 s2 k2 fun z => ?_⟩
          rw [z, decide_eq_true rfl] at c
          cases c
        · refine ⟨_, rfl, _, rfl, el, ends.map V.str, rfl, .inl (SqL.of (k2 el _ npe.symm (kG el _ npe.symm (kb el _ npe.symm ee4)))), rfl, ?_, _, rfl, ?_⟩
          · rw [List.all_map]
            exact List.all_eq_true.mpr fun _ _ => rfl
          · refine ite2 (fun c2 => ?_) (fun c2 => ?_)
            · refine ⟨_, rfl, keep G2 s2 k2 fun z => ?_⟩
              have c3 : inV (V.str r.name) (ends.map V.str) = true := c2
              unfold inV at c3
              rw [List.any_map] at c3
              obtain ⟨a, ha, hb⟩ := List.any_eq_true.mp c3
              have hb : (a == r.name) = true := hb
              rw [← eq_of_beq hb]
              exact ha
            · exact skip G2 s2 k2
      · exact iteF (skip G2 s2 k2)
    · rintro G ⟨ws, eD, hws, wnd, wlen, sG, kG⟩
      rw [List.length_map, show leftW.length = 8 from rfl] at hws
      have hws8 : ∀ x ∈ ws, x ∈ leftW ∧ (x = "tops" → r.name ∈ ends) := fun x hx => ⟨List.mem_of_mem_take (hws x hx).1, (hws x hx).2⟩
      refine ⟨_, rfl, p, 2, rfl, sG, by decide, by decide, fun v H7 hv s7 k7 => ⟨rfl, _, rfl, ?_⟩⟩
      refine ite2 (fun _ => ?_) (fun _ => ?_)
      · refine ⟨_, rfl, D, ws.map V.str, rfl, SqL.of (k7 D _ nDp.symm eD), fun wa hwa => ?_⟩
        obtain ⟨ws2, hw2⟩ : ∃ ws2, ws2 = ws.reverse := ⟨_, rfl⟩
        obtain ⟨H8, hH8⟩ : ∃ H8, H8 = upd H7 wa (.lst (ws.map V.str).reverse) := ⟨_, rfl⟩
        have ewa : H8 wa = some (.lst (ws2.map V.str)) := by
          rw [hH8, upd_same, hw2, List.map_reverse]
        have hws2 : ∀ x ∈ ws2, x ∈ leftW ∧ (x = "tops" → r.name ∈ ends) := fun x hx => hws8 x (by rw [hw2] at hx; exact List.mem_reverse.mp hx)
        have nd2 : ws2.Nodup := by
          rw [hw2]
          exact (List.reverse_perm ws).nodup_iff.mpr wnd
        have wl8 : ws2.length ≤ 8 := by
          rw [hw2, List.length_reverse]
          exact wlen
        have s8 : Src H8 p := by
          rw [hH8]
          exact src_new s7 hwa
        have k8 : Kept p (upd H' wl2 (.lst (leftW.map V.str))) H8 := by
          rw [hH8]
          exact (kG.trans k7).new hwa _
        rw [← hH8]
        have kf8 := kb.trans k8
        have ef8 := kf8 fl _ npf.symm ef4
        have el8 := kf8 pl _ npl.symm el4
        have ee8 := kf8 el _ npe.symm ee4
        have nwa : wa ≠ p := fun e => by
          obtain ⟨x1, x2, x3, z⟩ := s8
          rw [e, z] at ewa
          cases ws2 with
          | nil => cases ewa
          | cons a b => cases ewa
        refine ⟨_, rfl, .inl ⟨rfl, _, SqL.of ef8⟩, _, rfl, _, rfl, _, rfl, wa, rfl, ⟨_, SqL.of ewa⟩, fun D2 hD2 => lc_list (K := K) (a := wa) (xs := ws2.map V.str) (fun j H' => ∃ (ps : List Addr) (dues : List (Str × PyData)), H' D2 = some (.lst (ps.map V.ref)) ∧ Paired (DueAt K H') ps dues ∧ dues.map (·.1) = ws2.take j ∧ (∀ du ∈ dues, ValOk du.1 du.2 ∧ du.2 ≠ bigD) ∧ Src H' p ∧ Kept p H8 H')
          ⟨[], [], upd_same, .nil, rfl, (fun _ h => nomatch h), src_new s8 hD2, (Kept.refl p H8).new hD2 _⟩ ?_ ?_ ?_⟩
        · rintro j G _ ⟨ps, dues, e1, _, _, _, sG, kG⟩
          exact SqL.of (kG wa _ nwa ewa)
        · rintro j x2 G hj ⟨ps, dues, e1, e2, e3, e4, sG, kG⟩
          obtain ⟨wd, rfl, hwd⟩ : ∃ wd, x2 = .str wd ∧ ws2[j]? = some wd := by
            rw [List.getElem?_map] at hj
            obtain ⟨a, b, c⟩ := Option.map_eq_some_iff.mp hj
            exact ⟨a, c.symm, b⟩
          have hm2 := hws2 wd (List.mem_of_getElem? hwd)
          refine ⟨rfl, ?_⟩
          unfold tYes
          refine iteT ?_
          refine ⟨_, rfl, _, rfl, _, rfl, p, wd, rfl, sG, hm2.1, fun v d H9 hv hb hdp s9 k9 => ⟨by show 2 ≤ sizeLine; decide, fun pr hpr' => ?_⟩⟩
          have nD2 : D2 ≠ p := (src_ne s8 hD2).symm
          have eD9 := k9 D2 _ nD2 e1
          have nDp := ne_of_none eD9 hpr'
          have pl2 : ps.length = dues.length := Paired.length e2
          have dl2 : dues.length ≤ ws2.length := by
            have := congrArg List.length e3
            rw [List.length_map, List.length_take] at this
            omega
          have tk9 : TK G H9 := let ⟨_, _, _, z⟩ := sG; TK.kept z k9
          have tk10 := (tk9.trans (TK.new hpr' (.tup [.str wd, v]))).trans (TK.lst ((upd_ne nDp).trans eD9) (.lst (ps.map V.ref ++ [.ref pr])))
          have hsn : DueAt K (upd (upd H9 pr (.tup [.str wd, v])) D2 (.lst (ps.map V.ref ++ [.ref pr]))) pr (wd, d) := by
            refine ⟨v, SqT.of ?_, ((TK.new hpr' (.tup [.str wd, v])).trans (TK.lst ((upd_ne nDp).trans eD9) (.lst (ps.map V.ref ++ [.ref pr])))).val hv hdp⟩
            rw [upd_ne nDp.symm]
            exact upd_same
          have hold : Paired (DueAt K (upd (upd H9 pr (.tup [.str wd, v])) D2 (.lst (ps.map V.ref ++ [.ref pr])))) ps dues := paired_monoM (fun q du hdu z => by
            obtain ⟨u, z1, z2⟩ := z
            exact ⟨u, tk10.seqT z1, tk10.val (e4 du hdu).1 z2⟩) e2
          refine  ⟨_, (upd_ne nDp).trans eD9, ?_, ps ++ [pr], dues ++ [(wd, d)], ?_, paired_snoc hsn hold, ?_, ?_, src_upd (src_new s9 hpr') nD2.symm, ?_⟩
          · rw [List.length_map]
            exact small1000 (by omega)
          · rw [upd_same, List.map_append]
            rfl
          · rw [List.map_append, e3, List.take_add_one, hwd]
            rfl
          · intro du hdu
            rcases List.mem_append.mp hdu with h | h
            · exact e4 du h
            · cases List.mem_singleton.mp h
              exact ⟨hv, hb⟩
          · intro b2 o2 hb2 e
            have z := k9 b2 o2 hb2 (kG b2 o2 hb2 e)
            rw [upd_ne (ne_of_none e hD2), upd_ne (ne_of_none z hpr')]
            exact z
        · rintro H9 ⟨ps, dues, e1, e2, e3, e4, s9, k9⟩
          rw [List.length_map, List.take_length] at e3
          refine ⟨D2, ps.map V.ref, rfl, SqL.of e1, fun tt o htt ho => ⟨by show 3 ≤ sizeLine; decide, fun rw' hrw => ?_⟩⟩
          obtain ⟨nrt, hrw2⟩ := none_upd hrw
          have kf9 := kf8.trans k9
          have ef9 := kf9 fl _ npf.symm ef4
          have el9 := kf9 pl _ npl.symm el4
          have ee9 := kf9 el _ npe.symm ee4
          have n_ft := ne_of_none ef9 htt
          have n_fr := ne_of_none ef9 hrw2
          have n_lt := ne_of_none el9 htt
          have n_lr := ne_of_none el9 hrw2
          have n_et := ne_of_none ee9 htt
          have n_er := ne_of_none ee9 hrw2
          have ef11 : upd (upd H9 tt (.frz o (.tup (ps.map V.ref)))) rw' (.tup [.str r.name, .str r.above, .ref tt]) fl = some (.lst fvs) := (upd_ne n_fr).trans ((upd_ne n_ft).trans ef9)
          have tkA : TK H' H9 := let ⟨_, _, _, z⟩ := s4; TK.kept z kf9
          have tkB := ((TK.new htt (.frz o (.tup (ps.map V.ref)))).trans (TK.new hrw (.tup [.str r.name, .str r.above, .ref tt]))).trans (TK.lst ef11 (.lst (fvs ++ [.ref rw'])))
          have tkZ := tkA.trans tkB
          have fl2 : fvs.length = rows.length := Paired.length hr4
          have rl2 : rows.length ≤ 12 := by
            have := congrArg List.length hn4
            rw [List.length_map, List.length_map, List.length_take] at this
            omega
          have dok : DuesOk dues := ⟨by rw [e3]; exact nd2, fun du hdu => ⟨(hws2 du.1 (by rw [← e3]; exact List.mem_map.mpr ⟨du, hdu, rfl⟩)).1, (e4 du hdu).1⟩⟩
          refine ⟨fl, _, _, rfl, rfl, ef11, small1000 (by omega), ?_⟩
          refine ⟨_, _, _, _, _, fvs ++ [.ref rw'], rows ++ [⟨r.name, r.above, dues⟩], rfl, src_upd (src_new (src_new s9 htt) hrw) npf, ?_, (upd_ne n_l_f).trans ((upd_ne n_lr).trans ((upd_ne n_lt).trans el9)), upd_same, (upd_ne n_f_e.symm).trans ((upd_ne n_er).trans ((upd_ne n_et).trans ee9)),
            paired_monoM (fun v q hq z => tkZ.row (plain_ok hplain q hq) z) hp4, paired_snoc ?_ (paired_monoM (fun v q hq z => tkZ.row (hg4 q hq).1 z) hr4), ?_, ?_, ?_⟩
          · intro b2 o2 hb e
            have z := kf9 b2 o2 hb (k4 b2 o2 hb e)
            rw [upd_ne (ne_of_none e nfl), upd_ne (ne_of_none z hrw2), upd_ne (ne_of_none z htt)]
            exact z
          · refine ⟨rw', tt, rfl, SqT.of ?_, ps, ⟨o, ho, ?_⟩, paired_monoM (fun q du hdu z => ?_) e2⟩
            · rw [upd_ne n_fr.symm]
              exact upd_same
            · rw [upd_ne n_ft.symm, upd_ne nrt.symm]
              exact upd_same
            · obtain ⟨u, z1, z2⟩ := z
              exact ⟨u, tkB.seqT z1, tkB.val (e4 du hdu).1 z2⟩
          · rw [List.map_append, hn4, List.take_add_one, hr1, Option.toList_some, List.map_append]
            rfl
          · rw [List.map_append, ha4, List.take_add_one, hr1, Option.toList_some, List.map_append]
            rfl
          · intro q hq
            rcases List.mem_append.mp hq with h | h
            · exact hg4 q h
            · cases List.mem_singleton.mp h
              refine ⟨dok, fun du hdu => (e4 du hdu).2, fun ⟨du, hdu, et⟩ => ?_⟩
              exact (hws2 du.1 (by rw [← e3]; exact List.mem_map.mpr ⟨du, hdu, rfl⟩)).2 et
      · have ewa := k7 D _ nDp.symm eD
        obtain ⟨wa, hwaD⟩ : ∃ wa, wa = D := ⟨_, rfl⟩
        obtain ⟨H8, hH8⟩ : ∃ H8, H8 = H7 := ⟨_, rfl⟩
        subst hwaD
        subst hH8
        obtain ⟨ws2, hw2⟩ : ∃ ws2, ws2 = ws := ⟨_, rfl⟩
        subst hw2
        have hws2 := hws8
        have nd2 := wnd
        have wl8 : ws2.length ≤ 8 := wlen
        have s8 := s7
        have k8 := kG.trans k7
        refine ⟨_, rfl, ?_⟩
        have kf8 := kb.trans k8
        have ef8 := kf8 fl _ npf.symm ef4
        have el8 := kf8 pl _ npl.symm el4
        have ee8 := kf8 el _ npe.symm ee4
        have nwa : wa ≠ p := fun e => by
          obtain ⟨x1, x2, x3, z⟩ := s8
          rw [e, z] at ewa
          cases ws2 with
          | nil => cases ewa
          | cons a b => cases ewa
        refine ⟨_, rfl, .inl ⟨rfl, _, SqL.of ef8⟩, _, rfl, _, rfl, _, rfl, wa, rfl, ⟨_, SqL.of ewa⟩, fun D2 hD2 => lc_list (K := K) (a := wa) (xs := ws2.map V.str) (fun j H' => ∃ (ps : List Addr) (dues : List (Str × PyData)), H' D2 = some (.lst (ps.map V.ref)) ∧ Paired (DueAt K H') ps dues ∧ dues.map (·.1) = ws2.take j ∧ (∀ du ∈ dues, ValOk du.1 du.2 ∧ du.2 ≠ bigD) ∧ Src H' p ∧ Kept p H8 H')
          ⟨[], [], upd_same, .nil, rfl, (fun _ h => nomatch h), src_new s8 hD2, (Kept.refl p H8).new hD2 _⟩ ?_ ?_ ?_⟩
        · rintro j G _ ⟨ps, dues, e1, _, _, _, sG, kG⟩
          exact SqL.of (kG wa _ nwa ewa)
        · rintro j x2 G hj ⟨ps, dues, e1, e2, e3, e4, sG, kG⟩
          obtain ⟨wd, rfl, hwd⟩ : ∃ wd, x2 = .str wd ∧ ws2[j]? = some wd := by
            rw [List.getElem?_map] at hj
            obtain ⟨a, b, c⟩ := Option.map_eq_some_iff.mp hj
            exact ⟨a, c.symm, b⟩
          have hm2 := hws2 wd (List.mem_of_getElem? hwd)
          refine ⟨rfl, ?_⟩
          unfold tYes
          refine iteT ?_
          refine ⟨_, rfl, _, rfl, _, rfl, p, wd, rfl, sG, hm2.1, fun v d H9 hv hb hdp s9 k9 => ⟨by show 2 ≤ sizeLine; decide, fun pr hpr' => ?_⟩⟩
          have nD2 : D2 ≠ p := (src_ne s8 hD2).symm
          have eD9 := k9 D2 _ nD2 e1
          have nDp := ne_of_none eD9 hpr'
          have pl2 : ps.length = dues.length := Paired.length e2
          have dl2 : dues.length ≤ ws2.length := by
            have := congrArg List.length e3
            rw [List.length_map, List.length_take] at this
            omega
          have tk9 : TK G H9 := let ⟨_, _, _, z⟩ := sG; TK.kept z k9
          have tk10 := (tk9.trans (TK.new hpr' (.tup [.str wd, v]))).trans (TK.lst ((upd_ne nDp).trans eD9) (.lst (ps.map V.ref ++ [.ref pr])))
          have hsn : DueAt K (upd (upd H9 pr (.tup [.str wd, v])) D2 (.lst (ps.map V.ref ++ [.ref pr]))) pr (wd, d) := by
            refine ⟨v, SqT.of ?_, ((TK.new hpr' (.tup [.str wd, v])).trans (TK.lst ((upd_ne nDp).trans eD9) (.lst (ps.map V.ref ++ [.ref pr])))).val hv hdp⟩
            rw [upd_ne nDp.symm]
            exact upd_same
          have hold : Paired (DueAt K (upd (upd H9 pr (.tup [.str wd, v])) D2 (.lst (ps.map V.ref ++ [.ref pr])))) ps dues := paired_monoM (fun q du hdu z => by
            obtain ⟨u, z1, z2⟩ := z
            exact ⟨u, tk10.seqT z1, tk10.val (e4 du hdu).1 z2⟩) e2
          refine  ⟨_, (upd_ne nDp).trans eD9, ?_, ps ++ [pr], dues ++ [(wd, d)], ?_, paired_snoc hsn hold, ?_, ?_, src_upd (src_new s9 hpr') nD2.symm, ?_⟩
          · rw [List.length_map]
            exact small1000 (by omega)
          · rw [upd_same, List.map_append]
            rfl
          · rw [List.map_append, e3, List.take_add_one, hwd]
            rfl
          · intro du hdu
            rcases List.mem_append.mp hdu with h | h
            · exact e4 du h
            · cases List.mem_singleton.mp h
              exact ⟨hv, hb⟩
          · intro b2 o2 hb2 e
            have z := k9 b2 o2 hb2 (kG b2 o2 hb2 e)
            rw [upd_ne (ne_of_none e hD2), upd_ne (ne_of_none z hpr')]
            exact z
        · rintro H9 ⟨ps, dues, e1, e2, e3, e4, s9, k9⟩
          rw [List.length_map, List.take_length] at e3
          refine ⟨D2, ps.map V.ref, rfl, SqL.of e1, fun tt o htt ho => ⟨by show 3 ≤ sizeLine; decide, fun rw' hrw => ?_⟩⟩
          obtain ⟨nrt, hrw2⟩ := none_upd hrw
          have kf9 := kf8.trans k9
          have ef9 := kf9 fl _ npf.symm ef4
          have el9 := kf9 pl _ npl.symm el4
          have ee9 := kf9 el _ npe.symm ee4
          have n_ft := ne_of_none ef9 htt
          have n_fr := ne_of_none ef9 hrw2
          have n_lt := ne_of_none el9 htt
          have n_lr := ne_of_none el9 hrw2
          have n_et := ne_of_none ee9 htt
          have n_er := ne_of_none ee9 hrw2
          have ef11 : upd (upd H9 tt (.frz o (.tup (ps.map V.ref)))) rw' (.tup [.str r.name, .str r.above, .ref tt]) fl = some (.lst fvs) := (upd_ne n_fr).trans ((upd_ne n_ft).trans ef9)
          have tkA : TK H' H9 := let ⟨_, _, _, z⟩ := s4; TK.kept z kf9
          have tkB := ((TK.new htt (.frz o (.tup (ps.map V.ref)))).trans (TK.new hrw (.tup [.str r.name, .str r.above, .ref tt]))).trans (TK.lst ef11 (.lst (fvs ++ [.ref rw'])))
          have tkZ := tkA.trans tkB
          have fl2 : fvs.length = rows.length := Paired.length hr4
          have rl2 : rows.length ≤ 12 := by
            have := congrArg List.length hn4
            rw [List.length_map, List.length_map, List.length_take] at this
            omega
          have dok : DuesOk dues := ⟨by rw [e3]; exact nd2, fun du hdu => ⟨(hws2 du.1 (by rw [← e3]; exact List.mem_map.mpr ⟨du, hdu, rfl⟩)).1, (e4 du hdu).1⟩⟩
          refine ⟨fl, _, _, rfl, rfl, ef11, small1000 (by omega), ?_⟩
          refine ⟨_, _, _, _, _, fvs ++ [.ref rw'], rows ++ [⟨r.name, r.above, dues⟩], rfl, src_upd (src_new (src_new s9 htt) hrw) npf, ?_, (upd_ne n_l_f).trans ((upd_ne n_lr).trans ((upd_ne n_lt).trans el9)), upd_same, (upd_ne n_f_e.symm).trans ((upd_ne n_er).trans ((upd_ne n_et).trans ee9)),
            paired_monoM (fun v q hq z => tkZ.row (plain_ok hplain q hq) z) hp4, paired_snoc ?_ (paired_monoM (fun v q hq z => tkZ.row (hg4 q hq).1 z) hr4), ?_, ?_, ?_⟩
          · intro b2 o2 hb e
            have z := kf9 b2 o2 hb (k4 b2 o2 hb e)
            rw [upd_ne (ne_of_none e nfl), upd_ne (ne_of_none z hrw2), upd_ne (ne_of_none z htt)]
            exact z
          · refine ⟨rw', tt, rfl, SqT.of ?_, ps, ⟨o, ho, ?_⟩, paired_monoM (fun q du hdu z => ?_) e2⟩
            · rw [upd_ne n_fr.symm]
              exact upd_same
            · rw [upd_ne n_ft.symm, upd_ne nrt.symm]
              exact upd_same
            · obtain ⟨u, z1, z2⟩ := z
              exact ⟨u, tkB.seqT z1, tkB.val (e4 du hdu).1 z2⟩
          · rw [List.map_append, hn4, List.take_add_one, hr1, Option.toList_some, List.map_append]
            rfl
          · rw [List.map_append, ha4, List.take_add_one, hr1, Option.toList_some, List.map_append]
            rfl
          · intro q hq
            rcases List.mem_append.mp hq with h | h
            · exact hg4 q h
            · cases List.mem_singleton.mp h
              refine ⟨dok, fun du hdu => (e4 du hdu).2, fun ⟨du, hdu, et⟩ => ?_⟩
              exact (hws2 du.1 (by rw [← e3]; exact List.mem_map.mpr ⟨du, hdu, rfl⟩)).2 et
  · rintro σ H' ⟨o5, o6, o7, o8, o9, fvs, rows, rfl, s4, k4, el4, ef4, ee4, hp4, hr4, hn4, ha4, hg4⟩
    have xl : pvs.length = plain.length := Paired.length hpr
    rw [xl, List.take_length] at hn4 ha4
    exact ⟨_, rfl, q fl H' fvs rows nfl ef4 hr4 (full_rows_ok hplain hnd hmem hn4 ha4 hg4 he) (by
      have := congrArg List.length hn4
      rw [List.length_map, List.length_map] at this
      omega) s4 k4⟩

end
end Bd
end

section
namespace Bd
open PySem L2
abbrev sCheckGroup : Stmt := (top 35)
theorem scCheckGroup : FnScope ["tree", "name"] ["tree", "name"] (defScope sCheckGroup) := ⟨rfl, rfl, rfl, by decide +kernel, rfl, by decide +kernel, by decide +kernel⟩
abbrev sTNames : Stmt := (inClass (top 33) 2)
theorem scTNames : FnScope ["self"] ["self"] (defScope sTNames) := ⟨rfl, rfl, rfl, by decide +kernel, rfl, by decide +kernel, by decide +kernel⟩
abbrev sTAbove : Stmt := (inClass (top 33) 3)
theorem scTAbove : FnScope ["self", "name"] ["self", "name"] (defScope sTAbove) := ⟨rfl, rfl, rfl, by decide +kernel, rfl, by decide +kernel, by decide +kernel⟩
abbrev sTLeaves : Stmt := (inClass (top 33) 5)
theorem scTLeaves : FnScope ["self", "name"] ["self"] (defScope sTLeaves) := ⟨rfl, rfl, rfl, by decide +kernel, rfl, by decide +kernel, by decide +kernel⟩
abbrev sTDue : Stmt := (inClass (top 33) 7)
theorem scTDue : FnScope ["self", "name", "word"] ["self", "name", "word"] (defScope sTDue) := ⟨rfl, rfl, rfl, by decide +kernel, rfl, by decide +kernel, by decide +kernel⟩
abbrev sTHanding : Stmt := (inClass (top 33) 8)
theorem scTHanding : FnScope ["self"] ["self"] (defScope sTHanding) := ⟨rfl, rfl, rfl, by decide +kernel, rfl, by decide +kernel, by decide +kernel⟩

/-- a def that may raise, as its callers see it -/
structure CalX (P : Program) (w : World) (K : PySem.W.Frag) (mg : Str → Option Value) (base : Heap) (x : Str) (ps : List Str) (k : Nat) (sp : Sp) (f : Addr) (fd : FuncData) : Prop where
  ok : FnOk P w K mg base (L2.CX P w) k f fd ps sp
  mg : mg x = some (.ref f)
  kp : PySem.W.keepIn K (.ref f) = true
  bd : Binds K fd ps []
/-- an own error without a maker of its own -/
structure XN (K : PySem.W.Frag) (mg : Str → Option Value) (x : Str) (C : Addr) : Prop where
  q : PySem.W.excIn K C [.type "ValueError", .type "Exception", .type "BaseException", .type "object"] "ValueError.__new__" = true
  g : mg x = some (.ref C)
  k : PySem.W.keepIn K (.ref C) = true
  r1 : PySem.W.subIn K (.ref C) (.type "BaseException") = some true
  r2 : PySem.W.typeIn K (.ref C) = some (.type "type")
/-- no text of these -/
def OddN (K : PySem.W.Frag) (H : Hp) (xs : List Str) (v : V) : Prop := (∃ t : String, TyX K H v (.type t) ∧ kitB t "str" = some false) ∨ ∃ x, v = .str x ∧ x ∉ xs
def nms (rows : List RowM) : List Str := rows.map (·.name)
def spCG (K : PySem.W.Frag) (C CN : Addr) : Sp := fun vs H Q E => ∃ (p : Addr) (v : V) (rows : List RowM) (h : Bool) (tk : List (Key × V)), vs = [.ref p, v] ∧ TreeAt K H C p rows h tk ∧
  ((∃ x, v = .str x ∧ x ∈ nms rows ∧ Q .non H) ∨ (OddN K H (nms rows) v ∧ E (.ref CN) none H))
def spTNames (K : PySem.W.Frag) (C : Addr) : Sp := fun vs H Q _ => ∃ (p : Addr) (rows : List RowM) (h : Bool) (tk : List (Key × V)), vs = [.ref p] ∧ TreeAt K H C p rows h tk ∧ ∀ l, H l = none → Q (.ref l) (upd H l (.lst ((nms rows).map .str)))
def spTHanding (K : PySem.W.Frag) (C : Addr) : Sp := fun vs H Q _ => ∃ (p : Addr) (rows : List RowM) (h : Bool) (tk : List (Key × V)), vs = [.ref p] ∧ TreeAt K H C p rows h tk ∧ Q (.bl h) H
def spTAbove (K : PySem.W.Frag) (C CN : Addr) : Sp := fun vs H Q E => ∃ (p : Addr) (v : V) (rows : List RowM) (h : Bool) (tk : List (Key × V)), vs = [.ref p, v] ∧ TreeAt K H C p rows h tk ∧ (nms rows).Nodup ∧
  ((∃ r ∈ rows, v = .str r.name ∧ Q (.str r.above) H) ∨ (OddN K H (nms rows) v ∧ E (.ref CN) none H))
def spTKids (K : PySem.W.Frag) (C CN : Addr) : Sp := fun vs H Q E => ∃ (p : Addr) (v : V) (rows : List RowM) (h : Bool) (tk : List (Key × V)), vs = [.ref p, v] ∧ TreeAt K H C p rows h tk ∧ RowsOk rows ∧
  ((∃ x, v = .str x ∧ x ∈ ("" : Str) :: nms rows ∧ ∀ l, H l = none → Q (.ref l) (upd H l (.lst ((kidsOf rows (Sum.inr x)).map .str)))) ∨ (OddN K H (("" : Str) :: nms rows) v ∧ E (.ref CN) none H))
def spTLeaves (K : PySem.W.Frag) (C : Addr) : Sp := fun vs H Q _ => ∃ (p : Addr) (rows : List RowM) (h : Bool) (tk : List (Key × V)), vs = [.ref p] ∧ TreeAt K H C p rows h tk ∧ RowsOk rows ∧ rows.length ≤ 200 ∧ ∀ l, H l = none → Q (.ref l) (upd H l (.lst ((leavesOf rows).map .str)))
def upOf (rows : List RowM) (x : Str) : Str := ((rows.find? fun r => decide (r.name = x)).map (·.above)).getD ""
def upN (rows : List RowM) : Nat → Str → Str
  | 0, x => x
  | n + 1, x => upOf rows (upN rows n x)
def pathL (rows : List RowM) (x : Str) (m : Nat) : List Str := (List.range m).map fun j => upN rows j x
/-- m steps up to the root, and no fewer -/
def UpM (rows : List RowM) (x : Str) (m : Nat) : Prop := (∀ j < m, upN rows j x ∈ nms rows) ∧ upN rows m x = ""
def spTPath (K : PySem.W.Frag) (C CN : Addr) : Sp := fun vs H Q E => ∃ (p : Addr) (v : V) (rows : List RowM) (h : Bool) (tk : List (Key × V)), vs = [.ref p, v] ∧ TreeAt K H C p rows h tk ∧ (nms rows).Nodup ∧ ("" : Str) ∉ nms rows ∧
  ((∃ x m, v = .str x ∧ x ∈ nms rows ∧ UpM rows x m ∧ m ≤ 200 ∧ ∀ l, H l = none → Q (.ref l) (upd H l (.lst ((pathL rows x m).map .str)))) ∨ (OddN K H (nms rows) v ∧ E (.ref CN) none H))
def spTDue (K : PySem.W.Frag) (C CN CW : Addr) : Sp := fun vs H Q E => ∃ (p : Addr) (v wv : V) (rows : List RowM) (h : Bool) (tk : List (Key × V)), vs = [.ref p, v, wv] ∧ TreeAt K H C p rows h tk ∧ (nms rows).Nodup ∧
  ((∃ r ∈ rows, v = .str r.name ∧ ((∃ x ∈ leftW, wv = .str x ∧ ∀ u d, dueOf (fullD r.dues) x = some d → Dp K H u d → Q u H) ∨ (OddN K H leftW wv ∧ E (.ref CW) none H))) ∨ (OddN K H (nms rows) v ∧ E (.ref CN) none H))
def spIsWord2 (K : PySem.W.Frag) : Sp := fun vs H Q _ => ∃ v : V, vs = [v] ∧ ((∃ x ∈ leftW, v = .str x ∧ Q (.bl true) H) ∨ (OddN K H leftW v ∧ Q (.bl false) H))
section
variable {P : Program} {w : World} {K : PySem.W.Frag} {mg : Str → Option Value} {base : Heap} {aL C CN CW : Addr} {left : List (Key × V)}
theorem par_val (rows : List RowM) (x : Str) : (valV (rows.map fun r => ((Sum.inr r.name : Key), V.str r.above)) (Sum.inr x)).isSome = decide (x ∈ nms rows) := by
  by_cases c : x ∈ nms rows
  · rw [decide_eq_true c]
    refine val_some ?_
    rw [List.map_map]
    obtain ⟨r, hr, e⟩ := List.mem_map.mp c
    exact List.mem_map.mpr ⟨r, hr, by rw [← e]; rfl⟩
  · rw [decide_eq_false c]
    rw [keys_none fun m => c ?_]
    · rfl
    · rw [List.map_map] at m
      obtain ⟨r, hr, e⟩ := List.mem_map.mp m
      exact List.mem_map.mpr ⟨r, hr, Sum.inr.inj e⟩
theorem ok_isWord2 {f : Addr} {fd : FuncData} (F : Fun K "is_word" "is_word" sIsWord f fd) (T : TP P w K mg aL left) : FnOk P w K mg base CX0 1 f fd ["thing"] (spIsWord2 K) := by
  refine F.ok scIsWord (fun vs H Q E h => ?_) (fun cdv A outer s H vs Q E hr h => ?_)
  · obtain ⟨v, rfl, _⟩ := h
    rfl
  obtain ⟨v, rfl, h⟩ := h
  refine ⟨_, (pss_one (ps_ret (pe_and (pe_callB call_isi (by rfl) T.z_isinstance (by decide +kernel) (pa_cons (pv 0) (pa_cons (pe_bltn (v := .ty "str") (u := .type "str") (by rfl) T.z_str (by decide +kernel) rfl) pa_nil))) (pe_one (pe_cmpR op_inT (pv 0) (pe_glob (v := .ref aL) rfl T.g_LEFT_OUT rfl) (by first | exact nomark _ | rfl)))))), ?_⟩
  rcases h with ⟨x, hx, rfl, q⟩ | ⟨⟨t, ty, kt⟩ | ⟨x, rfl, hx⟩, q⟩
  · refine ⟨_, rfl, _, _, _, _, true, rfl, .ty _, .base (.str _), kit_ty (by decide +kernel), true, rfl, ?_⟩
    refine ⟨_, rfl, aL, left, Sum.inr x, rfl, rfl, T.tab, ?_⟩
    rw [val_some (k := (Sum.inr x : Key)) (by rw [T.keys]; exact List.mem_map.mpr ⟨x, hx, rfl⟩)]
    exact q
  · exact ⟨_, rfl, _, _, _, _, false, rfl, .ty _, ty, kit_ty kt, false, rfl, iteF q⟩
  · refine ⟨_, rfl, _, _, _, _, true, rfl, .ty _, .base (.str _), kit_ty (by decide +kernel), true, rfl, ?_⟩
    refine ⟨_, rfl, aL, left, Sum.inr x, rfl, rfl, T.tab, ?_⟩
    rw [keys_none (k := (Sum.inr x : Key)) (by
      rw [T.keys]
      intro m
      obtain ⟨y, hy, e⟩ := List.mem_map.mp m
      exact hx (Sum.inr.inj e ▸ hy))]
    exact q
theorem ok_checkGroup {f : Addr} {fd : FuncData} (F : Fun K "check_group" "check_group" sCheckGroup f fd) (T : TP P w K mg aL left) (TCl : TC K mg C) (XN : XN K mg "NoName" CN) : FnOk P w K mg base (L2.CX P w) 1 f fd ["tree", "name"] (spCG K C CN) := by
  refine F.okX scCheckGroup (fun vs H Q E h => ?_) (fun cdv A outer s H vs Q E hr h => ?_)
  · obtain ⟨p, v, rows, h, tk, rfl, _⟩ := h
    rfl
  obtain ⟨p, v, rows, h, tk, rfl, ⟨dx, po, pp, pk, pt, o1, o2, o3, o4, o5, o6⟩, q⟩ := h
  have hu := hu_of hr
  refine ⟨_, (pss_one (ps_if (PW.pt (pw_or (pt_not (pt_val (pe_callB call_isi (by rfl) T.z_isinstance (by decide +kernel) (pa_cons (pv 1) (pa_cons (pe_bltn (v := .ty "str") (u := .type "str") (by rfl) T.z_str (by decide +kernel) rfl) pa_nil))))) (pw_or1 (pt_cmp (pc_dnotin hu (pv 1) (pe_fld (pv 0) rfl)))))) (pss_one (ps_raise rfl (takes_of rfl rfl rfl rfl) (pmk_own PySem.F.excBase_ValueError XN.q XN.g XN.k (raises_own XN.r1 XN.r2) rfl))) pss_nil)), ?_⟩
  rcases q with ⟨x, rfl, hx, q⟩ | ⟨⟨t, ty, kt⟩ | ⟨x, rfl, hx⟩, q⟩
  · refine ⟨_, rfl, _, _, _, _, true, rfl, .ty _, .base (.str _), kit_ty (by decide +kernel), true, rfl, ?_⟩
    refine iteF ?_
    refine ⟨_, rfl, _, rfl, p, C, dx, _, _, rfl, o1, TCl.cl, TCl.n_parents, tf5_parents, pp, _, rfl, DGet.k (k := Sum.inr x) o3, ?_⟩
    rw [par_val, decide_eq_true hx]
    exact ⟨false, rfl, iteF q⟩
  · exact ⟨_, rfl, _, _, _, _, false, rfl, .ty _, ty, kit_ty kt, false, rfl, iteT q⟩
  · refine ⟨_, rfl, _, _, _, _, true, rfl, .ty _, .base (.str _), kit_ty (by decide +kernel), true, rfl, ?_⟩
    refine iteF ?_
    refine ⟨_, rfl, _, rfl, p, C, dx, _, _, rfl, o1, TCl.cl, TCl.n_parents, tf5_parents, pp, _, rfl, DGet.k (k := Sum.inr x) o3, ?_⟩
    rw [par_val, decide_eq_false hx]
    exact ⟨true, rfl, iteT q⟩
theorem ok_tnames {f : Addr} {fd : FuncData} (F : Fun K "names" "Tree.names" sTNames f fd) (T : TP P w K mg aL left) (TCl : TC K mg C) : FnOk P w K mg base CX0 1 f fd ["self"] (spTNames K C) := by
  refine F.ok scTNames (fun vs H Q E h => ?_) (fun cdv A outer s H vs Q E hr h => ?_)
  · obtain ⟨p, rows, h, tk, rfl, _⟩ := h
    rfl
  obtain ⟨p, rows, h, tk, rfl, ⟨dx, po, pp, pk, pt, o1, o2, o3, o4, o5, o6⟩, q⟩ := h
  refine ⟨_, (pss_one (ps_ret (pe_callTy call_list_of (by rfl) T.z_list (by decide +kernel) (pa_cons (pe_fld (pv 0) rfl) pa_nil)))), ?_⟩
  refine ⟨_, rfl, p, C, dx, _, _, rfl, o1, TCl.cl, TCl.n_order, tf5_order, po, _, rfl, .inl (SqL.of o2), fun l hl => ?_⟩
  have := q l hl
  unfold nms at this
  rw [List.map_map] at this
  exact this
theorem ok_thanding {f : Addr} {fd : FuncData} (F : Fun K "handing" "Tree.handing" sTHanding f fd) (TCl : TC K mg C) : FnOk P w K mg base CX0 1 f fd ["self"] (spTHanding K C) := by
  refine F.ok scTHanding (fun vs H Q E h => ?_) (fun cdv A outer s H vs Q E hr h => ?_)
  · obtain ⟨p, rows, h, tk, rfl, _⟩ := h
    rfl
  obtain ⟨p, rows, h, tk, rfl, ⟨dx, po, pp, pk, pt, o1, o2, o3, o4, o5, o6⟩, q⟩ := h
  refine ⟨_, (pss_one (ps_ret (pe_fld (pv 0) rfl))), ?_⟩
  exact ⟨_, rfl, p, C, dx, _, _, rfl, o1, TCl.cl, TCl.n_hands, tf5_hands, q⟩
theorem par_get {rows : List RowM} (nd : (nms rows).Nodup) {r : RowM} (hr : r ∈ rows) : valV (rows.map fun r => ((Sum.inr r.name : Key), V.str r.above)) (Sum.inr r.name) = some (.str r.above) := by
  have nk : ((rows.map fun r => ((Sum.inr r.name : Key), V.str r.above)).map (·.1)).Nodup := by
    have := nodup_inr nd
    unfold nms at this
    rw [List.map_map] at this ⊢
    exact this
  exact val_nd nk ((Sum.inr r.name : Key), V.str r.above) (List.mem_map.mpr ⟨r, hr, rfl⟩)
theorem ok_tabove {f g : Addr} {fd gd : FuncData} (F : Fun K "above" "Tree.above" sTAbove f fd) (TCl : TC K mg C) (cG : CalX P w K mg base "check_group" ["tree", "name"] 1 (spCG K C CN) g gd) : FnOk P w K mg base (L2.CX P w) 2 f fd ["self", "name"] (spTAbove K C CN) := by
  refine F.okX scTAbove (fun vs H Q E h => ?_) (fun cdv A outer s H vs Q E hr h => ?_)
  · obtain ⟨p, v, rows, h, tk, rfl, _⟩ := h
    rfl
  obtain ⟨p, v, rows, h, tk, rfl, ht, nd, q⟩ := h
  have hu := hu_of hr
  refine ⟨_, (pss_cons (ps_expr (pe_call cG.ok (hr.mono (by decide)) rfl cG.mg cG.kp cG.bd .nil (passes_call (takes_of rfl rfl rfl rfl) fun _ _ _ _ h => h) (pa_cons (pv 0) (pa_cons (pv 1) pa_nil)))) (pss_one (ps_ret (pe_dget hu (pe_fld (pv 0) rfl) (pv 1) (fun _ _ => rfl))))), ?_⟩
  rcases q with ⟨r, hrm, rfl, q⟩ | ⟨odd, q⟩
  · refine ⟨_, rfl, _, rfl, p, _, rows, h, tk, rfl, ht, .inl ⟨_, rfl, List.mem_map.mpr ⟨r, hrm, rfl⟩, ?_⟩⟩
    obtain ⟨dx, po, pp, pk, pt, o1, o2, o3, o4, o5, o6⟩ := ht
    exact ⟨_, rfl, p, C, dx, _, _, rfl, o1, TCl.cl, TCl.n_parents, tf5_parents, _, rfl, pp, _, rfl, dget_of o3 (par_get nd hrm), q⟩
  · exact ⟨_, rfl, _, rfl, p, _, rows, h, tk, rfl, ht, .inr ⟨odd, q⟩⟩
theorem kid_get {H : Hp} {pk : Addr} {rows : List RowM} (h : KidsAt H pk rows) (nd : (nms rows).Nodup) (ne : ("" : Str) ∉ nms rows) {x : Str} (hx : x ∈ ("" : Str) :: nms rows) : ∃ l ks, H pk = some (.dK ks) ∧ valV ks (Sum.inr x) = some (.ref l) ∧ H l = some (.lst ((kidsOf rows (Sum.inr x)).map .str)) := by
  obtain ⟨ks, k1, k2, k3⟩ := h
  have hk : (Sum.inr x : Key) ∈ ks.map (·.1) := by
    rw [k2]
    rcases List.mem_cons.mp hx with rfl | m
    · exact List.mem_cons_self
    · obtain ⟨r, hr, rfl⟩ := List.mem_map.mp m
      exact List.mem_cons_of_mem _ (List.mem_map.mpr ⟨r, hr, rfl⟩)
  obtain ⟨kv, hkv, e⟩ := List.mem_map.mp hk
  have nk : (ks.map (·.1)).Nodup := by
    rw [k2]
    refine List.nodup_cons.mpr ⟨fun m => ?_, ?_⟩
    · obtain ⟨r, hr, e⟩ := List.mem_map.mp m
      exact ne (List.mem_map.mpr ⟨r, hr, Sum.inr.inj e⟩)
    · have := nodup_inr nd
      unfold nms at this
      rw [List.map_map] at this
      exact this
  obtain ⟨l, e1, e2⟩ := k3 kv hkv
  have := val_nd nk kv hkv
  rw [e, e1] at this
  rw [e] at e2
  exact ⟨l, ks, k1, this, e2⟩
theorem kid_val {ks : List (Key × V)} {rows : List RowM} (k2 : ks.map (·.1) = (Sum.inr "" : Key) :: rows.map (fun r => (Sum.inr r.name : Key))) (x : Str) : (valV ks (Sum.inr x)).isSome = decide (x ∈ ("" : Str) :: nms rows) := by
  have e : (Sum.inr x : Key) ∈ ks.map (·.1) ↔ x ∈ ("" : Str) :: nms rows := by
    rw [k2, List.mem_cons, List.mem_cons]
    constructor
    · rintro (z | m)
      · exact .inl (Sum.inr.inj z)
      · obtain ⟨r, hr, z⟩ := List.mem_map.mp m
        exact .inr (List.mem_map.mpr ⟨r, hr, Sum.inr.inj z⟩)
    · rintro (rfl | m)
      · exact .inl rfl
      · obtain ⟨r, hr, rfl⟩ := List.mem_map.mp m
        exact .inr (List.mem_map.mpr ⟨r, hr, rfl⟩)
  by_cases c : x ∈ ("" : Str) :: nms rows
  · rw [decide_eq_true c]
    exact val_some (e.mpr c)
  · rw [decide_eq_false c, keys_none fun m => c (e.mp m)]
    rfl
theorem nms_nd {rows : List RowM} (h : RowsOk rows) : (nms rows).Nodup := by
  have := names_nd h rows.length
  rw [List.take_length] at this
  exact this
theorem nms_ne {rows : List RowM} (h : RowsOk rows) : ("" : Str) ∉ nms rows := fun m => by
  obtain ⟨r, hr, e⟩ := List.mem_map.mp m
  obtain ⟨i, hi⟩ := List.mem_iff_getElem?.mp hr
  have := (h i r hi).1.1
  rw [e] at this
  exact absurd this (by decide +kernel)
end
end Bd
end

section
namespace Bd
open PySem L2 PySem.Spec PyProof.Rows
section
variable {X : Cx}
/-- xs.count(y), all flat -/
theorem mt_fcount : MtR X "list.count" (fun x xs H Q => ∃ (a : Addr) (ys : List V) (y : V), x = V.ref a ∧ xs = [y] ∧ SqL X.K H a ys ∧ flatV y = true ∧ ys.all flatV = true ∧ Q (.int ((ys.countP fun z => eqV z y : Nat) : Int)) H) := by
  intro pins s σ H x xs v us Q I rx rxs h
  obtain ⟨a, ys, y, rfl, rfl, hs, fy, fys, q⟩ := h
  cases rx
  cases rxs with
  | cons ry rt =>
    rename_i uy ut
    cases rt
    obtain ⟨its, rv, ⟨⟨cls, dd, data, sl⟩, n, ho, hc, hdn, hd⟩, hlen⟩ := I.list hs
    simp only at hc hd
    subst hc hd
    refine call_meets PySem.F.slot_list_count ⟨_, ho, rfl⟩ PySem.F.entry_list_count (PySem.F.args_list_count_2 _ _)
      (SeqAt.list_countAt a its.toArray n dd sl uy (eqU y)) ⟨ho, fun u' hu' => mem_eqAt ry fy rv fys u' (by simpa using hu'), ?_⟩
    have ec : its.toArray.toList.countP (eqU y) = ys.countP fun z => eqV z y := by
      show its.countP (eqU y) = _
      clear q hs ho hlen hdn
      induction rv with
      | nil => rfl
      | cons r1 r2 ih =>
        have f1 := fys
        rw [List.all_cons, Bool.and_eq_true] at f1
        rw [List.countP_cons, List.countP_cons, ih f1.2, eqU_of r1 f1.1]
    refine ⟨.int ((ys.countP fun z => eqV z y : Nat) : Int), H, I.tok _, ⟨s.toks, ?_⟩, q⟩
    rw [← ec]
/-- d.update(e), both dicts with keys ints and texts -/
def rUpd : V → List V → Hp → VK → Prop := fun x xs H Q => ∃ (a b : Addr) (ks ls : List (Key × V)), x = .ref a ∧ xs = [.ref b] ∧ a ≠ b ∧ H a = some (.dK ks) ∧ H b = some (.dK ls) ∧ ks.length + ls.length ≤ 1000 ∧ Q .non (upd H a (.dK (mergeK ks ls)))
theorem mtd_update : MtR X "dict.update" rUpd := by
  intro pins s σ H x xs v us Q I rx rxs h
  obtain ⟨a, b, ks, ls, rfl, rfl, ne, ha, hb, hz, q⟩ := h
  cases rx
  cases rxs with
  | cons ry rt =>
    cases rt
    cases ry
    obtain ⟨z0, lo0, vs0, r0, d0⟩ := dk_of I.hok ha
    obtain ⟨z1, lo1, vs1, r1, d1⟩ := dk_of I.hok hb
    have hm : (mergeK ks ls).length ≤ sizeLine := by
      have := length_mergeK ls ks
      exact small (by omega)
    refine call_meetsIn PySem.F.slot_dict_update d0.typeIs PySem.F.entry_dict_update (PySem.F.args_dict_update_2 _ _) (meets_dict_update (mixKind X.prog X.w) a b ne lo1)
      ⟨vs0, vs1, d0, d1, small (by rw [← r0.length, ← r1.length]; omega), fun h' hmm _ hs => ?_⟩
    have he : ∃ q, h'.get? a = some q := let ⟨q, _, _, hq, _⟩ := hmm; ⟨q, hq⟩
    exact ⟨.non, _, d_write (t' := s.toks) I (by rw [ha]; exact True.intro) hs he (dk_new (H' := upd H a (.dK (mergeK ks ls))) hm lo0 (r1.merge r0) hmm), rfl, q⟩
end
end Bd
end

section
namespace Bd
open PySem L2

theorem full_val {dues : List (Str × PyData)} (h : ∀ x ∈ dues, ValOk x.1 x.2) : ∀ wd ∈ fullD dues, ValOk wd.1 wd.2 := by
  intro wd m
  unfold fullD at m
  obtain ⟨ld, hl, rfl⟩ := List.mem_map.mp m
  show ValOk ld.1 ((dueOf dues ld.1).getD ld.2)
  cases c : dueOf dues ld.1 with
  | none => exact (leftD_ok ld hl).2
  | some d => exact h _ (dueOf_mem c)
theorem rows_due {rows : List RowM} (h : RowsOk rows) : ∀ r ∈ rows, DuesOk r.dues := fun r hr => by
  obtain ⟨j, hj⟩ := List.mem_iff_getElem?.mp hr
  exact (h j r hj).2.1
theorem TreeAt.same {K : PySem.W.Frag} {H H' : Hp} {C p : Addr} {rows : List RowM} {h : Bool} {tk : List (Key × V)} (k : Same H H') (ok : RowsOk rows) (t : TreeAt K H C p rows h tk) : TreeAt K H' C p rows h tk := by
  obtain ⟨dx, po, pp, pk, pt, o1, o2, o3, o4, o5, ks, k1, k2, k3⟩ := t
  refine ⟨dx, po, pp, pk, pt, k _ _ o1, k _ _ o2, k _ _ o3, k _ _ o4, paired_monoM (fun kv r hr z => ?_) o5, ks, k _ _ k1, k2, fun kv hkv => ?_⟩
  · obtain ⟨z1, d, z2, kvs, z3, z4⟩ := z
    exact ⟨z1, d, z2, kvs, k _ _ z3, paired_monoM (fun kv wd hw z => ⟨z.1, (TK.of k).val (full_val (fun x hx => ((rows_due ok r hr).2 x hx).2) wd hw) z.2⟩) z4⟩
  · obtain ⟨l, e1, e2⟩ := k3 kv hkv
    exact ⟨l, e1, k _ _ e2⟩
theorem rows_same {K : PySem.W.Frag} {H H' : Hp} (k : Same H H') {xs : List V} {rows : List RowM} (h : Paired (RowAt K H) xs rows) : Paired (RowAt K H') xs rows := paired_mono (fun _ _ z => RowAt.same k z) h
theorem kids_flt (rows : List RowM) (x : Str) : kidsOf rows (Sum.inr x) = (rows.filter fun r => decide (r.above = x)).map (·.name) := by
  unfold kidsOf
  congr 1
  refine List.filter_congr fun r _ => ?_
  by_cases c : r.above = x
  · rw [decide_eq_true c, c]
    simp
  · rw [decide_eq_false c]
    exact decide_eq_false fun z => c (Sum.inr.inj z)
theorem dec_strs (a b : Str) : decide (V.str a = V.str b) = decide (a = b) := by
  by_cases c : a = b
  · rw [c]
    simp
  · rw [decide_eq_false c]
    exact decide_eq_false fun z => c (V.str.inj z)
theorem flt_take (f : RowM → Bool) {rows : List RowM} {i : Nat} {r : RowM} (h : rows[i]? = some r) : (((rows.take (i + 1)).filter f).map (·.name)).map V.str = (((rows.take i).filter f).map (·.name)).map V.str ++ (if f r = true then [V.str r.name] else []) := by
  rw [List.take_add_one, h, Option.toList_some, List.filter_append, List.map_append, List.map_append]
  cases z : f r with
  | true =>
    rw [List.filter_cons_of_pos z]
    rfl
  | false =>
    rw [List.filter_cons_of_neg (by rw [z]; decide)]
    rfl
theorem ne_self {xs ys : List Str} (e : xs = ys) : (!PyData.eqv (.list (xs.map .str)) (.list (ys.map .str))) = false := by
  rw [eqv_strL, decide_eq_true e]
  rfl
theorem dp_strL {K : PySem.W.Frag} {H : Hp} {a : Addr} {xs : List Str} (h : H a = some (.lst (xs.map V.str))) : Dp K H (.ref a) (.list (xs.map .str)) := .lst (SqL.of h) (dp_strs xs)
theorem lay_nms {rows : List RowM} (ok : RowsOk rows) : ∀ x ∈ nms rows, PyData.canLay0 (.str x) = true := fun x hx => by
  obtain ⟨r, hr, rfl⟩ := List.mem_map.mp hx
  obtain ⟨m, hm⟩ := List.mem_iff_getElem?.mp hr
  exact lay_name (ok m r hm).1
theorem kids_in (rows : List RowM) (k : Key) : ∀ x ∈ kidsOf rows k, x ∈ nms rows := fun x hx => by
  obtain ⟨r, hr, rfl⟩ := List.mem_map.mp hx
  exact List.mem_map.mpr ⟨r, (List.mem_filter.mp hr).1, rfl⟩
theorem leaves_in (rows : List RowM) : ∀ x ∈ leavesOf rows, x ∈ nms rows := fun x hx => by
  obtain ⟨r, hr, rfl⟩ := List.mem_map.mp hx
  exact List.mem_map.mpr ⟨r, (List.mem_filter.mp hr).1, rfl⟩
theorem same_upd2 {H : Hp} {a b : Addr} {o u : HO} (ha : H a = none) (hb : upd H a o b = none) : Same H (upd (upd H a o) b u) := Same.new (Same.new (Same.refl H) ha o) hb u
theorem none_of_same {H H' : Hp} {a : Addr} (s : Same H H') (h : H' a = none) : H a = none := s.free h
/-- a list that is not in H may be changed -/
theorem Same.ch {H H1 : Hp} {a : Addr} (s : Same H H1) (h : H a = none) (o : HO) : Same H (upd H1 a o) := fun b u e => by
  rw [upd_ne (ne_of_none e h)]
  exact s b u e
end Bd
end

section
namespace Bd
open PySem L2
abbrev sSaid : Stmt := (top 48)
theorem scSaid : FnScope ["_law_ask", "e", "_law_marks"] ["_law_ask"] (defScope sSaid) := ⟨rfl, rfl, rfl, by decide +kernel, rfl, by decide +kernel, by decide +kernel⟩

section
variable {X : Cx}
/-- isinstance(e, c), e the exception that the suite holds, of an own class without a dict -/
theorem call_isE2 {a : Addr} {oe : Obj} {cls : Value} {d : Option Addr} {pn : List (Addr × Obj)} (hz : Zc cls d oe) (hf : ∃ vs, oe.data = .fields vs) :
    CallR (X.suite a ((a, oe) :: pn)) (.builtin "isinstance") (fun xs H Q => ∃ (D : Addr) (c : V) (cv : Value) (b : Bool), cls = .ref D ∧ d = none ∧ ExcC X.K D ∧ xs = [.ref a, c] ∧ (∀ u, RelV c u → u = cv) ∧ PySem.W.kitOne X.K (.ref D) cv = some b ∧ Q (.bl b) H) := by
  intro pins s σ H xs us Q I r h
  obtain ⟨D, c, cv, b, rfl, rfl, C, rfl, hcv, e, q⟩ := h
  exact call_isE C hz hf pins s σ H _ us Q I r ⟨c, cv, b, rfl, hcv, e, q⟩
end
/-- what of the errors' classes the law asks -/
structure XS (mg : Str → Option Value) (CE : Addr) (ec : Nat → Addr) : Prop where
  gE : mg "DueError" = some (.ref CE)
  z_VE : mg "ValueError" = none
  z_isi : mg "isinstance" = none
  g0 : mg "NoTree" = some (.ref (ec 0))
  g1 : mg "NoName" = some (.ref (ec 1))
  g2 : mg "NoWord" = some (.ref (ec 2))
  g3 : mg "NoDue" = some (.ref (ec 3))
  g4 : mg "NoUses" = some (.ref (ec 4))
  g5 : mg "NoKind" = some (.ref (ec 5))
  g6 : mg "NoAmount" = some (.ref (ec 6))
/-- the i-th class, raised -/
structure XD (K : PySem.W.Frag) (CE : Addr) (ec : Nat → Addr) (i : Nat) : Prop where
  exc : ExcC K (ec i)
  exm : PySem.W.exmOne K (.ref (ec i)) (.ref CE) = some true
  m : ∀ j < 7, PySem.W.kitOne K (.ref (ec i)) (.ref (ec j)) = some (decide (j = i))
  v : PySem.W.kitOne K (.ref (ec i)) (.type "ValueError") = some true
def saidW : List Str := ["tree", "name", "word", "due", "uses", "kind", "amount"]
/-- what the def that calls the lambda makes of its reading -/
def TSaid (K : PySem.W.Frag) (CE : Addr) (ec : Nat → Addr) : (XK → Hp → VK → Prop) → Hp → VK → Prop := fun tl H Q =>
  tl (fun cls d H' => ∃ (i : Nat) (x : Str), cls = .ref (ec i) ∧ d = none ∧ 0 < i ∧ i < 7 ∧ XD K CE ec i ∧ saidW[i]? = some x ∧ ∀ H'', Same H' H'' → Q (.str x) H'') H (fun _ H' => Q .non H')
section
variable {X : Cx} {CE : Addr} {ec : Nat → Addr}
abbrev cxSaid (X : Cx) (g : Addr) (cdg : Value) (s : Shared) (H : Hp) : Cx := (cxOf C8.CX0 X.prog X.w X.K X.mg X.base ["_law_ask", "e", "_law_marks"] "_law_said" (defScope sSaid) g cdg X.A X.stack s H C8.E0).nox
/-- the suite of the first except clause -/
def excSuite (st : Stmt) : List Stmt := match defBody st with
  | .Try _ (.ExceptHandler _ _ su _ :: _) _ _ _ :: _ => su
  | _ => []
theorem ty_only {T : String} : ∀ u, RelV (.ty T) u → u = .type T := fun u r => r
theorem ref_only {a : Addr} : ∀ u, RelV (.ref a) u → u = .ref a := fun u r => r
theorem said_gives {q : Str} {g : Addr} {cdg : Value} (XS : XS X.mg CE ec) :
    LamX.GivesTo X ["_law_ask", "e", "_law_marks"] "_law_said" (defScope sSaid) g cdg (defBody sSaid) "_law_ask" q (TSaid X.K CE ec) := by
  intro f c' s H Q tl act hc h
  refine ⟨_, pss_cons (ps_try_as (X := (cxOf C8.CX0 X.prog X.w X.K X.mg X.base ["_law_ask", "e", "_law_marks"] "_law_said" (defScope sSaid) g cdg X.A X.stack s H C8.E0).nox) (i := 1) (c := .ref CE)
      (ts := fun a cls d D σ H2 => σ.length = 3 → ∀ (oe : Obj) (pn : List (Addr × Obj)), Zc cls d oe → (∃ vs, oe.data = .fields vs) → ∃ t, PSs ((cxSaid X g cdg s H).suite a ((a, oe) :: pn)) (excSuite sSaid) t ∧ t D σ H2) (tb := fun W D σ H => ∃ Ech : XK, (∀ cls d σ' H', Ech cls d H' → W cls d σ' H') ∧ σ[0]? = some (some (.ref f)) ∧ H c' = some (LamX.CodeO c' q) ∧ tl Ech H fun _ H' => D.nx σ H')
      rfl rfl scSaid.nd rfl rfl ⟨rfl, by decide, .inl XS.gE⟩ takes0 (fun W pn xe tk _ => ?_) (fun a oe cls d pn hz hf => ⟨fun pins s' σ' H' D I h' => by
        obtain ⟨t, h1, h2⟩ := h' I.len oe pn hz hf
        exact h1.run pins s' σ' H' D I h2⟩)) (pss_one (ps_ret pe_non)), ?_⟩
  · refine ⟨fun pins s' σ H' D I h' => ?_⟩
    obtain ⟨Ech, hW, h1, h2, h3⟩ := h'
    exact (pss_one (ps_expr (act W pn xe Ech _ _ tk hW))).run pins s' σ H' D I ⟨h1, h2, h3⟩
  · refine ⟨fun cls d H' => ∃ (i : Nat) (x : Str), cls = .ref (ec i) ∧ d = none ∧ 0 < i ∧ i < 7 ∧ XD X.K CE ec i ∧ saidW[i]? = some x ∧ ∀ H'', Same H' H'' → Q (.str x) H'', fun cls d σ' H' hE => ?_, rfl, hc, h⟩
    obtain ⟨i, x, rfl, rfl, i0, i7, D, hx, q⟩ := hE
    refine ⟨true, D.exm, fun _ a ha hl oe pn hz hf => ?_, fun z => by cases z⟩
    rw [List.length_set] at hl
    obtain ⟨x0, x1, x2, rfl⟩ : ∃ x0 x1 x2, σ' = [x0, x1, x2] := by
      match σ', hl with
      | [x0, x1, x2], _ => exact ⟨x0, x1, x2, rfl⟩
    refine ⟨_, (pss_cons (ps_set (i := 2) scSaid.nd rfl (Or.inl rfl) (pe_lst (pa_cons (pe_callB (call_isE2 hz hf) (by rfl) XS.z_isi (by decide +kernel) (pa_cons (pv 1) (pa_cons (pe_glob (v := .ref (ec 0)) rfl XS.g0 rfl) pa_nil))) (pa_cons (pe_callB (call_isE2 hz hf) (by rfl) XS.z_isi (by decide +kernel) (pa_cons (pv 1) (pa_cons (pe_glob (v := .ref (ec 1)) rfl XS.g1 rfl) pa_nil))) (pa_cons (pe_callB (call_isE2 hz hf) (by rfl) XS.z_isi (by decide +kernel) (pa_cons (pv 1) (pa_cons (pe_glob (v := .ref (ec 2)) rfl XS.g2 rfl) pa_nil))) (pa_cons (pe_callB (call_isE2 hz hf) (by rfl) XS.z_isi (by decide +kernel) (pa_cons (pv 1) (pa_cons (pe_glob (v := .ref (ec 3)) rfl XS.g3 rfl) pa_nil))) pa_nil)))))) (pss_cons (ps_set (i := 2) scSaid.nd rfl (Or.inl rfl) (pe_op op_cat (pv 2) (pe_lst (pa_cons (pe_callB (call_isE2 hz hf) (by rfl) XS.z_isi (by decide +kernel) (pa_cons (pv 1) (pa_cons (pe_glob (v := .ref (ec 4)) rfl XS.g4 rfl) pa_nil))) (pa_cons (pe_callB (call_isE2 hz hf) (by rfl) XS.z_isi (by decide +kernel) (pa_cons (pv 1) (pa_cons (pe_glob (v := .ref (ec 5)) rfl XS.g5 rfl) pa_nil))) (pa_cons (pe_callB (call_isE2 hz hf) (by rfl) XS.z_isi (by decide +kernel) (pa_cons (pv 1) (pa_cons (pe_glob (v := .ref (ec 6)) rfl XS.g6 rfl) pa_nil))) pa_nil)))))) (pss_cons (ps_if (PW.pt (pw_or (pt_cmpR op_ne (pe_bm PySem.F.plainAttrs_list PySem.F.slot_list_count PySem.F.type_list_count mt_fcount (pv 2) (pa_cons pe_bl pa_nil)) pe_int (nomark _)) (pw_or1 (pt_not (pt_val (pe_callB (call_isE2 hz hf) (by rfl) XS.z_isi (by decide +kernel) (pa_cons (pv 1) (pa_cons (pe_bltn (v := .ty "ValueError") (u := .type "ValueError") (by rfl) XS.z_VE (by decide +kernel) rfl) pa_nil)))))))) (pss_one (ps_ret pe_str)) pss_nil) (pss_cons (ps_if (pt_val (pe_ix ix_list (pv 2) pe_int (fun _ _ => rfl))) (pss_one ps_never) pss_nil) (pss_one (ps_ret (pe_ix ix_list (pe_lst (pa_cons pe_str (pa_cons pe_str (pa_cons pe_str (pa_cons pe_str (pa_cons pe_str (pa_cons pe_str (pa_cons pe_str pa_nil)))))))) (pe_bm PySem.F.plainAttrs_list PySem.F.slot_list_index PySem.F.type_list_index mt_index (pv 2) (pa_cons pe_bl pa_nil)) (fun _ _ => rfl)))))))), ?_⟩
    rcases (show i = 1 ∨ i = 2 ∨ i = 3 ∨ i = 4 ∨ i = 5 ∨ i = 6 by omega) with rfl | rfl | rfl | rfl | rfl | rfl
    · obtain rfl := Option.some.inj hx
      refine ⟨_, rfl, ec 1, _, .ref (ec 0), _, rfl, rfl, D.exc, rfl, ref_only, D.m 0 (by decide), _, rfl, ec 1, _, .ref (ec 1), _, rfl, rfl, D.exc, rfl, ref_only, D.m 1 (by decide), _, rfl, ec 1, _, .ref (ec 2), _, rfl, rfl, D.exc, rfl, ref_only, D.m 2 (by decide), _, rfl, ec 1, _, .ref (ec 3), _, rfl, rfl, D.exc, rfl, ref_only, D.m 3 (by decide), by show 4 ≤ sizeLine; decide, fun l1 hl1 => ?_⟩
      refine ⟨_, rfl, _, rfl, ec 1, _, .ref (ec 4), _, rfl, rfl, D.exc, rfl, ref_only, D.m 4 (by decide), _, rfl, ec 1, _, .ref (ec 5), _, rfl, rfl, D.exc, rfl, ref_only, D.m 5 (by decide), _, rfl, ec 1, _, .ref (ec 6), _, rfl, rfl, D.exc, rfl, ref_only, D.m 6 (by decide), by show 3 ≤ sizeLine; decide, fun l2 hl2 => ⟨l1, l2, _, _, rfl, rfl, (upd_ne (none_upd hl2).1.symm).trans upd_same, upd_same, by show 4 + 3 ≤ sizeLine; decide, fun l3 hl3 => ?_⟩⟩
      refine ⟨_, rfl, .inl ⟨rfl, _, SqL.of upd_same⟩, l3, _, .bl true, rfl, rfl, SqL.of upd_same, rfl, rfl, rfl, false, congrArg V.bl (by decide +kernel), iteF ?_⟩
      refine ⟨_, rfl, ec 1, _, .type "ValueError", true, rfl, rfl, D.exc, rfl, ty_only, D.v, true, rfl, iteF ?_⟩
      refine ⟨_, rfl, l3, _, 0, _, rfl, rfl, SqL.of upd_same, rfl, false, congrArg V.bl (by decide +kernel), iteF ?_⟩
      refine ⟨by show 7 ≤ sizeLine; decide, fun l4 hl4 => ?_⟩
      refine ⟨_, rfl, .inl ⟨rfl, _, SqL.of ((upd_ne (none_upd hl4).1.symm).trans upd_same)⟩, l3, _, .bl true, 1, .bl true, rfl, rfl, SqL.of ((upd_ne (none_upd hl4).1.symm).trans upd_same), rfl, rfl, rfl, rfl, ?_, l4, _, _, _, rfl, rfl, SqL.of upd_same, rfl, ?_⟩
      · intro m z hm hz
        rcases (show m = 0 by omega) with rfl
        all_goals
          cases hz
          rfl
      · exact q _ (Same.new (Same.new (Same.new (Same.new (Same.refl _) hl1 _) hl2 _) hl3 _) hl4 _)
    · obtain rfl := Option.some.inj hx
      refine ⟨_, rfl, ec 2, _, .ref (ec 0), _, rfl, rfl, D.exc, rfl, ref_only, D.m 0 (by decide), _, rfl, ec 2, _, .ref (ec 1), _, rfl, rfl, D.exc, rfl, ref_only, D.m 1 (by decide), _, rfl, ec 2, _, .ref (ec 2), _, rfl, rfl, D.exc, rfl, ref_only, D.m 2 (by decide), _, rfl, ec 2, _, .ref (ec 3), _, rfl, rfl, D.exc, rfl, ref_only, D.m 3 (by decide), by show 4 ≤ sizeLine; decide, fun l1 hl1 => ?_⟩
      refine ⟨_, rfl, _, rfl, ec 2, _, .ref (ec 4), _, rfl, rfl, D.exc, rfl, ref_only, D.m 4 (by decide), _, rfl, ec 2, _, .ref (ec 5), _, rfl, rfl, D.exc, rfl, ref_only, D.m 5 (by decide), _, rfl, ec 2, _, .ref (ec 6), _, rfl, rfl, D.exc, rfl, ref_only, D.m 6 (by decide), by show 3 ≤ sizeLine; decide, fun l2 hl2 => ⟨l1, l2, _, _, rfl, rfl, (upd_ne (none_upd hl2).1.symm).trans upd_same, upd_same, by show 4 + 3 ≤ sizeLine; decide, fun l3 hl3 => ?_⟩⟩
      refine ⟨_, rfl, .inl ⟨rfl, _, SqL.of upd_same⟩, l3, _, .bl true, rfl, rfl, SqL.of upd_same, rfl, rfl, rfl, false, congrArg V.bl (by decide +kernel), iteF ?_⟩
      refine ⟨_, rfl, ec 2, _, .type "ValueError", true, rfl, rfl, D.exc, rfl, ty_only, D.v, true, rfl, iteF ?_⟩
      refine ⟨_, rfl, l3, _, 0, _, rfl, rfl, SqL.of upd_same, rfl, false, congrArg V.bl (by decide +kernel), iteF ?_⟩
      refine ⟨by show 7 ≤ sizeLine; decide, fun l4 hl4 => ?_⟩
      refine ⟨_, rfl, .inl ⟨rfl, _, SqL.of ((upd_ne (none_upd hl4).1.symm).trans upd_same)⟩, l3, _, .bl true, 2, .bl true, rfl, rfl, SqL.of ((upd_ne (none_upd hl4).1.symm).trans upd_same), rfl, rfl, rfl, rfl, ?_, l4, _, _, _, rfl, rfl, SqL.of upd_same, rfl, ?_⟩
      · intro m z hm hz
        rcases (show m = 0 ∨ m = 1 by omega) with rfl | rfl
        all_goals
          cases hz
          rfl
      · exact q _ (Same.new (Same.new (Same.new (Same.new (Same.refl _) hl1 _) hl2 _) hl3 _) hl4 _)
    · obtain rfl := Option.some.inj hx
      refine ⟨_, rfl, ec 3, _, .ref (ec 0), _, rfl, rfl, D.exc, rfl, ref_only, D.m 0 (by decide), _, rfl, ec 3, _, .ref (ec 1), _, rfl, rfl, D.exc, rfl, ref_only, D.m 1 (by decide), _, rfl, ec 3, _, .ref (ec 2), _, rfl, rfl, D.exc, rfl, ref_only, D.m 2 (by decide), _, rfl, ec 3, _, .ref (ec 3), _, rfl, rfl, D.exc, rfl, ref_only, D.m 3 (by decide), by show 4 ≤ sizeLine; decide, fun l1 hl1 => ?_⟩
      refine ⟨_, rfl, _, rfl, ec 3, _, .ref (ec 4), _, rfl, rfl, D.exc, rfl, ref_only, D.m 4 (by decide), _, rfl, ec 3, _, .ref (ec 5), _, rfl, rfl, D.exc, rfl, ref_only, D.m 5 (by decide), _, rfl, ec 3, _, .ref (ec 6), _, rfl, rfl, D.exc, rfl, ref_only, D.m 6 (by decide), by show 3 ≤ sizeLine; decide, fun l2 hl2 => ⟨l1, l2, _, _, rfl, rfl, (upd_ne (none_upd hl2).1.symm).trans upd_same, upd_same, by show 4 + 3 ≤ sizeLine; decide, fun l3 hl3 => ?_⟩⟩
      refine ⟨_, rfl, .inl ⟨rfl, _, SqL.of upd_same⟩, l3, _, .bl true, rfl, rfl, SqL.of upd_same, rfl, rfl, rfl, false, congrArg V.bl (by decide +kernel), iteF ?_⟩
      refine ⟨_, rfl, ec 3, _, .type "ValueError", true, rfl, rfl, D.exc, rfl, ty_only, D.v, true, rfl, iteF ?_⟩
      refine ⟨_, rfl, l3, _, 0, _, rfl, rfl, SqL.of upd_same, rfl, false, congrArg V.bl (by decide +kernel), iteF ?_⟩
      refine ⟨by show 7 ≤ sizeLine; decide, fun l4 hl4 => ?_⟩
      refine ⟨_, rfl, .inl ⟨rfl, _, SqL.of ((upd_ne (none_upd hl4).1.symm).trans upd_same)⟩, l3, _, .bl true, 3, .bl true, rfl, rfl, SqL.of ((upd_ne (none_upd hl4).1.symm).trans upd_same), rfl, rfl, rfl, rfl, ?_, l4, _, _, _, rfl, rfl, SqL.of upd_same, rfl, ?_⟩
      · intro m z hm hz
        rcases (show m = 0 ∨ m = 1 ∨ m = 2 by omega) with rfl | rfl | rfl
        all_goals
          cases hz
          rfl
      · exact q _ (Same.new (Same.new (Same.new (Same.new (Same.refl _) hl1 _) hl2 _) hl3 _) hl4 _)
    · obtain rfl := Option.some.inj hx
      refine ⟨_, rfl, ec 4, _, .ref (ec 0), _, rfl, rfl, D.exc, rfl, ref_only, D.m 0 (by decide), _, rfl, ec 4, _, .ref (ec 1), _, rfl, rfl, D.exc, rfl, ref_only, D.m 1 (by decide), _, rfl, ec 4, _, .ref (ec 2), _, rfl, rfl, D.exc, rfl, ref_only, D.m 2 (by decide), _, rfl, ec 4, _, .ref (ec 3), _, rfl, rfl, D.exc, rfl, ref_only, D.m 3 (by decide), by show 4 ≤ sizeLine; decide, fun l1 hl1 => ?_⟩
      refine ⟨_, rfl, _, rfl, ec 4, _, .ref (ec 4), _, rfl, rfl, D.exc, rfl, ref_only, D.m 4 (by decide), _, rfl, ec 4, _, .ref (ec 5), _, rfl, rfl, D.exc, rfl, ref_only, D.m 5 (by decide), _, rfl, ec 4, _, .ref (ec 6), _, rfl, rfl, D.exc, rfl, ref_only, D.m 6 (by decide), by show 3 ≤ sizeLine; decide, fun l2 hl2 => ⟨l1, l2, _, _, rfl, rfl, (upd_ne (none_upd hl2).1.symm).trans upd_same, upd_same, by show 4 + 3 ≤ sizeLine; decide, fun l3 hl3 => ?_⟩⟩
      refine ⟨_, rfl, .inl ⟨rfl, _, SqL.of upd_same⟩, l3, _, .bl true, rfl, rfl, SqL.of upd_same, rfl, rfl, rfl, false, congrArg V.bl (by decide +kernel), iteF ?_⟩
      refine ⟨_, rfl, ec 4, _, .type "ValueError", true, rfl, rfl, D.exc, rfl, ty_only, D.v, true, rfl, iteF ?_⟩
      refine ⟨_, rfl, l3, _, 0, _, rfl, rfl, SqL.of upd_same, rfl, false, congrArg V.bl (by decide +kernel), iteF ?_⟩
      refine ⟨by show 7 ≤ sizeLine; decide, fun l4 hl4 => ?_⟩
      refine ⟨_, rfl, .inl ⟨rfl, _, SqL.of ((upd_ne (none_upd hl4).1.symm).trans upd_same)⟩, l3, _, .bl true, 4, .bl true, rfl, rfl, SqL.of ((upd_ne (none_upd hl4).1.symm).trans upd_same), rfl, rfl, rfl, rfl, ?_, l4, _, _, _, rfl, rfl, SqL.of upd_same, rfl, ?_⟩
      · intro m z hm hz
        rcases (show m = 0 ∨ m = 1 ∨ m = 2 ∨ m = 3 by omega) with rfl | rfl | rfl | rfl
        all_goals
          cases hz
          rfl
      · exact q _ (Same.new (Same.new (Same.new (Same.new (Same.refl _) hl1 _) hl2 _) hl3 _) hl4 _)
    · obtain rfl := Option.some.inj hx
      refine ⟨_, rfl, ec 5, _, .ref (ec 0), _, rfl, rfl, D.exc, rfl, ref_only, D.m 0 (by decide), _, rfl, ec 5, _, .ref (ec 1), _, rfl, rfl, D.exc, rfl, ref_only, D.m 1 (by decide), _, rfl, ec 5, _, .ref (ec 2), _, rfl, rfl, D.exc, rfl, ref_only, D.m 2 (by decide), _, rfl, ec 5, _, .ref (ec 3), _, rfl, rfl, D.exc, rfl, ref_only, D.m 3 (by decide), by show 4 ≤ sizeLine; decide, fun l1 hl1 => ?_⟩
      refine ⟨_, rfl, _, rfl, ec 5, _, .ref (ec 4), _, rfl, rfl, D.exc, rfl, ref_only, D.m 4 (by decide), _, rfl, ec 5, _, .ref (ec 5), _, rfl, rfl, D.exc, rfl, ref_only, D.m 5 (by decide), _, rfl, ec 5, _, .ref (ec 6), _, rfl, rfl, D.exc, rfl, ref_only, D.m 6 (by decide), by show 3 ≤ sizeLine; decide, fun l2 hl2 => ⟨l1, l2, _, _, rfl, rfl, (upd_ne (none_upd hl2).1.symm).trans upd_same, upd_same, by show 4 + 3 ≤ sizeLine; decide, fun l3 hl3 => ?_⟩⟩
      refine ⟨_, rfl, .inl ⟨rfl, _, SqL.of upd_same⟩, l3, _, .bl true, rfl, rfl, SqL.of upd_same, rfl, rfl, rfl, false, congrArg V.bl (by decide +kernel), iteF ?_⟩
      refine ⟨_, rfl, ec 5, _, .type "ValueError", true, rfl, rfl, D.exc, rfl, ty_only, D.v, true, rfl, iteF ?_⟩
      refine ⟨_, rfl, l3, _, 0, _, rfl, rfl, SqL.of upd_same, rfl, false, congrArg V.bl (by decide +kernel), iteF ?_⟩
      refine ⟨by show 7 ≤ sizeLine; decide, fun l4 hl4 => ?_⟩
      refine ⟨_, rfl, .inl ⟨rfl, _, SqL.of ((upd_ne (none_upd hl4).1.symm).trans upd_same)⟩, l3, _, .bl true, 5, .bl true, rfl, rfl, SqL.of ((upd_ne (none_upd hl4).1.symm).trans upd_same), rfl, rfl, rfl, rfl, ?_, l4, _, _, _, rfl, rfl, SqL.of upd_same, rfl, ?_⟩
      · intro m z hm hz
        rcases (show m = 0 ∨ m = 1 ∨ m = 2 ∨ m = 3 ∨ m = 4 by omega) with rfl | rfl | rfl | rfl | rfl
        all_goals
          cases hz
          rfl
      · exact q _ (Same.new (Same.new (Same.new (Same.new (Same.refl _) hl1 _) hl2 _) hl3 _) hl4 _)
    · obtain rfl := Option.some.inj hx
      refine ⟨_, rfl, ec 6, _, .ref (ec 0), _, rfl, rfl, D.exc, rfl, ref_only, D.m 0 (by decide), _, rfl, ec 6, _, .ref (ec 1), _, rfl, rfl, D.exc, rfl, ref_only, D.m 1 (by decide), _, rfl, ec 6, _, .ref (ec 2), _, rfl, rfl, D.exc, rfl, ref_only, D.m 2 (by decide), _, rfl, ec 6, _, .ref (ec 3), _, rfl, rfl, D.exc, rfl, ref_only, D.m 3 (by decide), by show 4 ≤ sizeLine; decide, fun l1 hl1 => ?_⟩
      refine ⟨_, rfl, _, rfl, ec 6, _, .ref (ec 4), _, rfl, rfl, D.exc, rfl, ref_only, D.m 4 (by decide), _, rfl, ec 6, _, .ref (ec 5), _, rfl, rfl, D.exc, rfl, ref_only, D.m 5 (by decide), _, rfl, ec 6, _, .ref (ec 6), _, rfl, rfl, D.exc, rfl, ref_only, D.m 6 (by decide), by show 3 ≤ sizeLine; decide, fun l2 hl2 => ⟨l1, l2, _, _, rfl, rfl, (upd_ne (none_upd hl2).1.symm).trans upd_same, upd_same, by show 4 + 3 ≤ sizeLine; decide, fun l3 hl3 => ?_⟩⟩
      refine ⟨_, rfl, .inl ⟨rfl, _, SqL.of upd_same⟩, l3, _, .bl true, rfl, rfl, SqL.of upd_same, rfl, rfl, rfl, false, congrArg V.bl (by decide +kernel), iteF ?_⟩
      refine ⟨_, rfl, ec 6, _, .type "ValueError", true, rfl, rfl, D.exc, rfl, ty_only, D.v, true, rfl, iteF ?_⟩
      refine ⟨_, rfl, l3, _, 0, _, rfl, rfl, SqL.of upd_same, rfl, false, congrArg V.bl (by decide +kernel), iteF ?_⟩
      refine ⟨by show 7 ≤ sizeLine; decide, fun l4 hl4 => ?_⟩
      refine ⟨_, rfl, .inl ⟨rfl, _, SqL.of ((upd_ne (none_upd hl4).1.symm).trans upd_same)⟩, l3, _, .bl true, 6, .bl true, rfl, rfl, SqL.of ((upd_ne (none_upd hl4).1.symm).trans upd_same), rfl, rfl, rfl, rfl, ?_, l4, _, _, _, rfl, rfl, SqL.of upd_same, rfl, ?_⟩
      · intro m z hm hz
        rcases (show m = 0 ∨ m = 1 ∨ m = 2 ∨ m = 3 ∨ m = 4 ∨ m = 5 by omega) with rfl | rfl | rfl | rfl | rfl | rfl
        all_goals
          cases hz
          rfl
      · exact q _ (Same.new (Same.new (Same.new (Same.new (Same.refl _) hl1 _) hl2 _) hl3 _) hl4 _)
end
end Bd
end

section
namespace Bd
open PySem L2
section
variable {P : Program} {w : World} {K : PySem.W.Frag} {mg : Str → Option Value} {base : Heap}
/-- the rule for a def that lets nothing out, its code object known -/
theorem fun_okC {x qual : Str} {st : Stmt} {f c : Addr} {fd : FuncData} {N ps : List Str} {k : Nat} {sp : Sp} (F : Fun K x qual st f fd) (hc : fd.code = .ref c) (S : FnScope N ps (defScope st)) (len : ∀ vs H Q E, sp vs H Q E → vs.length = ps.length)
    (hbody : ∀ (A : Around) (outer : List Env) (s : Shared) (H : Hp) (vs : List V) (Q : VK) (E : XK), Room k (A.deeper (PyProof.Rows.envOfC qual (defScope st) s.heap.objs.size f (.ref c))) → sp vs H Q E →
      ∃ t, PSs (cxOf CX0 P w K mg base N qual (defScope st) f (.ref c) A outer s H E).nox (defBody st) t ∧ t { nx := fun _ H' => Q .non H', rt := Q } (start N vs) H) : FnOk P w K mg base CX0 (k + 1) f fd ps sp := by
  obtain ⟨oc, od, kV, doc, pm, an, cdv, ct, osl, rfl, lk, hcd⟩ := F.ex
  have e : cdv = .ref c := hc
  subst e
  exact fn_of lk hcd S len fun A outer s H vs Q E hr hsp => let ⟨t, h1, h2⟩ := hbody A outer s H vs Q E hr hsp; ⟨t, h1.nox, h2⟩
end
theorem hu64 {A : Around} {k : Nat} (hr : Room k A) : A.units + 64 < cLine := by
  have := hr.un
  omega
/-- _law_said(lambda: ..) -/
theorem pe_lamcall1 {X : Cx} {T : List (Addr × Str)} {CE : Addr} {ec : Nat → Addr} {g c Pa : Addr} {gd : FuncData} {k : Nat} {params : Arguments} {body : Expr} {scope : Scope} {t : XK → TE} {p lpos pos : Pos} (FS : Fun X.K "_law_said" "_law_said" sSaid g gd) (XSs : XS X.mg CE ec) (hm : X.mg "_law_said" = some (.ref g)) (hk : PySem.W.keepIn X.K (.ref g) = true)
    (bS : Binds X.K gd ["_law_ask"] []) (TB : LamX.TabB X.base X.mg c Pa) (hr : Room (k + 2) X.A)
    (hbody : ∀ (A : Around) (outer : List Env) (s : Shared) (H : Hp) (E : XK) (f c1 : Addr), Room k (A.deeper (LamX.lamEnv X scope s.heap.objs.size f c1)) → PE (LamX.lamCx X A outer s H E scope f c1) body (t E))
    (hg : Gl X "_law_said" := by rfl) (hcode : X.env.code = .ref c := by rfl) (hmT : (Pa, X.env.qual ++ "<lambda>") ∈ T := by exact List.mem_singleton.mpr rfl) (hu : ∀ p ∈ T, p.1 = Pa → p.2 = X.env.qual ++ "<lambda>" := by exact fun p hp _ => by rw [List.mem_singleton.mp hp]) (L : LamX.LamS X.env.scope scope := by exact LamX.lamS_by (by decide +kernel)) (hdef : PySem.defaultsOf params X.env = ([], []) := by rfl)
    (hbind : ∀ (q : Str) (cl : List (Str × Addr)) (pm cv ctv : Value), bindArgs (PySem.W.kla_fn "<lambda>" q params body scope cl pm cv ctv) ⟨[], []⟩ = pure [] := by exact fun _ _ _ _ _ => rfl) :
    PE X (.Call (.Name "_law_said" p) [.Lambda params body scope lpos] [] pos) (LamX.tLam T (TSaid X.K CE ec) t) := by
  obtain ⟨oc, od, kV, doc, pm, an, cdv, ct, osl, rfl, lk, hcd⟩ := FS.ex
  exact LamX.pe_lamcall (Ng := ["_law_ask", "e", "_law_marks"]) hg hm hk lk hcd bS scSaid rfl (Or.inl rfl) (said_gives XSs) TB hcode hmT hu hr L hdef hbind hbody
/-- all but s and the tables stay -/
def KN (s : Addr) (H H' : Hp) : Prop := ∀ b o, b ≠ s → H b = some o → (∀ ps, o ≠ .tbl ps) → H' b = some o
theorem KN.of {s : Addr} {H H' : Hp} (e : Kept s H H') : KN s H H' := fun b o n h _ => e b o n h
theorem KN.same {s : Addr} {H H' : Hp} (e : Same H H') : KN s H H' := fun b o n h _ => e b o h
theorem KN.ext {s : Addr} {H H' : Hp} (e : LamX.ExtN H H') : KN s H H' := fun b o _ h n => e b o h n
theorem KN.trans {s : Addr} {H H1 H2 : Hp} (a : KN s H H1) (b : KN s H1 H2) : KN s H H2 := fun c o n h z => b c o n (a c o n h z) z
theorem KN.tk {s : Addr} {H H' : Hp} (hs : Src H s) (e : KN s H H') : TK H H' := by
  obtain ⟨x, y, z, hs⟩ := hs
  exact ⟨fun b xs h => e b _ (ne_of h hs (by intro z; cases z)) h (fun ps z => by cases z), fun b o u h => e b _ (ne_of h hs (by intro z; cases z)) h (fun ps z => by cases z)⟩
theorem ext_tk {H H' : Hp} (e : LamX.ExtN H H') : TK H H' := ⟨fun b xs h => e b _ h (fun ps z => by cases z), fun b o u h => e b _ h (fun ps z => by cases z)⟩
theorem TreeAt.kn {K : PySem.W.Frag} {H H' : Hp} {s C p : Addr} {rows : List RowM} {h : Bool} {tk : List (Key × V)} (hs : Src H s) (k : KN s H H') (ok : RowsOk rows) (t : TreeAt K H C p rows h tk) : TreeAt K H' C p rows h tk := by
  obtain ⟨dx, po, pp, pk, pt, o1, o2, o3, o4, o5, ks, k1, k2, k3⟩ := t
  have tkk := KN.tk hs k
  obtain ⟨x, y, z, es⟩ := hs
  have nl : ∀ {b : Addr} {xs : List Str}, H b = some (.lst (xs.map V.str)) → b ≠ s := fun {b xs} e => ne_of e es (by
    intro z
    cases xs with
    | nil => cases z
    | cons a b => cases z)
  have o2' : H po = some (.lst ((nms rows).map V.str)) := by
    rw [o2]
    unfold nms
    rw [List.map_map]
    rfl
  refine ⟨dx, po, pp, pk, pt, k _ _ (ne_of o1 es (by intro z; cases z)) o1 (fun ps z => by cases z), k _ _ (nl o2') o2 (fun ps z => by cases z), k _ _ (ne_of o3 es (by intro z; cases z)) o3 (fun ps z => by cases z), k _ _ (ne_of o4 es (by intro z; cases z)) o4 (fun ps z => by cases z), paired_monoM (fun kv r hr z => ?_) o5, ks, k _ _ (ne_of k1 es (by intro z; cases z)) k1 (fun ps z => by cases z), k2, fun kv hkv => ?_⟩
  · obtain ⟨z1, d, z2, kvs, z3, z4⟩ := z
    exact ⟨z1, d, z2, kvs, k _ _ (ne_of z3 es (by intro z; cases z)) z3 (fun ps z => by cases z), paired_monoM (fun kv wd hw z => ⟨z.1, tkk.val (full_val (fun x hx => ((rows_due ok r hr).2 x hx).2) wd hw) z.2⟩) z4⟩
  · obtain ⟨l, e1, e2⟩ := k3 kv hkv
    exact ⟨l, e1, k _ _ (nl e2) e2 (fun ps z => by cases z)⟩
theorem TreeAt.ext {K : PySem.W.Frag} {H H' : Hp} {C p : Addr} {rows : List RowM} {h : Bool} {tk : List (Key × V)} (k : LamX.ExtN H H') (ok : RowsOk rows) (t : TreeAt K H C p rows h tk) : TreeAt K H' C p rows h tk := by
  obtain ⟨dx, po, pp, pk, pt, o1, o2, o3, o4, o5, ks, k1, k2, k3⟩ := t
  have tkk := ext_tk k
  refine ⟨dx, po, pp, pk, pt, k _ _ o1 (fun ps z => by cases z), k _ _ o2 (fun ps z => by cases z), k _ _ o3 (fun ps z => by cases z), k _ _ o4 (fun ps z => by cases z), paired_monoM (fun kv r hr z => ?_) o5, ks, k _ _ k1 (fun ps z => by cases z), k2, fun kv hkv => ?_⟩
  · obtain ⟨z1, d, z2, kvs, z3, z4⟩ := z
    exact ⟨z1, d, z2, kvs, k _ _ z3 (fun ps z => by cases z), paired_monoM (fun kv wd hw z => ⟨z.1, tkk.val (full_val (fun x hx => ((rows_due ok r hr).2 x hx).2) wd hw) z.2⟩) z4⟩
  · obtain ⟨l, e1, e2⟩ := k3 kv hkv
    exact ⟨l, e1, k _ _ e2 (fun ps z => by cases z)⟩
theorem ext_l {K : PySem.W.Frag} {H H' : Hp} {a : Addr} {xs : List V} (e : LamX.ExtN H H') (h : SqL K H a xs) : SqL K H' a xs := by
  rcases h with (h | ⟨o, h⟩) | h
  · exact .inl (.inl (e _ _ h (fun ps z => by cases z)))
  · exact .inl (.inr ⟨o, e _ _ h (fun ps z => by cases z)⟩)
  · exact .inr h
mutual
theorem dp_ext {K : PySem.W.Frag} {H H' : Hp} (e : LamX.ExtN H H') : ∀ (d : PyData) (v : V), Dp K H v d → Dp K H' v d
  | .none, _, h => by
    cases h
    exact .non
  | .bool b, _, h => by
    cases h
    exact .bl b
  | .int i, _, h => by
    cases h
    exact .int i
  | .str x, _, h => by
    cases h
    exact .str x
  | .list ds, _, h => by
    cases h with
    | lst h1 h2 => exact .lst (ext_l e h1) (dp_extAll e ds _ h2)
  | .tuple ds, _, h => by
    cases h with
    | tup h1 h2 => exact .tup ((ext_tk e).seqT h1) (dp_extAll e ds _ h2)
  | .dict _, _, h => nomatch h
theorem dp_extAll {K : PySem.W.Frag} {H H' : Hp} (e : LamX.ExtN H H') : ∀ (ds : List PyData) (vs : List V), DpAll K H vs ds → DpAll K H' vs ds
  | [], _, h => by
    cases h
    exact .nil
  | d :: ds, _, h => by
    cases h with
    | cons h1 h2 => exact .cons (dp_ext e d _ h1) (dp_extAll e ds _ h2)
end
theorem ty_ext {K : PySem.W.Frag} {H H' : Hp} (e : LamX.ExtN H H') {v : V} {t : Value} (h : TyX K H v t) : TyX K H' v t := by
  cases h with
  | base b =>
    cases b with
    | non => exact .base .non
    | bl x => exact .base (.bl x)
    | int x => exact .base (.int x)
    | str x => exact .base (.str x)
    | flt x => exact .base (.flt x)
    | lst h => exact .base (.lst (e _ _ h (fun ps z => by cases z)))
    | frz h => exact .base (.frz (e _ _ h (fun ps z => by cases z)))
    | tup h => exact .base (.tup (e _ _ h (fun ps z => by cases z)))
    | dK h => exact .base (.dK (e _ _ h (fun ps z => by cases z)))
    | dT h => exact .base (.dT (e _ _ h (fun ps z => by cases z)))
    | ins h c a n k m => exact .base (.ins (e _ _ h (fun ps z => by cases z)) c a n k m)
  | byt b => exact .byt b
  | set h => exact .set (e _ _ h (fun ps z => by cases z))
  | kList h c => exact .kList h c
  | kTuple h c => exact .kTuple h c
  | kDict h c => exact .kDict h c
  | fTuple h => exact .fTuple (e _ _ h (fun ps z => by cases z))
  | fDict h => exact .fDict (e _ _ h (fun ps z => by cases z))
theorem odd_ext {K : PySem.W.Frag} {H H' : Hp} (e : LamX.ExtN H H') {xs : List Str} {v : V} (h : OddN K H xs v) : OddN K H' xs v := by
  rcases h with ⟨t, h1, h2⟩ | h
  · exact .inl ⟨t, ty_ext e h1, h2⟩
  · exact .inr h
theorem odd_sub {K : PySem.W.Frag} {H : Hp} {xs ys : List Str} {v : V} (h : OddN K H ys v) (s : ∀ x ∈ xs, x ∈ ys) : OddN K H xs v := by
  rcases h with h | ⟨x, h1, h2⟩
  · exact .inl h
  · exact .inr ⟨x, h1, fun m => h2 (s x m)⟩
/-- a drawn thing that is no name, or the root's -/
def OddV (K : PySem.W.Frag) (H : Hp) (v : V) : Prop := v = .str "" ∨ (OddN K H (("" : Str) :: menu) v ∧ ∃ d, Dp K H v d ∧ SeqAt.shaped d = true ∧ PyData.eqv d (.str "") = false)
theorem src_ext {H H' : Hp} {s : Addr} (e : LamX.ExtN H H') (h : Src H s) : Src H' s := by
  obtain ⟨x, y, z, h⟩ := h
  exact ⟨x, y, z, e _ _ h (fun ps z => by cases z)⟩
theorem tabs_same {T : List (Addr × Str)} {H H' : Hp} (t : LamX.Tabs T H) (e : Same H H') : LamX.Tabs T H' := t.ext e
theorem tabs_kept {T : List (Addr × Str)} {H H' : Hp} {s : Addr} (hs : Src H s) (t : LamX.Tabs T H) (e : Kept s H H') : LamX.Tabs T H' := by
  obtain ⟨x, y, z, hs⟩ := hs
  intro p hp
  obtain ⟨ps, h1, h2, h3⟩ := t p hp
  refine ⟨ps, e _ _ (ne_of h1 hs (by intro z; cases z)) h1, h2, fun pos cv hc => ?_⟩
  obtain ⟨c, g1, g2⟩ := h3 pos cv hc
  exact ⟨c, g1, e _ _ (ne_of g2 hs (by intro z; unfold LamX.CodeO at z; cases z)) g2⟩
theorem name_ok {rows : List RowM} (ok : RowsOk rows) {x : Str} (h : x ∈ nms rows) : NameOk x := by
  obtain ⟨r, hr, rfl⟩ := List.mem_map.mp h
  obtain ⟨i, hi⟩ := List.mem_iff_getElem?.mp hr
  exact (ok i r hi).1
theorem cps_app (x y : Str) : (x ++ y).cps.toList = x.cps.toList ++ y.cps.toList := by
  show (x.cps ++ y.cps).toList = _
  simp
theorem sp_not (x : Str) : x ++ " " ∉ ("" : Str) :: menu := by
  intro m
  have h32 : (32 : Nat) ∈ (x ++ " ").cps.toList := by
    rw [cps_app]
    exact List.mem_append_right _ (by decide +kernel)
  rcases List.mem_cons.mp m with e | m
  · rw [e] at h32
    exact absurd h32 (by decide +kernel)
  · have := (menu_ok _ m).2.2 32 h32
    omega
theorem shaped_tup1 {x : Str} (h : PyData.canLay0 (.str x) = true) : SeqAt.shaped (.tuple [.str x]) = true := by
  have h1 := lay_strs [x] (by intro y hy; rw [List.mem_singleton.mp hy]; exact h)
  have h2 := dep_strs [x]
  rw [List.map_singleton] at h1 h2
  unfold SeqAt.shaped
  rw [PyData.canLay0, h1, PyData.depth, h2]
  rfl
theorem shaped_sp {x : Str} (h : NameOk x) : SeqAt.shaped (.str (x ++ " ")) = true := by
  refine shaped_name ?_
  have e : PyData.canLay0 (.str (x ++ " ")) = (x ++ " ").cps.all (· < 0x110000) := by
    rw [PyData.canLay0]
    rfl
  rw [e, Array.all_eq_true']
  intro c hc
  have hm : c ∈ (x ++ " ").cps.toList := Array.mem_toList_iff.mpr hc
  rw [cps_app] at hm
  rcases List.mem_append.mp hm with m | m
  · have := (h.2.2 c m).2
    exact decide_eq_true (by omega)
  · have : c = 32 := by
      have e : (" " : Str).cps.toList = [32] := by decide +kernel
      rw [e] at m
      exact List.mem_singleton.mp m
    rw [this]
    decide
end Bd
end

section
namespace Bd
open PySem L2 PySem.Spec PyProof.Rows
section
variable {prog : Program} {w : World} {K : Type} [DecidableEq K] {knd : KeyKind prog w K} {A : Around} {E : Value → Shared → Prop} {s : Shared}
/-- {**a, k: v}: the pair stands in a dict of its own, which is merged -/
theorem display_kv {v1 vk vv : Sem Value} {Q : Value → Shared → Prop} (hstr : ∀ e : DictEntry, (∃ k, knd.is k e.key = true) → ∀ a, e.key ≠ .ref a)
    (h : wpAny (model prog w) A v1 (MergeAt knd s.heap.objs.size fun s1 => wpAny (model prog w) A (evalPairs [(vk, vv)]) (fun vs s2 => ∃ kvs, Carries knd vs kvs ∧ s2.heap.DictOf knd s1.heap.objs.size [] ∧
      ∀ h', h'.DictOf knd s1.heap.objs.size (merged [] kvs) → Heap.SameBut s1.heap.objs.size s2.heap h' → MergeAt knd s.heap.objs.size (fun s3 => Q (.ref s.heap.objs.size) s3) (.ref s1.heap.objs.size) { s2 with heap := h', toks := s2.toks + vs.length }) E
        { s1 with heap := s1.heap.push { cls := .type "dict", data := .dict #[] } }) E { s with heap := s.heap.push { cls := .type "dict", data := .dict #[] } }) :
    wpAny (model prog w) A (dictDisplay [(none, v1), (some vk, vv)]) Q E s := by
  unfold dictDisplay
  simp only [List.forIn_cons, List.forIn_nil, List.isEmpty_nil, if_true, pure_bind, bind_assoc, List.nil_append, List.length_singleton, List.isEmpty_cons]
  refine wpAny_bind (wpAny_alloc ?_)
  refine wpAny_bind (wpAny_holding (wpAny_mono h (fun u s1 h1 => ?_) fun _ _ e => e))
  obtain ⟨o, acc, more, rfl, ne, lo, da, db, hz, q⟩ := h1
  refine wpAny_bind (wpAny_onRaise (wpAny_tryCatch (wpAny_onRaise (wpAny_holding (merge_dict ne lo da db hstr hz fun g dg sg => ?_)))))
  simp only [show ((1 : Nat) == 17) = false from rfl, Bool.false_eq_true, if_false, bind_assoc, pure_bind]
  refine wpAny_bind ?_
  rw [if_neg (by intro z; cases z)]
  refine wpAny_bind (wpAny_holding (wpAny_subDict (knd := knd) (by exact Nat.succ_le_succ (Nat.zero_le _)) (wpAny_mono (q g dg sg) (fun vs s2 h2 => ?_) fun _ _ e => e)))
  obtain ⟨kvs, hc, hd, hq⟩ := h2
  refine ⟨kvs, hc, hd, fun h' d' sm => ?_⟩
  obtain ⟨o2, acc2, more2, e2, ne2, lo2, da2, db2, hz2, q2⟩ := hq h' d' sm
  cases e2
  refine wpAny_bind (wpAny_onRaise (wpAny_holding (merge_dict ne2 lo2 da2 db2 hstr hz2 fun g2 dg2 sg2 => ?_)))
  exact wpAny_pure (wpAny_pure (q2 g2 dg2 sg2))
end
/-- {**a, k: v} of a dict with keys ints and texts -/
def tStar (ta tk tv : TE) : TE := fun σ H Q => ∀ p, H p = none → ta σ (upd H p (.dK [])) fun x H1 => ∃ a ka, x = .ref a ∧ H1 p = some (.dK []) ∧ H1 a = some (.dK ka) ∧ p ≠ a ∧
  ∀ q, upd H1 p (.dK (mergeK [] ka)) q = none → tk σ (upd (upd H1 p (.dK (mergeK [] ka))) q (.dK [])) fun x2 H2 => tv σ H2 fun y H3 => ∃ key, x2 = kV key ∧ H3 q = some (.dK []) ∧ H3 p = some (.dK (mergeK [] ka)) ∧ p ≠ q ∧ ka.length ≤ 900 ∧
    Q (.ref p) (upd (upd H3 q (.dK [(key, y)])) p (.dK (putK (mergeK [] ka) key y)))
theorem pe_star {X : Cx} {pos : Pos} {e1 ek ev : Expr} {ta tk tv : TE} (ha : PE X e1 ta) (hk : PE X ek tk) (hv : PE X ev tv) : PE X (.Dict [none, some ek] [e1, ev] pos) (tStar ta tk tv) := by
  refine ⟨fun pins s σ H Q I q => ?_⟩
  have hn := I.hok.fresh (Nat.le_refl s.heap.objs.size)
  rw [arm_eval_Dict]
  refine wpAny_bind (wpAny_standAt ?_)
  show wpAny _ _ (dictDisplay [(none, do let x ← eval e1 X.env; standAt pos; pure x), (some (eval ek X.env), do let x ← eval ev X.env; standAt pos; pure x)]) _ _ _
  refine display_kv (knd := mixKind X.prog X.w) (fun e h => mix_noref e h) ?_
  have I1 := I.laid (a := s.heap.objs.size) (o := .dK []) (h' := s.heap.push { cls := .type "dict", data := .dict #[] }) (t' := s.toks) (fun _ _ q => Heap.get?_push_of_some _ q) (Nat.le_refl _) (dk_empty s.heap I.big)
  refine wpAny_bind (thn (ha.run pins _ σ _ _ I1 (q _ hn)) fun u s1 ⟨x, H1, I2, rx, a, ka, ex, hp, hka, ne, q1⟩ => ?_)
  subst ex
  obtain rfl : u = Value.ref a := rx
  refine wpAny_bind (wpAny_standAt (wpAny_pure ?_))
  obtain ⟨z1, lo1, vs1, r1, d1⟩ := dk_of I2.hok hka
  obtain ⟨z0, lo0, vs0, r0, d0⟩ := dk_of I2.hok hp
  cases r0
  have hz1 : (mergeK [] ka).length ≤ sizeLine := by
    have := length_mergeK ka []
    rw [List.length_nil] at this
    omega
  refine ⟨a, [], vs1, rfl, ne, lo1, d0, d1, by rw [List.length_nil, Nat.zero_add, ← r1.length]; exact z1, fun g dg sg => ?_⟩
  have he : ∃ q, g.get? s.heap.objs.size = some q := let ⟨q, _, _, hq, _⟩ := dg; ⟨q, hq⟩
  have I3 := d_write (t' := s1.toks) I2 (by rw [hp]; exact True.intro) sg he (dk_new (H' := upd H1 s.heap.objs.size (.dK (mergeK [] ka))) hz1 lo0 (r1.merge .nil) dg)
  have hn3 := I3.hok.fresh (Nat.le_refl g.objs.size)
  have I4 := I3.laid (a := g.objs.size) (o := .dK []) (h' := g.push { cls := .type "dict", data := .dict #[] }) (t' := s1.toks) (fun _ _ q => Heap.get?_push_of_some _ q) (Nat.le_refl _) (dk_empty g I3.big)
  have q2 := q1 _ hn3
  have hps := (pps_cons (pos := pos) hk hv pps_nil).run pins _ σ _ (fun ps H3 => match ps with
    | [(x2, y)] => ∃ key, x2 = kV key ∧ H3 g.objs.size = some (.dK []) ∧ H3 s.heap.objs.size = some (.dK (mergeK [] ka)) ∧ s.heap.objs.size ≠ g.objs.size ∧ ka.length ≤ 900 ∧
      Q (.ref s.heap.objs.size) (upd (upd H3 g.objs.size (.dK [(key, y)])) s.heap.objs.size (.dK (putK (mergeK [] ka) key y)))
    | _ => False) I4 q2
  refine thn hps fun ws s3 ⟨ps, H3, I5, rel, hh⟩ => ?_
  rcases ps with _ | ⟨⟨x2, y⟩, _ | ⟨z, zs⟩⟩
  · exact False.elim hh
  · obtain ⟨key, ek2, hq3, hp3, npq, hk9, qq⟩ := hh
    subst ek2
    rcases ws with _ | ⟨⟨b1, b2⟩, wt⟩
    · cases rel
    · obtain ⟨rr, rt⟩ : (RelV (kV key) b1 ∧ RelV y b2) ∧ wt = [] := by
        cases rel with
        | cons p q =>
          cases q
          exact ⟨p, rfl⟩
      subst rt
      obtain ⟨zq, loq, vq, rq, dq⟩ := dk_of I5.hok hq3
      cases rq
      refine ⟨[(key, b2)], ⟨kV_is rr.1, rfl, True.intro⟩, dq, fun h' dg2 sg2 => ?_⟩
      have he2 : ∃ z, h'.get? g.objs.size = some z := let ⟨z, _, _, hz, _⟩ := dg2; ⟨z, hz⟩
      have kv1 : KV [(key, y)] (merged [] [(key, b2)]) := .cons ⟨rfl, rr.2⟩ .nil
      have I6 := d_write (t' := s3.toks + 1) I5 (by rw [hq3]; exact True.intro) sg2 he2 (dk_new (H' := upd H3 g.objs.size (.dK [(key, y)])) (by show 1 ≤ sizeLine; decide) loq kv1 dg2)
      have hp4 : upd H3 g.objs.size (.dK [(key, y)]) s.heap.objs.size = some (.dK (mergeK [] ka)) := (upd_ne npq).trans hp3
      obtain ⟨zp, lop, vp, rp, dp⟩ := dk_of I6.hok hp4
      obtain ⟨zs, los, vs2, rs, ds⟩ := dk_of I6.hok (show upd H3 g.objs.size (.dK [(key, y)]) g.objs.size = some (.dK [(key, y)]) from upd_same)
      have hm : (mergeK [] ka).length ≤ ka.length := by
        have := length_mergeK ka []
        rw [List.length_nil] at this
        omega
      have hz2 : (putK (mergeK [] ka) key y).length ≤ sizeLine := by
        have := length_putK (mergeK [] ka) key y
        exact small (by omega)
      refine ⟨g.objs.size, vp, vs2, rfl, npq, los, dp, ds, small (by rw [← rp.length, ← rs.length]; show (mergeK [] ka).length + 1 ≤ 1000; omega), fun g3 dg3 sg3 => ?_⟩
      have he3 : ∃ z, g3.get? s.heap.objs.size = some z := let ⟨z, _, _, hz, _⟩ := dg3; ⟨z, hz⟩
      exact ⟨.ref s.heap.objs.size, _, d_write (t' := s3.toks + 1) I6 (by rw [hp4]; exact True.intro) sg3 he3 (dk_new (H' := upd (upd H3 g.objs.size (.dK [(key, y)])) s.heap.objs.size (.dK (putK (mergeK [] ka) key y))) hz2 lop (show KV (mergeK (mergeK [] ka) [(key, y)]) _ from rs.merge rp) dg3), rfl, qq⟩
  · exact False.elim hh
end Bd
end

section
namespace Bd
open PySem L2
/-! ### what is none -/
inductive NoInt (K : PySem.W.Frag) (H : Hp) : V → Prop
  | bl (b : Bool) : NoInt K H (.bl b)
  | ty {v : V} {t : String} : TyX K H v (.type t) → kitB t "int" = some false → NoInt K H v
inductive NoAmt (K : PySem.W.Frag) (H : Hp) : V → Prop
  | ty {v : V} {t : String} : TyX K H v (.type t) → kitB t "tuple" = some false → NoAmt K H v
  | len {a : Addr} {xs : List V} : SqT K H a xs → xs.length ≠ 2 → NoAmt K H (.ref a)
  | top {a : Addr} {x y : V} : SqT K H a [x, y] → NoInt K H x → NoAmt K H (.ref a)
  | bot {a : Addr} {i : Int} {y : V} : SqT K H a [.int i, y] → NoInt K H y → NoAmt K H (.ref a)
  | neg {a : Addr} {i j : Int} : SqT K H a [.int i, .int j] → i < 0 ∨ j < 1 → NoAmt K H (.ref a)
  | gcd {a : Addr} {n m : Nat} : SqT K H a [.int n, .int m] → n < 2 ^ 3000 → 0 < m → m < 2 ^ 3000 → Nat.gcd n m ≠ 1 → NoAmt K H (.ref a)
def BadRise (K : PySem.W.Frag) (H : Hp) : Int → List V → Prop
  | _, [] => False
  | p, x :: r => NoInt K H x ∨ (∃ z, x = .int z ∧ ¬ (p < z ∧ z ≤ 63)) ∨ ∃ z, x = .int z ∧ p < z ∧ z ≤ 63 ∧ BadRise K H z r
inductive NoSetV (K : PySem.W.Frag) (H : Hp) : V → Prop
  | ty {v : V} {t : String} : TyX K H v (.type t) → kitB t "tuple" = some false → NoSetV K H v
  | bad {a : Addr} {xs : List V} : SqT K H a xs → BadRise K H (-1) xs → NoSetV K H (.ref a)
def NoEnd (K : PySem.W.Frag) (H : Hp) (v : V) : Prop := (∃ t : String, TyX K H v (.type t) ∧ kitB t "str" = some false) ∨ ∃ x : Str, v = .str x ∧ x ≠ "endless"
/-- a value that the word may not have -/
inductive BadV (K : PySem.W.Frag) (H : Hp) : Str → V → Prop
  | amt {x : Str} {v : V} : x ∈ (["min", "low", "burst"] : List Str) → NoAmt K H v → BadV K H x v
  | lim {x : Str} {v : V} : x ∈ (["max", "quota", "tops"] : List Str) → NoEnd K H v → NoAmt K H v → BadV K H x v
  | set {v : V} : v ≠ .non → NoSetV K H v → BadV K H "sets" v
  | alone {v : V} : NoInt K H v → BadV K H "alone" v
  | aloneI {i : Int} : i ≠ 0 → i ≠ 1 → BadV K H "alone" (.int i)
def spIntU (K : PySem.W.Frag) : Sp := fun vs H Q _ => ∃ v : V, vs = [v] ∧ ((∃ i, v = .int i ∧ Q (.bl true) H) ∨ (NoInt K H v ∧ Q (.bl false) H))
def spNoAmt (K : PySem.W.Frag) : Sp := fun vs H Q _ => ∃ v : V, vs = [v] ∧ NoAmt K H v ∧ Q (.bl false) H
def spNoSet (K : PySem.W.Frag) : Sp := fun vs H Q _ => ∃ v : V, vs = [v] ∧ NoSetV K H v ∧ Q (.bl false) H
def spNoEnd (K : PySem.W.Frag) : Sp := fun vs H Q _ => ∃ v : V, vs = [v] ∧ NoEnd K H v ∧ Q (.bl false) H
def spBadV (K : PySem.W.Frag) : Sp := fun vs H Q _ => ∃ (x : Str) (v : V), vs = [.str x, v] ∧ BadV K H x v ∧ ∀ H', Same H H' → Q (.bl false) H'
theorem ty_same {K : PySem.W.Frag} {H H' : Hp} (e : Same H H') {v : V} {t : Value} (h : TyX K H v t) : TyX K H' v t := ty_ext (LamX.ExtN.of e) h
theorem noInt_same {K : PySem.W.Frag} {H H' : Hp} (e : Same H H') {v : V} (h : NoInt K H v) : NoInt K H' v := by
  cases h with
  | bl b => exact .bl b
  | ty h k => exact .ty (ty_same e h) k
theorem noAmt_same {K : PySem.W.Frag} {H H' : Hp} (e : Same H H') {v : V} (h : NoAmt K H v) : NoAmt K H' v := by
  cases h with
  | ty h k => exact .ty (ty_same e h) k
  | len h k => exact .len (Same.seqT e h) k
  | top h k => exact .top (Same.seqT e h) (noInt_same e k)
  | bot h k => exact .bot (Same.seqT e h) (noInt_same e k)
  | neg h k => exact .neg (Same.seqT e h) k
  | gcd h a b c d => exact .gcd (Same.seqT e h) a b c d
theorem rise_same {K : PySem.W.Frag} {H H' : Hp} (e : Same H H') : ∀ {xs : List V} {p : Int}, BadRise K H p xs → BadRise K H' p xs
  | [], _, h => h
  | x :: r, p, h => by
    rcases h with h | h | ⟨z, h1, h2, h3, h4⟩
    · exact .inl (noInt_same e h)
    · exact .inr (.inl h)
    · exact .inr (.inr ⟨z, h1, h2, h3, rise_same e h4⟩)
theorem noSet_same {K : PySem.W.Frag} {H H' : Hp} (e : Same H H') {v : V} (h : NoSetV K H v) : NoSetV K H' v := by
  cases h with
  | ty h k => exact .ty (ty_same e h) k
  | bad h k => exact .bad (Same.seqT e h) (rise_same e k)
theorem noEnd_same {K : PySem.W.Frag} {H H' : Hp} (e : Same H H') {v : V} (h : NoEnd K H v) : NoEnd K H' v := by
  rcases h with ⟨t, h, k⟩ | h
  · exact .inl ⟨t, ty_same e h, k⟩
  · exact .inr h
theorem badV_same {K : PySem.W.Frag} {H H' : Hp} (e : Same H H') {x : Str} {v : V} (h : BadV K H x v) : BadV K H' x v := by
  cases h with
  | amt m h => exact .amt m (noAmt_same e h)
  | lim m h k => exact .lim m (noEnd_same e h) (noAmt_same e k)
  | set n h => exact .set n (noSet_same e h)
  | alone h => exact .alone (noInt_same e h)
  | aloneI a b => exact .aloneI a b
section
variable {P : Program} {w : World} {K : PySem.W.Frag} {mg : Str → Option Value} {base : Heap} {aL : Addr} {left : List (Key × V)}
/-- two promises of one def -/
theorem fn_or {CX : CXT} {k : Nat} {f : Addr} {fd : FuncData} {ps : List Str} {sp1 sp2 : Sp} (F1 : FnOk P w K mg base CX k f fd ps sp1) (F2 : FnOk P w K mg base CX k f fd ps sp2) : FnOk P w K mg base CX k f fd ps (fun vs H Q E => sp1 vs H Q E ∨ sp2 vs H Q E) := by
  refine ⟨fun vs H Q E h => h.elim (F1.len vs H Q E) (F2.len vs H Q E), fun A outer s H pa vs us Q E hr e0 hb hv h => ?_⟩
  rcases h with h | h
  · exact F1.run A outer s H pa vs us Q E hr e0 hb hv h
  · exact F2.run A outer s H pa vs us Q E hr e0 hb hv h
theorem ok_intU {f : Addr} {fd : FuncData} (F : Fun K "is_integer" "is_integer" sIsInteger f fd) (T : TP P w K mg aL left) : FnOk P w K mg base CX0 1 f fd ["thing"] (spIntU K) := by
  refine F.ok scIsInteger (fun vs H Q E h => ?_) (fun cdv A outer s H vs Q E hr h => ?_)
  · obtain ⟨i, rfl, _⟩ := h
    rfl
  obtain ⟨v, rfl, h⟩ := h
  refine ⟨_, (pss_one (ps_ret (pe_and (pe_callB call_isi (by rfl) T.z_isinstance (by decide +kernel) (pa_cons (pv 0) (pa_cons (pe_bltn (v := .ty "int") (u := .type "int") (by rfl) T.z_int (by decide +kernel) rfl) pa_nil))) (pe_one (pe_not (pe_callB call_isi (by rfl) T.z_isinstance (by decide +kernel) (pa_cons (pv 0) (pa_cons (pe_bltn (v := .ty "bool") (u := .type "bool") (by rfl) T.z_bool (by decide +kernel) rfl) pa_nil)))))))), ?_⟩
  rcases h with ⟨i, rfl, q⟩ | ⟨h, q⟩
  · refine ⟨_, rfl, _, _, _, _, true, rfl, .ty _, .base (.int i), kit_ty (by decide +kernel), true, rfl, ?_⟩
    refine ⟨_, rfl, _, _, _, _, false, rfl, .ty _, .base (.int i), kit_ty (by decide +kernel), false, rfl, ?_⟩
    exact q
  · cases h with
    | bl b =>
      refine ⟨_, rfl, _, _, _, _, true, rfl, .ty _, .base (.bl b), kit_ty (by decide +kernel), true, rfl, ?_⟩
      refine ⟨_, rfl, _, _, _, _, true, rfl, .ty _, .base (.bl b), kit_ty (by decide +kernel), true, rfl, ?_⟩
      exact q
    | ty ty kt => exact ⟨_, rfl, _, _, _, _, false, rfl, .ty _, ty, kit_ty kt, false, rfl, iteF q⟩
theorem ok_noAmt {f g e : Addr} {fd gd ed : FuncData} (F : Fun K "is_amount" "is_amount" sIsAmount f fd) (T : TP P w K mg aL left) (cI : Cal P w K mg base "is_integer" ["thing"] 1 (spIntU K) g gd) (cD : Cal P w K mg base "divisor" ["one", "other"] 1 spDivisor e ed) : FnOk P w K mg base CX0 2 f fd ["thing"] (spNoAmt K) := by
  refine F.ok scIsAmount (fun vs H Q E h => ?_) (fun cdv A outer s H vs Q E hr h => ?_)
  · obtain ⟨i, rfl, _⟩ := h
    rfl
  obtain ⟨v, rfl, h, q⟩ := h
  refine ⟨_, (pss_cons (ps_if (PW.pt (pw_or (pt_not (pt_val (pe_callB call_isi (by rfl) T.z_isinstance (by decide +kernel) (pa_cons (pv 0) (pa_cons (pe_bltn (v := .ty "tuple") (u := .type "tuple") (by rfl) T.z_tuple (by decide +kernel) rfl) pa_nil))))) (pw_or1 (pt_cmpR op_ne (pe_callB call_len_seq (by rfl) T.z_len PySem.boot_len (pa_cons (pv 0) pa_nil)) pe_int (nomark _))))) (pss_one (ps_ret pe_bl)) pss_nil) (pss_cons (ps_asg (pv 0) (pg_tup (by rfl) (pgs_cons (pg_name (i := 1) scIsAmount.nd rfl (Or.inl rfl)) (pgs_cons (pg_name (i := 2) scIsAmount.nd rfl (Or.inl rfl)) pgs_nil)))) (pss_cons (ps_if (PW.pt (pw_or (pt_not (pt_val (pe_call cI.ok (hr.mono (by decide)) rfl cI.mg cI.kp cI.bd .nil pass0 (pa_cons (pv 1) pa_nil)))) (pw_or1 (pt_not (pt_val (pe_call cI.ok (hr.mono (by decide)) rfl cI.mg cI.kp cI.bd .nil pass0 (pa_cons (pv 2) pa_nil))))))) (pss_one (ps_ret pe_bl)) pss_nil) (pss_one (ps_ret (pe_and (pe_cmpR op_ge (pv 1) pe_int (nomark _)) (pe_and (pe_cmpR op_ge (pv 2) pe_int (nomark _)) (pe_one (pe_cmpR op_eq (pe_call cD.ok (hr.mono (by decide)) rfl cD.mg cD.kp cD.bd .nil pass0 (pa_cons (pv 1) (pa_cons (pv 2) pa_nil))) pe_int (nomark _)))))))))), ?_⟩
  have two : ∀ {a : Addr} {xs : List V}, SqT K H a xs → TyX K H (.ref a) (.type "tuple") := fun h => sqt_ty h
  cases h with
  | ty ty kt => exact ⟨_, rfl, _, _, _, _, false, rfl, .ty _, ty, kit_ty kt, false, rfl, iteT q⟩
  | @len a xs ha hl =>
    refine ⟨_, rfl, _, _, _, _, true, rfl, .ty _, sqt_ty ha, kit_ty (by decide +kernel), true, rfl, iteF ?_⟩
    refine ⟨_, rfl, a, _, rfl, .inr ha, rfl, _, rfl, ?_⟩
    have e : (!decide (V.int ((xs.length : Nat) : Int) = V.int 2)) = true := by
      rw [decide_eq_false fun z => hl (by have := V.int.inj z; omega)]
      rfl
    exact ifT e q
  | @top a x y ha hn =>
    refine ⟨_, rfl, _, _, _, _, true, rfl, .ty _, sqt_ty ha, kit_ty (by decide +kernel), true, rfl, iteF ?_⟩
    refine ⟨_, rfl, a, _, rfl, .inr ha, rfl, _, rfl, ?_⟩
    refine iteNS rfl ?_
    refine ⟨_, rfl, a, _, rfl, ha, rfl, ?_⟩
    refine ⟨_, _, rfl, _, _, rfl, rfl, ?_⟩
    exact ⟨_, rfl, _, rfl, .inr ⟨hn, false, rfl, iteT q⟩⟩
  | @bot a i y ha hn =>
    refine ⟨_, rfl, _, _, _, _, true, rfl, .ty _, sqt_ty ha, kit_ty (by decide +kernel), true, rfl, iteF ?_⟩
    refine ⟨_, rfl, a, _, rfl, .inr ha, rfl, _, rfl, ?_⟩
    refine iteNS rfl ?_
    refine ⟨_, rfl, a, _, rfl, ha, rfl, ?_⟩
    refine ⟨_, _, rfl, _, _, rfl, rfl, ?_⟩
    refine ⟨_, rfl, _, rfl, .inl ⟨i, rfl, true, rfl, iteF ?_⟩⟩
    exact ⟨_, rfl, _, rfl, .inr ⟨hn, false, rfl, iteT q⟩⟩
  | @neg a i j ha hn =>
    refine ⟨_, rfl, _, _, _, _, true, rfl, .ty _, sqt_ty ha, kit_ty (by decide +kernel), true, rfl, iteF ?_⟩
    refine ⟨_, rfl, a, _, rfl, .inr ha, rfl, _, rfl, ?_⟩
    refine iteNS rfl ?_
    refine ⟨_, rfl, a, _, rfl, ha, rfl, ?_⟩
    refine ⟨_, _, rfl, _, _, rfl, rfl, ?_⟩
    refine ⟨_, rfl, _, rfl, .inl ⟨i, rfl, true, rfl, iteF ?_⟩⟩
    refine ⟨_, rfl, _, rfl, .inl ⟨j, rfl, true, rfl, iteF ?_⟩⟩
    by_cases c : i < 0
    · exact ⟨_, rfl, _, _, rfl, rfl, false, congrArg V.bl (decide_eq_false (by omega)), iteF q⟩
    · refine ⟨_, rfl, _, _, rfl, rfl, true, bl_t (by omega), iteT ?_⟩
      exact ⟨_, rfl, _, _, rfl, rfl, false, congrArg V.bl (decide_eq_false (by omega)), iteF q⟩
  | @gcd a n m ha h1 h2 h3 h4 =>
    refine ⟨_, rfl, _, _, _, _, true, rfl, .ty _, sqt_ty ha, kit_ty (by decide +kernel), true, rfl, iteF ?_⟩
    refine ⟨_, rfl, a, _, rfl, .inr ha, rfl, _, rfl, ?_⟩
    refine iteNS rfl ?_
    refine ⟨_, rfl, a, _, rfl, ha, rfl, ?_⟩
    refine ⟨_, _, rfl, _, _, rfl, rfl, ?_⟩
    refine ⟨_, rfl, _, rfl, .inl ⟨_, rfl, true, rfl, iteF ?_⟩⟩
    refine ⟨_, rfl, _, rfl, .inl ⟨_, rfl, true, rfl, iteF ?_⟩⟩
    refine ⟨_, rfl, _, _, rfl, rfl, true, bl_t (by omega), iteT ?_⟩
    refine ⟨_, rfl, _, _, rfl, rfl, true, bl_t (by omega), iteT ?_⟩
    refine ⟨_, rfl, _, rfl, n, m, rfl, h1, h3, rfl, ?_⟩
    have e : decide (V.int ((Nat.gcd n m : Nat) : Int) = V.int 1) = false := decide_eq_false fun z => h4 (by have := V.int.inj z; omega)
    show Q (.bl (decide (V.int ((Nat.gcd n m : Nat) : Int) = V.int 1))) H
    rw [e]
    exact q
theorem ok_noEnd {f : Addr} {fd : FuncData} (F : Fun K "is_endless" "is_endless" sIsEndless f fd) (T : TP P w K mg aL left) : FnOk P w K mg base CX0 1 f fd ["thing"] (spNoEnd K) := by
  refine F.ok scIsEndless (fun vs H Q E h => ?_) (fun cdv A outer s H vs Q E hr h => ?_)
  · obtain ⟨v, rfl, _⟩ := h
    rfl
  obtain ⟨v, rfl, h, q⟩ := h
  obtain ⟨tl, hL⟩ := T.g_ENDLESS
  refine ⟨_, (pss_one (ps_ret (pe_and (pe_callB call_isi (by rfl) T.z_isinstance (by decide +kernel) (pa_cons (pv 0) (pa_cons (pe_bltn (v := .ty "str") (u := .type "str") (by rfl) T.z_str (by decide +kernel) rfl) pa_nil))) (pe_one (pe_cmpR op_eq (pv 0) (pe_glob (v := .str "endless") rfl hL ⟨_, rfl⟩) (nomark _)))))), ?_⟩
  rcases h with ⟨t, ty, kt⟩ | ⟨x, rfl, hx⟩
  · exact ⟨_, rfl, _, _, _, _, false, rfl, .ty _, ty, kit_ty kt, false, rfl, iteF q⟩
  · refine ⟨_, rfl, _, _, _, _, true, rfl, .ty _, .base (.str _), kit_ty (by decide +kernel), true, rfl, ?_⟩
    refine ⟨_, rfl, rfl, ?_⟩
    show Q (.bl (decide (V.str x = V.str "endless"))) H
    rw [decide_eq_false fun z => hx (V.str.inj z)]
    exact q
theorem ok_noSet {f g : Addr} {fd gd : FuncData} (F : Fun K "is_set" "is_set" sIsSet f fd) (T : TP P w K mg aL left) (cI : Cal P w K mg base "is_integer" ["thing"] 1 (spIntU K) g gd) : FnOk P w K mg base CX0 2 f fd ["thing"] (spNoSet K) := by
  refine F.ok scIsSet (fun vs H Q E h => ?_) (fun cdv A outer s H vs Q E hr h => ?_)
  · obtain ⟨v, rfl, _⟩ := h
    rfl
  obtain ⟨v, rfl, h, q⟩ := h
  obtain ⟨tl, hL⟩ := T.g_GREATEST_PROCESSOR
  refine ⟨_, (pss_cons (ps_if (pt_not (pt_val (pe_callB call_isi (by rfl) T.z_isinstance (by decide +kernel) (pa_cons (pv 0) (pa_cons (pe_bltn (v := .ty "tuple") (u := .type "tuple") (by rfl) T.z_tuple (by decide +kernel) rfl) pa_nil))))) (pss_one (ps_ret pe_bl)) pss_nil) (pss_cons (ps_set (i := 1) scIsSet.nd rfl (Or.inl rfl) (pe_un un_neg pe_int)) (pss_cons (ps_for PassesOwn.never rfl (pi_tup (pv 0)) (pg_name (i := 2) scIsSet.nd rfl (Or.inl rfl)) (pss_cons (ps_if (PW.pt (pw_or (pt_not (pt_val (pe_call cI.ok (hr.mono (by decide)) rfl cI.mg cI.kp cI.bd .nil pass0 (pa_cons (pv 2) pa_nil)))) (pw_or1 (pt_not (pt_chain op_lt op_le (pv 1) (pv 2) (pe_glob (v := .int 63) rfl hL ⟨_, rfl⟩)))))) (pss_one (ps_ret pe_bl)) pss_nil) (pss_one (ps_set (i := 1) scIsSet.nd rfl (Or.inl rfl) (pv 2))))) (pss_one (ps_ret pe_bl))))), ?_⟩
  cases h with
  | ty ty kt => exact ⟨_, rfl, _, _, _, _, false, rfl, .ty _, ty, kit_ty kt, false, rfl, iteT q⟩
  | @bad a xs ha hb =>
    refine ⟨_, rfl, _, _, _, _, true, rfl, .ty _, sqt_ty ha, kit_ty (by decide +kernel), true, rfl, ?_⟩
    refine iteF ?_
    refine ⟨_, rfl, ?_⟩
    refine ⟨_, rfl, a, rfl, ⟨_, ha⟩, for_tup (xs := xs) (fun i σ H' => H' = H ∧ ∃ (p : Int) (o : Option V), σ = [some (.ref a), some (.int p), o] ∧ BadRise K H p (xs.drop i)) ⟨rfl, -1, none, rfl, hb⟩ ?_ ?_ ?_⟩
    · rintro i σ H' _ ⟨rfl, _⟩
      exact ha
    · rintro i x σ H' hi ⟨rfl, p, o, rfl, hp⟩
      rw [drop_at hi] at hp
      rcases hp with hn | ⟨z, rfl, hz⟩ | ⟨z, rfl, h1, h2, h3⟩
      · exact ⟨_, rfl, _, rfl, .inr ⟨hn, false, rfl, iteT q⟩⟩
      · refine ⟨_, rfl, _, rfl, .inl ⟨z, rfl, true, rfl, iteF ?_⟩⟩
        by_cases c : p < z
        · refine ⟨_, rfl, _, rfl, _, _, rfl, rfl, true, bl_t c, iteT ?_⟩
          refine ⟨_, _, rfl, rfl, false, congrArg V.bl (decide_eq_false fun z2 => hz ⟨c, z2⟩), iteT ?_⟩
          exact q
        · refine ⟨_, rfl, _, rfl, _, _, rfl, rfl, false, congrArg V.bl (decide_eq_false c), iteF ?_⟩
          exact ⟨false, rfl, iteT q⟩
      · refine ⟨_, rfl, _, rfl, .inl ⟨z, rfl, true, rfl, iteF ?_⟩⟩
        refine ⟨_, rfl, _, rfl, _, _, rfl, rfl, true, bl_t h1, ?_⟩
        refine iteT ?_
        refine ⟨_, _, rfl, rfl, true, bl_t h2, ?_⟩
        refine iteF ?_
        refine ⟨_, rfl, ?_⟩
        exact ⟨rfl, z, _, rfl, h3⟩
    · rintro σ H' ⟨rfl, p, o, rfl, hp⟩
      rw [List.drop_length] at hp
      exact hp.elim
theorem ok_badV {f g e c d : Addr} {fd gd ed cd dd : FuncData} (F : Fun K "may_have" "may_have" sMayHave f fd) (T : TP P w K mg aL left) (cA : Cal P w K mg base "is_amount" ["thing"] 2 (spNoAmt K) g gd) (cI : Cal P w K mg base "is_integer" ["thing"] 1 (spIntU K) e ed)
    (cS : Cal P w K mg base "is_set" ["thing"] 2 (spNoSet K) c cd) (cE : Cal P w K mg base "is_endless" ["thing"] 1 (spNoEnd K) d dd) : FnOk P w K mg base CX0 3 f fd ["word", "value"] (spBadV K) := by
  refine F.ok scMayHave (fun vs H Q E h => ?_) (fun cdv A outer s H vs Q E hr h => ?_)
  · obtain ⟨x, v, rfl, _⟩ := h
    rfl
  obtain ⟨x, v, rfl, hok, q⟩ := h
  refine ⟨_, (pss_cons (ps_if (pt_cmpR op_in_seq (pv 0) (pe_tup (pa_cons pe_str (pa_cons pe_str (pa_cons pe_str pa_nil)))) (by first | exact nomark _ | rfl)) (pss_one (ps_ret (pe_call cA.ok (hr.mono (by decide)) rfl cA.mg cA.kp cA.bd .nil pass0 (pa_cons (pv 1) pa_nil)))) pss_nil) (pss_cons (ps_if (pt_cmpR op_eq (pv 0) pe_str (nomark _)) (pss_one (ps_ret (pe_or (pe_cmpR op_isN (pv 1) pe_non (nomark _)) (pe_one (pe_call cS.ok (hr.mono (by decide)) rfl cS.mg cS.kp cS.bd .nil pass0 (pa_cons (pv 1) pa_nil)))))) pss_nil) (pss_cons (ps_if (pt_cmpR op_eq (pv 0) pe_str (nomark _)) (pss_one (ps_ret (pe_and (pe_call cI.ok (hr.mono (by decide)) rfl cI.mg cI.kp cI.bd .nil pass0 (pa_cons (pv 1) pa_nil)) (pe_one (pe_cmpR op_in_seq (pv 1) (pe_tup (pa_cons pe_int (pa_cons pe_int pa_nil))) (by first | exact nomark _ | rfl)))))) pss_nil) (pss_one (ps_ret (pe_or (pe_call cE.ok (hr.mono (by decide)) rfl cE.mg cE.kp cE.bd .nil pass0 (pa_cons (pv 1) pa_nil)) (pe_one (pe_call cA.ok (hr.mono (by decide)) rfl cA.mg cA.kp cA.bd .nil pass0 (pa_cons (pv 1) pa_nil))))))))), ?_⟩
  refine ⟨_, rfl, by show 3 ≤ sizeLine; decide, fun p hp => ⟨p, _, rfl, .inr (SqT.of upd_same), rfl, rfl, ?_⟩⟩
  have s1 := Same.new (Same.refl H) hp (.tup [.str "min", .str "low", .str "burst"])
  cases badV_same s1 hok with
  | amt hw h =>
    simp only [List.mem_cons, List.not_mem_nil, or_false] at hw
    rcases hw with rfl | rfl | rfl
    all_goals
      refine ⟨true, congrArg V.bl (by decide +kernel), iteT ?_⟩
      exact ⟨_, rfl, _, rfl, h, q _ s1⟩
  | lim hw h1 h2 =>
    simp only [List.mem_cons, List.not_mem_nil, or_false] at hw
    rcases hw with rfl | rfl | rfl
    all_goals
      refine ⟨false, congrArg V.bl (by decide +kernel), iteF ?_⟩
      refine ⟨_, rfl, rfl, _, rfl, ifF (by decide +kernel) ?_⟩
      refine ⟨_, rfl, rfl, _, rfl, ifF (by decide +kernel) ?_⟩
      refine ⟨_, rfl, _, rfl, h1, ?_⟩
      refine ⟨false, rfl, ?_⟩
      refine iteF ?_
      exact ⟨_, rfl, _, rfl, h2, q _ s1⟩
  | set hn h =>
    refine ⟨false, congrArg V.bl (by decide +kernel), iteF ?_⟩
    refine ⟨_, rfl, rfl, _, rfl, ifT (by decide +kernel) ?_⟩
    refine ⟨_, rfl, rfl, false, ?_, iteF ?_⟩
    · cases v <;> first | rfl | exact absurd rfl hn
    exact ⟨_, rfl, _, rfl, h, q _ s1⟩
  | alone h =>
    refine ⟨false, congrArg V.bl (by decide +kernel), iteF ?_⟩
    refine ⟨_, rfl, rfl, _, rfl, ifF (by decide +kernel) ?_⟩
    refine ⟨_, rfl, rfl, _, rfl, ifT (by decide +kernel) ?_⟩
    exact ⟨_, rfl, _, rfl, .inr ⟨h, false, rfl, iteF (q _ s1)⟩⟩
  | @aloneI i h0 h1 =>
    refine ⟨false, congrArg V.bl (by decide +kernel), iteF ?_⟩
    refine ⟨_, rfl, rfl, _, rfl, ifF (by decide +kernel) ?_⟩
    refine ⟨_, rfl, rfl, _, rfl, ifT (by decide +kernel) ?_⟩
    refine ⟨_, rfl, _, rfl, .inl ⟨i, rfl, true, rfl, iteT ?_⟩⟩
    refine ⟨_, rfl, by show 2 ≤ sizeLine; decide, fun p2 hp2 => ⟨p2, _, rfl, .inr (SqT.of upd_same), rfl, rfl, ?_⟩⟩
    have e : inV (.int i) [.int 0, .int 1] = false := by
      unfold inV
      simp [eqV, flatV]
      exact ⟨fun z => h0 z.symm, fun z => h1 z.symm⟩
    show Q (.bl (inV (.int i) [.int 0, .int 1])) _
    rw [e]
    exact q _ (Same.new s1 hp2 _)
end
end Bd
end

section
namespace Bd
open PySem L2
/-- Base.__init__(self, ..) of an own base class that has none of its own -/
theorem pe_oinit {X : Cx} {x : Str} {D : Addr} {mc : Value} {e : Expr} {es : List Expr} {ta : L2.TA} {p1 p2 pos : Pos} {pl : Sem Bool} (hg : Gl X x) (hm : X.mg x = some (.ref D)) (r : ClX.CRead X.K D mc) (vV : PySem.W.findCls X.K (.ref D) mc "__init__" = some (.val (.builtin "ValueError.__init__"))) (ha : PA X (e :: es) ta)
    (hdb : (x == ("__debug__" : Str)) = false := by decide)
    (hc : eval (.Call (.Attribute (.Name x p1) "__init__" p2) (e :: es) [] pos) X.env = (do
      let ov ← eval (.Name x p1) X.env
      standAt p2.atName
      let (f, first) ← holding [ov] (getMethod ov "__init__" pl)
      callWith pos f first (backTo pos (starEach (e :: es) X.env)) (backToKw pos (keywordEach [] X.env))) := by rfl)
    (he : starEach (e :: es) X.env = (false, eval e X.env) :: starEach es X.env := by rfl) (hpl : (backTo pos (starEach es X.env)).any (·.1) = false := by rfl) :
    PE X (.Call (.Attribute (.Name x p1) "__init__" p2) (e :: es) [] pos) (tVeI X.K ta) := by
  refine ⟨fun pins s σ H Q I h => ?_⟩
  refine PySem.W.methodCall_KW (ld_glob I hg hm ?_ hdb) hc
  refine PySem.W.method_cls I.kIn r.ga (PySem.W.cls_value I.kIn r.rd vV (by decide +kernel) ?_)
  show wpAny _ _ (callWith pos (Value.builtin "ValueError.__init__") [] (backTo pos (starEach (e :: es) X.env)) []) _ _ _
  refine PyProof.Rows.callWith_method1 (thn (ha.run pos pins _ σ H _ (I.tok _) h) fun us s1 ⟨vs, H1, I1, r1, a, C, ws, ev, hl, T, ea, q⟩ => ?_) he hpl
  subst ev
  cases r1 with
  | @cons _ u0 _ ur ra rw' =>
    obtain rfl : u0 = Value.ref a := ra
    have hlen : ur.length ≤ sizeLine := by
      rw [← Paired.length rw', sizeLine_eq]
      omega
    exact oinit_ok T I1 ea hlen fun s' J => ⟨.non, H1, J, rfl, q⟩
end Bd
end

section
namespace Bd
open PySem L2
abbrev sNTI : Stmt := (inClass (top 14) 0)
theorem scNTI : FnScope ["self", "at"] ["self", "at"] (defScope sNTI) := ⟨rfl, rfl, rfl, by decide +kernel, rfl, by decide +kernel, by decide +kernel⟩
/-- the base class of the errors -/
structure DE (K : PySem.W.Frag) (mg : Str → Option Value) (CE : Addr) (mc : Value) : Prop where
  g : mg "DueError" = some (.ref CE)
  r : ClX.CRead K CE mc
  v : PySem.W.findCls K (.ref CE) mc "__init__" = some (.val (.builtin "ValueError.__init__"))
/-- the error with a field -/
structure NT (K : PySem.W.Frag) (mg : Str → Option Value) (CT fI : Addr) : Prop where
  o : OexC K CT
  n_at : PySem.W.findIn K (.ref CT) "at" = some none
  g : mg "NoTree" = some (.ref CT)
  i : PySem.W.findIn K (.ref CT) "__init__" = some (some (.ref fI))
  t : PySem.W.typeIn K (.ref fI) = some (.type "function")
def spNT (K : PySem.W.Frag) (CT : Addr) : Sp := fun vs H Q _ => ∃ (a : Addr) (n : Int), vs = [.ref a, .int n] ∧ H a = some (exo a CT none) ∧ ∀ dx, H dx = none → dx ≠ a → Q .non (upd (upd H dx (exd dx [("at", .int n)])) a (exo a CT (some dx)))
section
variable {P : Program} {w : World} {K : PySem.W.Frag} {mg : Str → Option Value} {base : Heap} {CE CT fI : Addr} {mc : Value}
theorem ok_nti {f : Addr} {fd : FuncData} (F : Fun K "__init__" "NoTree.__init__" sNTI f fd) (D : DE K mg CE mc) (N : NT K mg CT fI) : FnOk P w K mg base CX0 1 f fd ["self", "at"] (spNT K CT) := by
  refine F.ok scNTI (fun vs H Q E h => ?_) (fun cdv A outer s H vs Q E hr h => ?_)
  · obtain ⟨a, n, rfl, _⟩ := h
    rfl
  obtain ⟨a, n, rfl, ea, q⟩ := h
  refine ⟨_, (pss_cons (ps_expr (pe_oinit rfl D.g D.r D.v (pa_cons (pv 0) (pa_cons pe_str pa_nil)))) (pss_one (ps_ost (pv 0) (pv 1)))), ?_⟩
  refine ⟨_, rfl, a, CT, _, rfl, by show 1 ≤ 1000; decide, N.o, ea, ?_⟩
  exact ⟨_, rfl, _, rfl, a, CT, rfl, N.o, N.n_at, .inl ⟨ea, fun dx h ne => q dx h ne⟩⟩
/-- raise NoTree(n) -/
theorem nt_raise {H1 : Hp} {n : Int} {Q : XK} (q : ∀ d G, Same H1 G → H1 d = none → G d = some (.xd [("at", .int n)]) → Q (.ref CT) (some d) G) :
    ([V.int n] : List V).length ≤ 1000 ∧ ∀ a, H1 a = none → spNT K CT (.ref a :: ([V.int n] ++ [])) (upd H1 a (exo a CT none))
      (fun v H2 => v = .non ∧ ∃ (d : Addr) (fs : List (Str × V)), H2 a = some (exo a CT (some d)) ∧ H2 d = some (exd d fs) ∧ H1 d = none ∧ Q (.ref CT) (some d) (upd (del H2 a) d (.xd fs))) (fun _ _ _ => False) := by
  refine ⟨by show 1 ≤ 1000; decide, fun a ha => ⟨a, n, rfl, upd_same, fun dx hdx ne => ⟨rfl, dx, _, upd_same, (upd_ne ne).trans upd_same, ?_, ?_⟩⟩⟩
  · exact (upd_ne ne).symm.trans hdx
  · have hd : H1 dx = none := (upd_ne ne).symm.trans hdx
    refine q dx _ (fun b o e => ?_) hd upd_same
    have n1 : b ≠ dx := ne_of_none e hd
    have n2 : b ≠ a := ne_of_none e ha
    rw [upd_ne n1, del_ne n2, upd_ne n2, upd_ne n1, upd_ne n2]
    exact e
end
end Bd
end

section
namespace Bd
open PySem L2
/-! ### rows that are none -/
def inAZ (c : Nat) : Bool := (!decide ((⟨#[c]⟩ : Str).cps.toList < ("a" : Str).cps.toList)) && !decide (("z" : Str).cps.toList < (⟨#[c]⟩ : Str).cps.toList)
inductive BadName (K : PySem.W.Frag) (H : Hp) : V → Prop
  | ty {v : V} {t : String} : TyX K H v (.type t) → kitB t "str" = some false → BadName K H v
  | len {x : Str} : x.length ≤ 100 → x.length = 0 ∨ 10 < x.length → BadName K H (.str x)
  | az {x : Str} : 1 ≤ x.length → x.length ≤ 10 → x.cps.toList.all inAZ = false → BadName K H (.str x)
inductive BadDue (K : PySem.W.Frag) (H : Hp) : V → Prop
  | ty {v : V} {t : String} : TyX K H v (.type t) → kitB t "tuple" = some false → BadDue K H v
  | len {a : Addr} {xs : List V} : SqT K H a xs → xs.length ≠ 2 → BadDue K H (.ref a)
  | word {a : Addr} {x y : V} : SqT K H a [x, y] → OddN K H leftW x → BadDue K H (.ref a)
  | val {a : Addr} {w : Str} {y : V} : SqT K H a [.str w, y] → w ∈ leftW → BadV K H w y → BadDue K H (.ref a)
inductive BadDues (K : PySem.W.Frag) (H : Hp) : V → Prop
  | ty {v : V} {t : String} : TyX K H v (.type t) → kitB t "tuple" = some false → BadDues K H v
  | bad {a : Addr} {ps : List Addr} {dues : List (Str × PyData)} {x : V} {r : List V} : SqT K H a (ps.map V.ref ++ x :: r) → Paired (DueAt K H) ps dues → DuesOk dues → (BadDue K H x ∨ ∃ (p : Addr) (du : Str × PyData), x = .ref p ∧ DueAt K H p du ∧ du.1 ∈ leftW ∧ ValOk du.1 du.2 ∧ du.1 ∈ dues.map (·.1)) → BadDues K H (.ref a)
inductive BadRow (K : PySem.W.Frag) (H : Hp) : V → Prop
  | ty {v : V} {t : String} : TyX K H v (.type t) → kitB t "tuple" = some false → BadRow K H v
  | len {a : Addr} {xs : List V} : SqT K H a xs → xs.length ≠ 3 → BadRow K H (.ref a)
  | name {a : Addr} {x y z : V} : SqT K H a [x, y, z] → BadName K H x → BadRow K H (.ref a)
  | above {a : Addr} {x : Str} {y z : V} {t : String} : SqT K H a [.str x, y, z] → NameOk x → TyX K H y (.type t) → kitB t "str" = some false → BadRow K H (.ref a)
  | dues {a : Addr} {x y : Str} {z : V} : SqT K H a [.str x, .str y, z] → NameOk x → BadDues K H z → BadRow K H (.ref a)
theorem odd_same {K : PySem.W.Frag} {H H' : Hp} (e : Same H H') {xs : List Str} {v : V} (h : OddN K H xs v) : OddN K H' xs v := odd_ext (LamX.ExtN.of e) h
theorem badName_same {K : PySem.W.Frag} {H H' : Hp} (e : Same H H') {v : V} (h : BadName K H v) : BadName K H' v := by
  cases h with
  | ty h k => exact .ty (ty_same e h) k
  | len h k => exact .len h k
  | az a b c => exact .az a b c
theorem badDue_same {K : PySem.W.Frag} {H H' : Hp} (e : Same H H') {v : V} (h : BadDue K H v) : BadDue K H' v := by
  cases h with
  | ty h k => exact .ty (ty_same e h) k
  | len h k => exact .len (Same.seqT e h) k
  | word h k => exact .word (Same.seqT e h) (odd_same e k)
  | val h a b => exact .val (Same.seqT e h) a (badV_same e b)
theorem badDues_same {K : PySem.W.Frag} {H H' : Hp} (e : Same H H') {v : V} (h : BadDues K H v) : BadDues K H' v := by
  cases h with
  | ty h k => exact .ty (ty_same e h) k
  | bad h a b c => exact .bad (Same.seqT e h) (paired_mono (fun _ _ z => DueAt.same e z) a) b (c.imp (badDue_same e) fun ⟨p, du, x1, x2, x3⟩ => ⟨p, du, x1, DueAt.same e x2, x3⟩)
theorem badRow_same {K : PySem.W.Frag} {H H' : Hp} (e : Same H H') {v : V} (h : BadRow K H v) : BadRow K H' v := by
  cases h with
  | ty h k => exact .ty (ty_same e h) k
  | len h k => exact .len (Same.seqT e h) k
  | name h k => exact .name (Same.seqT e h) (badName_same e k)
  | above h a b c => exact .above (Same.seqT e h) a (ty_same e b) c
  | dues h a b => exact .dues (Same.seqT e h) a (badDues_same e b)
def spBadName (K : PySem.W.Frag) : Sp := fun vs H Q _ => ∃ v : V, vs = [v] ∧ BadName K H v ∧ ∀ H', Same H H' → Q (.bl false) H'
def spBadDue (K : PySem.W.Frag) : Sp := fun vs H Q _ => ∃ v : V, vs = [v] ∧ BadDue K H v ∧ ∀ H', Same H H' → Q (.bl false) H'
def spBadDues (K : PySem.W.Frag) : Sp := fun vs H Q _ => ∃ v : V, vs = [v] ∧ BadDues K H v ∧ ∀ H', Same H H' → Q (.bl false) H'
def spBadRow (K : PySem.W.Frag) : Sp := fun vs H Q _ => ∃ v : V, vs = [v] ∧ BadRow K H v ∧ ∀ H', Same H H' → Q (.bl false) H'
/-- a right row that may not stand there -/
def BadStand (rows : List RowM) (r : RowM) : Prop := (∃ q ∈ rows, q.name = r.name) ∨ ((∀ q ∈ rows, q.name ≠ r.name) ∧ r.above ≠ "" ∧ ∀ q ∈ rows, q.name ≠ r.above) ∨
  ((∀ q ∈ rows, q.name ≠ r.name) ∧ r.above ≠ "" ∧ ∃ q ∈ rows, q.name = r.above ∧ ∃ n m : Nat, dueOf (fullD q.dues) "tops" = some (.tuple [.int n, .int m]))
def spBadStand (K : PySem.W.Frag) (C : Addr) : Sp := fun vs H Q _ => ∃ (H0 : Hp) (p dx po pp pk pt : Addr) (rows : List RowM) (tk : List (Key × V)) (v : V) (r : RowM), vs = [.ref p, v] ∧ PartAt K H0 H C p dx po pp pk pt rows tk ∧ RowAt K H v r ∧
  BadStand rows r ∧ (rows.map (·.name)).Nodup ∧ Q (.bl false) H
section
variable {P : Program} {w : World} {K : PySem.W.Frag} {mg : Str → Option Value} {base : Heap} {aL C : Addr} {left : List (Key × V)}
theorem ok_badName {f : Addr} {fd : FuncData} (F : Fun K "is_name" "is_name" sIsName f fd) (T : TP P w K mg aL left) : FnOk P w K mg base CX0 1 f fd ["thing"] (spBadName K) := by
  refine F.ok scIsName (fun vs H Q E h => ?_) (fun cdv A outer s H vs Q E hr h => ?_)
  · obtain ⟨x, rfl, _⟩ := h
    rfl
  obtain ⟨v, rfl, h, q⟩ := h
  refine ⟨_, (pss_cons (ps_if (PW.pt (pw_or (pt_not (pt_val (pe_callB call_isi (by rfl) T.z_isinstance (by decide +kernel) (pa_cons (pv 0) (pa_cons (pe_bltn (v := .ty "str") (u := .type "str") (by rfl) T.z_str (by decide +kernel) rfl) pa_nil))))) (pw_or1 (pt_not (pt_chain op_le op_le pe_int (pe_callB call_len_str (by rfl) T.z_len PySem.boot_len (pa_cons (pv 0) pa_nil)) pe_int))))) (pss_one (ps_ret pe_bl)) pss_nil) (pss_one (ps_ret (pe_callB (cr_all rfl) (by rfl) T.z_all (by decide +kernel) (pa_cons (pe_lc (own := [("letter", 1)]) (g := gName 1) (tt := tYes) rfl scIsName.nd (pi_str (pv 0)) (blkOk_by (own := [("letter", 1)]) (N := ["thing", "letter"]) (sc := defScope sIsName) (by decide +kernel)) (fun _ _ _ _ _ => (pg_name (i := 1) scIsName.nd rfl (Or.inl rfl))) (fun _ _ _ _ _ => pts_nil) (fun _ _ _ _ _ => (pe_chain op_le_str op_le_str pe_str (pv 1) pe_str))) pa_nil))))), ?_⟩
  cases h with
  | ty ty kt => exact ⟨_, rfl, _, _, _, _, false, rfl, .ty _, ty, kit_ty kt, false, rfl, iteT (q _ (Same.refl _))⟩
  | @len x h0 h1 =>
    refine ⟨_, rfl, _, _, _, _, true, rfl, .ty _, .base (.str _), kit_ty (by decide +kernel), true, rfl, iteF ?_⟩
    refine ⟨_, rfl, x, rfl, small (by omega), _, _, rfl, rfl, ?_⟩
    by_cases c : 1 ≤ x.length
    · refine ⟨true, bl_t (by omega), iteT ?_⟩
      exact ⟨_, _, rfl, rfl, false, congrArg V.bl (decide_eq_false (by omega)), iteT (q _ (Same.refl _))⟩
    · exact ⟨false, congrArg V.bl (decide_eq_false (by omega)), iteF ⟨false, rfl, iteT (q _ (Same.refl _))⟩⟩
  | @az x h1 h2 h3 =>
    have hx : x.length ≤ sizeLine := small (by omega)
    refine ⟨_, rfl, _, _, _, _, true, rfl, .ty _, .base (.str _), kit_ty (by decide +kernel), true, rfl, iteF ?_⟩
    refine ⟨_, rfl, x, rfl, hx, _, _, rfl, rfl, true, bl_t (by omega), iteT ?_⟩
    refine ⟨_, _, rfl, rfl, true, bl_t (by omega), iteF ?_⟩
    refine ⟨_, rfl, x, rfl, fun D hD => lc_it walk_str (fun i H' => H' = upd H D (.lst (((x.cps.toList.take i).map inAZ).map V.bl))) rfl (fun _ _ _ _ => trivial) ?_ ?_⟩
    · rintro i v H1 H2 hi rfl ⟨rfl, c, hc, rfl⟩
      have hc2 : x.cps.toList[i]? = some c := by rw [Array.getElem?_toList]; exact hc
      have il : i < x.cps.toList.length := (List.getElem?_eq_some_iff.mp hc2).1
      have ll : x.cps.toList.length = x.length := Array.length_toList
      have fin : ∀ b : Bool, b = inAZ c → ∃ acc, upd H D (.lst (((x.cps.toList.take i).map inAZ).map V.bl)) D = some (.lst acc) ∧ acc.length < sizeLine ∧ upd (upd H D (.lst (((x.cps.toList.take i).map inAZ).map V.bl))) D (.lst (acc ++ [V.bl b])) = upd H D (.lst (((x.cps.toList.take (i + 1)).map inAZ).map V.bl)) := by
        rintro b rfl
        refine ⟨_, upd_same, ?_, ?_⟩
        · rw [List.length_map, List.length_map, List.length_take]
          exact small1000 (by omega)
        · rw [upd_upd, List.take_add_one, hc2, Option.toList_some, List.map_append, List.map_append]
          rfl
      refine ⟨rfl, ?_⟩
      unfold tYes
      refine iteT ?_
      refine ⟨_, rfl, _, _, rfl, rfl, ?_⟩
      cases e1 : (!decide ((⟨#[c]⟩ : Str).cps.toList < ("a" : Str).cps.toList)) with
      | true =>
        refine ⟨true, rfl, iteT ?_⟩
        refine ⟨_, _, rfl, rfl, fin _ ?_⟩
        unfold inAZ
        rw [e1]
        rfl
      | false =>
        refine ⟨false, rfl, iteF (fin _ ?_)⟩
        unfold inAZ
        rw [e1]
        rfl
    · rintro _ rfl
      refine ⟨D, (x.cps.toList.take x.cps.size).map inAZ, rfl, SqL.of upd_same, ?_⟩
      have e : ((x.cps.toList.take x.cps.size).map inAZ).all id = false := by
        rw [List.take_of_length_le (by rw [Array.length_toList]; exact Nat.le_refl _), List.all_map]
        exact h3
      rw [e]
      exact q _ (Same.new (Same.refl H) hD _)
theorem ok_badDue {f g e : Addr} {fd gd ed : FuncData} (F : Fun K "is_due" "is_due" sIsDue f fd) (T : TP P w K mg aL left) (cW : Cal P w K mg base "is_word" ["thing"] 1 (spIsWord2 K) g gd) (cM : Cal P w K mg base "may_have" ["word", "value"] 3 (spBadV K) e ed) :
    FnOk P w K mg base CX0 4 f fd ["thing"] (spBadDue K) := by
  refine F.ok scIsDue (fun vs H Q E h => ?_) (fun cdv A outer s H vs Q E hr h => ?_)
  · obtain ⟨p, rfl, _⟩ := h
    rfl
  obtain ⟨v, rfl, h, q⟩ := h
  refine ⟨_, (pss_cons (ps_if (PW.pt (pw_or (pt_not (pt_val (pe_callB call_isi (by rfl) T.z_isinstance (by decide +kernel) (pa_cons (pv 0) (pa_cons (pe_bltn (v := .ty "tuple") (u := .type "tuple") (by rfl) T.z_tuple (by decide +kernel) rfl) pa_nil))))) (pw_or1 (pt_cmpR op_ne (pe_callB call_len_seq (by rfl) T.z_len PySem.boot_len (pa_cons (pv 0) pa_nil)) pe_int (nomark _))))) (pss_one (ps_ret pe_bl)) pss_nil) (pss_cons (ps_asg (pv 0) (pg_tup (by rfl) (pgs_cons (pg_name (i := 1) scIsDue.nd rfl (Or.inl rfl)) (pgs_cons (pg_name (i := 2) scIsDue.nd rfl (Or.inl rfl)) pgs_nil)))) (pss_one (ps_ret (pe_and (pe_call cW.ok (hr.mono (by decide)) rfl cW.mg cW.kp cW.bd .nil pass0 (pa_cons (pv 1) pa_nil)) (pe_one (pe_call cM.ok (hr.mono (by decide)) rfl cM.mg cM.kp cM.bd .nil pass0 (pa_cons (pv 1) (pa_cons (pv 2) pa_nil))))))))), ?_⟩
  cases h with
  | ty ty kt => exact ⟨_, rfl, _, _, _, _, false, rfl, .ty _, ty, kit_ty kt, false, rfl, iteT (q _ (Same.refl _))⟩
  | @len a xs ha hl =>
    refine ⟨_, rfl, _, _, _, _, true, rfl, .ty _, sqt_ty ha, kit_ty (by decide +kernel), true, rfl, iteF ?_⟩
    refine ⟨_, rfl, a, _, rfl, .inr ha, rfl, _, rfl, ?_⟩
    refine ifT ?_ (q _ (Same.refl _))
    rw [decide_eq_false fun z => hl (by have := V.int.inj z; omega)]
    rfl
  | @word a x y ha ho =>
    refine ⟨_, rfl, _, _, _, _, true, rfl, .ty _, sqt_ty ha, kit_ty (by decide +kernel), true, rfl, iteF ?_⟩
    refine ⟨_, rfl, a, _, rfl, .inr ha, rfl, _, rfl, ?_⟩
    refine iteNS rfl ?_
    refine ⟨_, rfl, a, _, rfl, ha, rfl, ?_⟩
    refine ⟨_, _, rfl, _, _, rfl, rfl, ?_⟩
    exact ⟨_, rfl, _, rfl, .inr ⟨ho, false, rfl, iteF (q _ (Same.refl _))⟩⟩
  | @val a wd y ha hw hb =>
    refine ⟨_, rfl, _, _, _, _, true, rfl, .ty _, sqt_ty ha, kit_ty (by decide +kernel), true, rfl, iteF ?_⟩
    refine ⟨_, rfl, a, _, rfl, .inr ha, rfl, _, rfl, ?_⟩
    refine iteNS rfl ?_
    refine ⟨_, rfl, a, _, rfl, ha, rfl, ?_⟩
    refine ⟨_, _, rfl, _, _, rfl, rfl, ?_⟩
    refine ⟨_, rfl, _, rfl, .inl ⟨wd, hw, rfl, true, rfl, iteT ?_⟩⟩
    exact ⟨_, rfl, _, rfl, wd, y, rfl, hb, fun G s1 => q _ s1⟩
theorem ok_badDues {f g : Addr} {fd gd : FuncData} (F : Fun K "is_dues" "is_dues" sIsDues f fd) (T : TP P w K mg aL left) (cD : Cal P w K mg base "is_due" ["thing"] 4 (fun vs H Q E => spIsDue K vs H Q E ∨ spBadDue K vs H Q E) g gd) :
    FnOk P w K mg base CX0 5 f fd ["thing"] (spBadDues K) := by
  refine F.ok scIsDues (fun vs H Q E h => ?_) (fun cdv A outer s H vs Q E hr h => ?_)
  · obtain ⟨p, rfl, _⟩ := h
    rfl
  obtain ⟨v, rfl, h, q⟩ := h
  have hu := hu_of hr
  refine ⟨_, (pss_cons (ps_if (pt_not (pt_val (pe_callB call_isi (by rfl) T.z_isinstance (by decide +kernel) (pa_cons (pv 0) (pa_cons (pe_bltn (v := .ty "tuple") (u := .type "tuple") (by rfl) T.z_tuple (by decide +kernel) rfl) pa_nil))))) (pss_one (ps_ret pe_bl)) pss_nil) (pss_cons (ps_set (i := 1) scIsDues.nd rfl (Or.inl rfl) pe_dnewK) (pss_cons (ps_for PassesOwn.never rfl (pi_tup (pv 0)) (pg_name (i := 2) scIsDues.nd rfl (Or.inl rfl)) (pss_cons (ps_if (PW.pt (pw_or (pt_not (pt_val (pe_call cD.ok (hr.mono (by decide)) rfl cD.mg cD.kp cD.bd .nil pass0 (pa_cons (pv 2) pa_nil)))) (pw_or1 (pt_cmp (pc_din hu (pe_ix ix_tup (pv 2) pe_int (fun _ _ => rfl)) (pv 1)))))) (pss_one (ps_ret pe_bl)) pss_nil) (pss_one (ps_dput hu (pv 1) (pe_ix ix_tup (pv 2) pe_int (fun _ _ => rfl)) pe_bl rfl)))) (pss_one (ps_ret pe_bl))))), ?_⟩
  cases h with
  | ty ty kt => exact ⟨_, rfl, _, _, _, _, false, rfl, .ty _, ty, kit_ty kt, false, rfl, iteT (q _ (Same.refl _))⟩
  | @bad t ps dues x rest ha hp hd hb =>
    obtain ⟨hn, hok⟩ := hd
    have pl : ps.length = dues.length := Paired.length hp
    refine ⟨_, rfl, _, _, _, _, true, rfl, .ty _, sqt_ty ha, kit_ty (by decide +kernel), true, rfl, ?_⟩
    refine iteF ?_
    intro d hd0
    refine ⟨_, rfl, t, rfl, ⟨_, Same.seqT (Same.new (Same.refl H) hd0 _) ha⟩, for_tup (xs := ps.map V.ref ++ x :: rest) (fun i σ H' => i ≤ ps.length ∧ Same H H' ∧ ∃ (kvs : List (Key × V)) (o : Option V), σ = [some (.ref t), some (.ref d), o] ∧ H' d = some (.dK kvs) ∧ kvs.map (·.1) = (dues.take i).map (fun du => Sum.inr du.1)) ⟨Nat.zero_le _, Same.new (Same.refl H) hd0 _, [], none, rfl, upd_same, rfl⟩ ?_ ?_ ?_⟩
    · rintro i σ H' _ ⟨_, s1, _⟩
      exact Same.seqT s1 ha
    · rintro i y σ H' hi ⟨ile, s1, kvs, o, rfl, hk, he⟩
      by_cases c : i < ps.length
      · rw [List.getElem?_append_left (by rw [List.length_map]; exact c)] at hi
        obtain ⟨p, rfl, hpi⟩ := map_ref_get hi
        obtain ⟨du, hdu, hat⟩ := paired_get hp hpi
        have hmem := List.mem_of_getElem? hdu
        obtain ⟨hw, hv⟩ := hok du hmem
        obtain ⟨u, hpu, hu2⟩ := id hat
        refine ⟨_, rfl, .inl ⟨p, du, rfl, DueAt.same s1 hat, hw, hv, fun H2 s2 => ?_⟩⟩
        refine ⟨true, rfl, ?_⟩
        refine iteF ?_
        have hk2 := s2 _ _ hk
        have hpu2 := Same.seqT s2 (Same.seqT s1 hpu)
        have hnone : valV kvs (Sum.inr du.1 : Key) = none := by
          cases hv0 : valV kvs (Sum.inr du.1 : Key) with
          | none => rfl
          | some v =>
            have hin := valV_in hv0
            rw [he] at hin
            obtain ⟨du2, hd2, ed2⟩ := List.mem_map.mp hin
            exact absurd (Sum.inr.inj ed2) (fresh_at hn hdu du2 hd2)
        refine ⟨_, rfl, p, _, _, _, rfl, rfl, hpu2, rfl, _, rfl, d, _, rfl, DGet.k (k := Sum.inr du.1) hk2, ?_⟩
        rw [hnone]
        refine ⟨false, rfl, iteF ?_⟩
        refine ⟨_, rfl, _, rfl, p, _, _, _, rfl, rfl, hpu2, rfl, d, _, rfl, DPut.k (k := Sum.inr du.1) hk2 ?_, ?_⟩
        · have e : kvs.length = (dues.take i).length := by
            have := congrArg List.length he
            simpa using this
          rw [List.length_take] at e
          have : dues.length ≤ 8 := words_few hn fun du hdu => (hok du hdu).1
          exact small1000 (by omega)
        · refine ⟨c, fun b o hb => ?_, _, _, rfl, upd_same, ?_⟩
          · have n : b ≠ d := ne_of_none hb hd0
            rw [upd_ne n]
            exact s2 _ _ (s1 _ _ hb)
          · rw [putK_new _ hnone, List.map_append, he, List.take_add_one, hdu, Option.toList_some, List.map_append]
            rfl
      · obtain rfl : i = ps.length := by omega
        obtain rfl : x = y := by
          rw [List.getElem?_append_right (by rw [List.length_map]; exact Nat.le_refl _), List.length_map, Nat.sub_self] at hi
          exact Option.some.inj hi
        rw [pl, List.take_length] at he
        rcases hb with hb | ⟨p, du, rfl, hat, hw, hv, hin⟩
        · exact ⟨_, rfl, .inr ⟨_, rfl, badDue_same s1 hb, fun H2 s2 => ⟨false, rfl, iteT (q _ (s1.trans s2))⟩⟩⟩
        · obtain ⟨u, hpu, hu2⟩ := id hat
          refine ⟨_, rfl, .inl ⟨p, du, rfl, DueAt.same s1 hat, hw, hv, fun H2 s2 => ⟨true, rfl, iteF ?_⟩⟩⟩
          have hk2 := s2 _ _ hk
          have hpu2 := Same.seqT s2 (Same.seqT s1 hpu)
          refine ⟨_, rfl, p, _, _, _, rfl, rfl, hpu2, rfl, _, rfl, d, _, rfl, DGet.k (k := Sum.inr du.1) hk2, ?_⟩
          have e : (valV kvs (Sum.inr du.1 : Key)).isSome = true := val_some (by
            rw [he]
            obtain ⟨z, hz, ez⟩ := List.mem_map.mp hin
            exact List.mem_map.mpr ⟨z, hz, by rw [ez]⟩)
          rw [e]
          exact ⟨true, rfl, iteT (q _ (s1.trans s2))⟩
    · rintro σ H' ⟨ile, _⟩
      rw [List.length_append, List.length_map, List.length_cons] at ile
      omega
theorem ok_badRow {f g e : Addr} {fd gd ed : FuncData} (F : Fun K "is_group_row" "is_group_row" sIsGroupRow f fd) (T : TP P w K mg aL left) (cN : Cal P w K mg base "is_name" ["thing"] 1 (fun vs H Q E => spIsName vs H Q E ∨ spBadName K vs H Q E) g gd) (cD : Cal P w K mg base "is_dues" ["thing"] 5 (spBadDues K) e ed) :
    FnOk P w K mg base CX0 6 f fd ["thing"] (spBadRow K) := by
  refine F.ok scIsGroupRow (fun vs H Q E h => ?_) (fun cdv A outer s H vs Q E hr h => ?_)
  · obtain ⟨p, rfl, _⟩ := h
    rfl
  obtain ⟨v, rfl, h, q⟩ := h
  refine ⟨_, (pss_cons (ps_if (PW.pt (pw_or (pt_not (pt_val (pe_callB call_isi (by rfl) T.z_isinstance (by decide +kernel) (pa_cons (pv 0) (pa_cons (pe_bltn (v := .ty "tuple") (u := .type "tuple") (by rfl) T.z_tuple (by decide +kernel) rfl) pa_nil))))) (pw_or1 (pt_cmpR op_ne (pe_callB call_len_seq (by rfl) T.z_len PySem.boot_len (pa_cons (pv 0) pa_nil)) pe_int (nomark _))))) (pss_one (ps_ret pe_bl)) pss_nil) (pss_cons (ps_asg (pv 0) (pg_tup (by rfl) (pgs_cons (pg_name (i := 1) scIsGroupRow.nd rfl (Or.inl rfl)) (pgs_cons (pg_name (i := 2) scIsGroupRow.nd rfl (Or.inl rfl)) (pgs_cons (pg_name (i := 3) scIsGroupRow.nd rfl (Or.inl rfl)) pgs_nil))))) (pss_one (ps_ret (pe_and (pe_call cN.ok (hr.mono (by decide)) rfl cN.mg cN.kp cN.bd .nil pass0 (pa_cons (pv 1) pa_nil)) (pe_and (pe_callB call_isi (by rfl) T.z_isinstance (by decide +kernel) (pa_cons (pv 2) (pa_cons (pe_bltn (v := .ty "str") (u := .type "str") (by rfl) T.z_str (by decide +kernel) rfl) pa_nil))) (pe_one (pe_call cD.ok (hr.mono (by decide)) rfl cD.mg cD.kp cD.bd .nil pass0 (pa_cons (pv 3) pa_nil))))))))), ?_⟩
  cases h with
  | ty ty kt => exact ⟨_, rfl, _, _, _, _, false, rfl, .ty _, ty, kit_ty kt, false, rfl, iteT (q _ (Same.refl _))⟩
  | @len a xs ha hl =>
    refine ⟨_, rfl, _, _, _, _, true, rfl, .ty _, sqt_ty ha, kit_ty (by decide +kernel), true, rfl, iteF ?_⟩
    refine ⟨_, rfl, a, _, rfl, .inr ha, rfl, _, rfl, ?_⟩
    refine ifT ?_ (q _ (Same.refl _))
    rw [decide_eq_false fun z => hl (by have := V.int.inj z; omega)]
    rfl
  | @name a x y z ha hb =>
    refine ⟨_, rfl, _, _, _, _, true, rfl, .ty _, sqt_ty ha, kit_ty (by decide +kernel), true, rfl, iteF ?_⟩
    refine ⟨_, rfl, a, _, rfl, .inr ha, rfl, _, rfl, ?_⟩
    refine iteNS rfl ?_
    refine ⟨_, rfl, a, _, rfl, ha, rfl, ?_⟩
    refine ⟨_, _, rfl, _, _, rfl, _, _, rfl, rfl, ?_⟩
    exact ⟨_, rfl, .inr ⟨_, rfl, hb, fun G s1 => ⟨false, rfl, iteF (q _ s1)⟩⟩⟩
  | @above a x y z t ha hn ty kt =>
    refine ⟨_, rfl, _, _, _, _, true, rfl, .ty _, sqt_ty ha, kit_ty (by decide +kernel), true, rfl, iteF ?_⟩
    refine ⟨_, rfl, a, _, rfl, .inr ha, rfl, _, rfl, ?_⟩
    refine iteNS rfl ?_
    refine ⟨_, rfl, a, _, rfl, ha, rfl, ?_⟩
    refine ⟨_, _, rfl, _, _, rfl, _, _, rfl, rfl, ?_⟩
    refine ⟨_, rfl, .inl ⟨x, rfl, hn, fun G s1 => ⟨true, rfl, iteT ?_⟩⟩⟩
    exact ⟨_, rfl, _, _, _, _, false, rfl, .ty _, ty_same s1 ty, kit_ty kt, false, rfl, iteF (q _ s1)⟩
  | @dues a x y z ha hn hb =>
    refine ⟨_, rfl, _, _, _, _, true, rfl, .ty _, sqt_ty ha, kit_ty (by decide +kernel), true, rfl, iteF ?_⟩
    refine ⟨_, rfl, a, _, rfl, .inr ha, rfl, _, rfl, ?_⟩
    refine iteNS rfl ?_
    refine ⟨_, rfl, a, _, rfl, ha, rfl, ?_⟩
    refine ⟨_, _, rfl, _, _, rfl, _, _, rfl, rfl, ?_⟩
    refine ⟨_, rfl, .inl ⟨x, rfl, hn, fun G s1 => ⟨true, rfl, iteT ?_⟩⟩⟩
    refine ⟨_, rfl, _, _, _, _, true, rfl, .ty _, .base (.str _), kit_ty (by decide +kernel), true, rfl, iteT ?_⟩
    exact ⟨_, rfl, _, rfl, badDues_same s1 hb, fun G2 s2 => q _ (s1.trans s2)⟩
theorem ok_badStand {f g : Addr} {fd gd : FuncData} (F : Fun K "may_stand" "may_stand" sMayStand f fd) (T : TP P w K mg aL left) (TCl : TC K mg C) (cE : Cal P w K mg base "is_endless" ["thing"] 1 (spIsEndless K) g gd) :
    FnOk P w K mg base CX0 2 f fd ["tree", "row"] (spBadStand K C) := by
  refine F.ok scMayStand (fun vs H Q E h => ?_) (fun cdv A outer s H vs Q E hr h => ?_)
  · obtain ⟨H0, p, dx, po, pp, pk, pt, rows, tk, v, r, rfl, _⟩ := h
    rfl
  obtain ⟨H0, p, dx, po, pp, pk, pt, rows, tk, v, r, rfl, hp, hrow, hst, hnd, q⟩ := h
  have hu := hu_of hr
  obtain ⟨a, t, rfl, ha, ht⟩ := id hrow
  refine ⟨_, (pss_cons (ps_asg (pv 1) (pg_tup (by rfl) (pgs_cons (pg_name (i := 2) scMayStand.nd rfl (Or.inl rfl)) (pgs_cons (pg_name (i := 3) scMayStand.nd rfl (Or.inl rfl)) (pgs_cons (pg_name (i := 4) scMayStand.nd rfl (Or.inl rfl)) pgs_nil))))) (pss_cons (ps_if (PW.pt (pw_or (pt_cmp (pc_din hu (pv 2) (pe_fld (pv 0) rfl))) (pw_or1 (pt_cmp (pc_dnotin hu (pv 3) (pe_fld (pv 0) rfl)))))) (pss_one (ps_ret pe_bl)) pss_nil) (pss_one (ps_ret (pe_or (pe_cmpR op_eq (pv 3) pe_str (nomark _)) (pe_one (pe_call cE.ok (hr.mono (by decide)) rfl cE.mg cE.kp cE.bd .nil pass0 (pa_cons (pe_dget hu (pe_dget hu (pe_fld (pv 0) rfl) (pv 3) (fun _ _ => rfl)) pe_str (fun _ _ => rfl)) pa_nil)))))))), ?_⟩
  refine ⟨_, rfl, a, _, rfl, ha, rfl, ?_⟩
  refine ⟨_, _, rfl, _, _, rfl, _, _, rfl, rfl, ?_⟩
  obtain ⟨ks, k1, k2, k3⟩ := hp.kd
  refine ⟨_, rfl, _, rfl, p, C, dx, _, _, rfl, hp.ob, TCl.cl, TCl.n_parents, tf4_parents, pp, _, rfl, DGet.k (k := Sum.inr r.name) hp.pa, ?_⟩
  by_cases c0 : ∃ q ∈ rows, q.name = r.name
  · have e1 : (valV (rows.map fun q => ((Sum.inr q.name : Key), V.str q.above)) (Sum.inr r.name)).isSome = true := val_some (by
      obtain ⟨q, hq, e⟩ := c0
      rw [List.map_map]
      exact List.mem_map.mpr ⟨q, hq, by rw [← e]; rfl⟩)
    rw [e1]
    exact ⟨true, rfl, iteT q⟩
  have fresh : ∀ q ∈ rows, q.name ≠ r.name := fun q hq e => c0 ⟨q, hq, e⟩
  have e1 : valV (rows.map fun q => ((Sum.inr q.name : Key), V.str q.above)) (Sum.inr r.name) = none := by
    refine keys_none fun m => ?_
    rw [List.map_map] at m
    obtain ⟨q, hq, e⟩ := List.mem_map.mp m
    exact fresh q hq (Sum.inr.inj e)
  rw [e1]
  refine ⟨false, rfl, iteF ?_⟩
  refine ⟨_, rfl, _, rfl, p, C, dx, _, _, rfl, hp.ob, TCl.cl, TCl.n_kids, tf4_kids, pk, _, rfl, DGet.k (k := Sum.inr r.above) k1, ?_⟩
  rcases hst with h | ⟨_, h1, h2⟩ | ⟨_, h1, qr, hq, hqn, n, m, hq2⟩
  · exact absurd h c0
  · have e2 : valV ks (Sum.inr r.above : Key) = none := keys_none fun mm => by
      rw [k2] at mm
      rcases List.mem_cons.mp mm with e | mm
      · exact h1 (Sum.inr.inj e)
      · obtain ⟨q, hq, e⟩ := List.mem_map.mp mm
        exact h2 q hq (Sum.inr.inj e)
    rw [e2]
    exact ⟨true, rfl, iteT q⟩
  · have e2 : (valV ks (Sum.inr r.above : Key)).isSome = true := val_some (by
      rw [k2]
      exact List.mem_cons_of_mem _ (List.mem_map.mpr ⟨qr, hq, by rw [hqn]⟩))
    rw [e2]
    refine ⟨false, rfl, iteF ?_⟩
    refine ⟨_, rfl, rfl, ?_⟩
    refine ⟨false, congrArg V.bl (decide_eq_false fun z => h1 (V.str.inj z)), iteF ?_⟩
    obtain ⟨kv, hkv, hk1, d, hk2, hd0, _, _, _, fk, fk1, fk2⟩ := paired_of hp.td qr hq
    have nt : (tk.map (·.1)).Nodup := by
      rw [td_keys (fun _ _ z => z.1) hp.td]
      have := nodup_inr hnd
      rw [List.map_map] at this
      exact this
    have g1 : valV tk (Sum.inr r.above : Key) = some (.ref d) := by
      have := val_nd nt kv hkv
      rw [hk1, hqn, hk2] at this
      exact this
    obtain ⟨u, z1, z3⟩ : ∃ u, valV fk (Sum.inr "tops" : Key) = some u ∧ Dp K H u (.tuple [.int n, .int m]) := by
      rcases val_due "tops" fk2 with ⟨_, z⟩ | ⟨v, d2, z1, z2, z3⟩
      · rw [z] at hq2
        cases hq2
      · rw [hq2] at z2
        cases z2
        exact ⟨v, z1, z3⟩
    obtain ⟨a2, rfl, ha2⟩ := dp_two z3
    refine ⟨_, rfl, p, C, dx, _, _, rfl, hp.ob, TCl.cl, TCl.n_table, tf4_table, _, rfl, pt, _, rfl, ?_, d, _, rfl, ?_, _, rfl, .inr ⟨a2, _, rfl, ha2, q⟩⟩
    · have := DGet.k (k := Sum.inr r.above) hp.tb
      rw [g1] at this
      exact this
    · have := DGet.k (k := Sum.inr ("tops" : Str)) fk1
      rw [z1] at this
      exact this
end
end Bd
end

section
namespace Bd
open PySem L2
/-- NoTree(n) is raised -/
def Rz (CT : Addr) (n : Int) (H0 : Hp) (E : XK) : Prop := ∀ d G, Same H0 G → H0 d = none → G d = some (.xd [("at", .int n)]) → E (.ref CT) (some d) G
def spMake (K : PySem.W.Frag) (C CT : Addr) : Sp := fun vs H Q E => ∃ (H0 : Hp) (p dx : Addr) (rv hv : V), vs = [.ref p, rv, hv] ∧ Same H0 H ∧ H0 p = none ∧ H p = some (.ins C dx []) ∧
  (((∃ t : String, TyX K H rv (.type t) ∧ kitB t "list" = some false) ∧ Rz CT (-1) H0 E) ∨
   ∃ (a : Addr) (xs rest : List V) (rows : List RowM), rv = .ref a ∧ H0 a = some (.lst (xs ++ rest)) ∧ Paired (RowAt K H0) xs rows ∧ RowsOk rows ∧ (xs ++ rest).length ≤ 200 ∧
    ((rest = [] ∧ (((∃ b, hv = .bl b) ∧ ∀ H', Same H0 H' → Q .non H') ∨ ((∃ t : String, TyX K H0 hv (.type t) ∧ kitB t "bool" = some false) ∧ Rz CT xs.length H0 E))) ∨
     ∃ x r, rest = x :: r ∧ (BadRow K H0 x ∨ ∃ rw, RowAt K H0 x rw ∧ NameOk rw.name ∧ DuesOk rw.dues ∧ BadStand rows rw) ∧ Rz CT xs.length H0 E))
section
variable {P : Program} {w : World} {K : PySem.W.Frag} {mg : Str → Option Value} {base : Heap} {aL C CT fI : Addr} {left : List (Key × V)}
theorem ok_make {f g e : Addr} {fd gd ed dI : FuncData} (F : FunD K "__init__" "Tree.__init__" (defArgs sInit) (defBody sInit) (defScope sInit) [.bl false] [] f fd) (T : TP P w K mg aL left) (TCl : TC K mg C) (hLV : ∀ H, Paired (PV K H) left leftD)
    (cG : Cal P w K mg base "is_group_row" ["thing"] 6 (fun vs H Q E => spIsGroupRow K vs H Q E ∨ spBadRow K vs H Q E) g gd) (cM : Cal P w K mg base "may_stand" ["tree", "row"] 2 (fun vs H Q E => spMayStand K C vs H Q E ∨ spBadStand K C vs H Q E) e ed)
    (N : NT K mg CT fI) (FI : FnOk P w K mg base CX0 1 fI dI ["self", "at"] (spNT K CT)) (bI : Binds K dI ["self", "at"] []) :
    FnOk P w K mg base (L2.CX P w) 7 f fd ["self", "rows", "handing"] (spMake K C CT) := by
  refine F.ok scInit (fun vs H Q E h => ?_) (fun cdv A outer s H vs Q E hr h => ?_)
  · obtain ⟨H0, p, dx, rv, hv, rfl, _⟩ := h
    rfl
  obtain ⟨H0, p, dx, rv, hv, rfl, s0, p0, hp, h⟩ := h
  have hu := hu_of hr
  refine ⟨_, (pss_cons (ps_if (pt_not (pt_val (pe_callB call_isi (by rfl) T.z_isinstance (by decide +kernel) (pa_cons (pv 1) (pa_cons (pe_bltn (v := .ty "list") (u := .type "list") (by rfl) T.z_list (by decide +kernel) rfl) pa_nil))))) (pss_one (ps_raise rfl (takes_of rfl rfl rfl rfl) (pmk_oex N.o N.i N.t FI (hr.mono (by decide)) bI .nil pass0 rfl N.g (pa_cons (pe_un un_neg pe_int) pa_nil)))) pss_nil) (pss_cons (ps_fld (pv 0) (pe_lst pa_nil) rfl) (pss_cons (ps_fld (pv 0) pe_dnewK rfl) (pss_cons (ps_fld (pv 0) (pe_disp (pps_cons pe_str (pe_lst pa_nil) pps_nil) (by rfl) (by rfl) (fun z => by cases z) (by decide)) rfl) (pss_cons (ps_fld (pv 0) pe_dnewK rfl) (pss_cons (ps_for (passes_of rfl) rfl (pi_enum (by rfl) T.z_enumerate (pa_cons (pv 1) pa_nil)) (pg_tup (by rfl) (pgs_cons (pg_name (i := 3) scInit.nd rfl (Or.inl rfl)) (pgs_cons (pg_name (i := 4) scInit.nd rfl (Or.inl rfl)) pgs_nil))) (pss_cons (ps_if (PW.pt (pw_or (pt_not (pt_val (pe_call cG.ok (hr.mono (by decide)) rfl cG.mg cG.kp cG.bd .nil pass0 (pa_cons (pv 4) pa_nil)))) (pw_or1 (pt_not (pt_val (pe_call cM.ok (hr.mono (by decide)) rfl cM.mg cM.kp cM.bd .nil pass0 (pa_cons (pv 0) (pa_cons (pv 4) pa_nil)))))))) (pss_one (ps_raise rfl (takes_of rfl rfl rfl rfl) (pmk_oex N.o N.i N.t FI (hr.mono (by decide)) bI .nil pass0 rfl N.g (pa_cons (pv 3) pa_nil)))) pss_nil) (pss_cons (ps_asg (pv 4) (pg_tup (by rfl) (pgs_cons (pg_name (i := 5) scInit.nd rfl (Or.inl rfl)) (pgs_cons (pg_name (i := 6) scInit.nd rfl (Or.inl rfl)) (pgs_cons (pg_name (i := 7) scInit.nd rfl (Or.inl rfl)) pgs_nil))))) (pss_cons (ps_expr (pe_bm PySem.F.plainAttrs_list PySem.F.slot_list_append PySem.F.type_list_append mt_append (pe_fld (pv 0) rfl) (pa_cons (pv 5) pa_nil))) (pss_cons (ps_dput hu (pe_fld (pv 0) rfl) (pv 5) (pv 6) rfl) (pss_cons (ps_dput hu (pe_fld (pv 0) rfl) (pv 5) (pe_lst pa_nil) rfl) (pss_cons (ps_expr (pe_bm PySem.F.plainAttrs_list PySem.F.slot_list_append PySem.F.type_list_append mt_append (pe_dget hu (pe_fld (pv 0) rfl) (pv 6) (fun _ _ => rfl)) (pa_cons (pv 5) pa_nil))) (pss_one (ps_dput hu (pe_fld (pv 0) rfl) (pv 5) (pe_both (pe_callTy call_dictK (by rfl) T.z_dict (by decide +kernel) (pa_cons (pe_glob (v := .ref aL) rfl T.g_LEFT_OUT rfl) pa_nil)) (pe_callTy (call_dictT rfl) (by rfl) T.z_dict (by decide +kernel) (pa_cons (pv 7) pa_nil))) rfl))))))))) (pss_cons (ps_if (pt_not (pt_val (pe_callB call_isi (by rfl) T.z_isinstance (by decide +kernel) (pa_cons (pv 2) (pa_cons (pe_bltn (v := .ty "bool") (u := .type "bool") (by rfl) T.z_bool (by decide +kernel) rfl) pa_nil))))) (pss_one (ps_raise rfl (takes_of rfl rfl rfl rfl) (pmk_oex N.o N.i N.t FI (hr.mono (by decide)) bI .nil pass0 rfl N.g (pa_cons (pe_callB call_len_seq (by rfl) T.z_len PySem.boot_len (pa_cons (pv 1) pa_nil)) pa_nil)))) pss_nil) (pss_one (ps_fld (pv 0) (pv 2) rfl))))))))), ?_⟩
  have rz : ∀ {n : Int} {H1 : Hp}, Same H0 H1 → Rz CT n H0 E → ∀ d G, Same H1 G → H1 d = none → G d = some (.xd [("at", .int n)]) → E (.ref CT) (some d) G := fun s1 z d G s2 hd e => z d G (s1.trans s2) (s1.free hd) e
  rcases h with ⟨⟨t, ty, kt⟩, z⟩ | ⟨a, xs, rest, rows, rfl, ha, hrows, hok, hlen, htail⟩
  · refine ⟨_, rfl, _, _, _, _, false, rfl, .ty _, ty, kit_ty kt, false, rfl, iteT ?_⟩
    exact ⟨_, rfl, nt_raise (rz s0 z)⟩
  have hlen2 : rows.length ≤ 200 := by
    have := Paired.length hrows
    rw [List.length_append] at hlen
    omega
  refine ⟨_, rfl, _, _, _, _, true, rfl, .ty _, (.base (.lst (s0 _ _ ha))), kit_ty (by decide +kernel), true, rfl, ?_⟩
  refine iteF ?_
  -- the empty tables
  refine ⟨Nat.zero_le _, fun po hpo => ?_⟩
  have npo : p ≠ po := ne_of_none hp hpo
  refine ⟨_, rfl, p, C, dx, [], rfl, (by rw [upd_ne npo]; exact hp), TCl.cl, TCl.n_order, (by show 0 < 1000; decide), ?_⟩
  intro pp hpp
  obtain ⟨npp1, hpp1⟩ := none_upd hpp
  obtain ⟨npp2, hpp2⟩ := none_upd hpp1
  refine ⟨_, rfl, p, C, dx, _, rfl, (by rw [upd_ne npp1.symm]; exact upd_same), TCl.cl, TCl.n_parents, (by show 1 < 1000; decide), ?_⟩
  rw [putF_two]
  intro pk hpk
  obtain ⟨npk1, hpk1⟩ := none_upd hpk
  obtain ⟨npk2, hpk2⟩ := none_upd hpk1
  obtain ⟨npk3, hpk3⟩ := none_upd hpk2
  obtain ⟨npk4, hpk4⟩ := none_upd hpk3
  refine ⟨Nat.zero_le _, fun l0 hl0 => ?_⟩
  obtain ⟨nl1, hl1⟩ := none_upd hl0
  obtain ⟨nl2, hl2⟩ := none_upd hl1
  obtain ⟨nl3, hl3⟩ := none_upd hl2
  obtain ⟨nl4, hl4⟩ := none_upd hl3
  obtain ⟨nl5, hl5⟩ := none_upd hl4
  refine ⟨by rw [upd_ne nl1.symm]; exact upd_same, [(Sum.inr "", .ref l0)], rfl, by show 1 ≤ 15; decide, ?_⟩
  refine ⟨_, rfl, p, C, dx, _, rfl, (by rw [upd_ne npk1.symm, upd_ne nl2.symm, upd_ne npk1.symm]; exact upd_same), TCl.cl, TCl.n_kids, (by show 2 < 1000; decide), ?_⟩
  rw [putF_three]
  intro pt hpt
  obtain ⟨npt1, hpt1⟩ := none_upd hpt
  obtain ⟨npt2, hpt2⟩ := none_upd hpt1
  obtain ⟨npt3, hpt3⟩ := none_upd hpt2
  obtain ⟨npt4, hpt4⟩ := none_upd hpt3
  obtain ⟨npt5, hpt5⟩ := none_upd hpt4
  obtain ⟨npt6, hpt6⟩ := none_upd hpt5
  obtain ⟨npt7, hpt7⟩ := none_upd hpt6
  refine ⟨_, rfl, p, C, dx, _, rfl, (by rw [upd_ne npt1.symm]; exact upd_same), TCl.cl, TCl.n_table, (by show 3 < 1000; decide), ?_⟩
  rw [putF_four]
  have xl : xs.length = rows.length := Paired.length hrows
  refine ⟨_, rfl, a, xs ++ rest, rfl, ?_, for_it walk_enum (fun i σ H' => i ≤ xs.length ∧ ∃ (tk : List (Key × V)) (o3 o4 o5 o6 o7 : Option V), σ = [some (.ref p), some (.ref a), some hv, o3, o4, o5, o6, o7] ∧ PartAt K H0 H' C p dx po pp pk pt (rows.take i) tk)
    ⟨Nat.zero_le _, [], none, none, none, none, none, rfl, ?_⟩ (fun i σ H' _ ⟨_, _, _, _, _, _, _, _, h⟩ => SqL.of (h.same _ _ ha)) ?_ ?_⟩
  · have := s0 _ _ ha
    have z1 := ne_of_none this hpo
    have z2 := ne_of this hp (by intro z; cases z)
    have z3 := ne_of_none this hpp2
    have z4 := ne_of_none this hpk4
    have z5 := ne_of_none this hl5
    have z6 := ne_of_none this (none_upd hpt7).2
    refine SqL.of ?_
    simp only [upd, if_neg z1, if_neg z2, if_neg z3, if_neg z4, if_neg z5, if_neg z6]
    exact this
  · have npt8 := (none_upd hpt7).1
    have hpt8 := (none_upd hpt7).2
    refine ⟨fun b2 o2 hb => ?_, ⟨p0, s0.free hpo, s0.free hpp2, s0.free hpk4, s0.free hpt8⟩, upd_same, ?_, ?_, ⟨[(Sum.inr "", .ref l0)], ?_, rfl, fun kv hkv => ?_, fun kv hkv kv2 hkv2 => ?_⟩, ?_, .nil, npk2.symm, npt6.symm, npt2.symm⟩
    · have hb' := s0 _ _ hb
      have a1 := ne_of_none hb p0
      have a2 := ne_of_none hb' hpt8
      have a3 := ne_of_none hb' hpk4
      have a4 := ne_of_none hb' hl5
      have a5 := ne_of_none hb' hpp2
      have a6 := ne_of_none hb' hpo
      rw [upd_ne a1, upd_ne a2, upd_ne a1, upd_ne a3, upd_ne a4, upd_ne a3, upd_ne a1, upd_ne a5, upd_ne a1, upd_ne a6]
      exact hb'
    · rw [upd_ne npo.symm, upd_ne npt8.symm, upd_ne npo.symm, upd_ne npk4.symm, upd_ne nl5.symm, upd_ne npk4.symm, upd_ne npo.symm, upd_ne npp2.symm, upd_ne npo.symm]
      exact upd_same
    · rw [upd_ne npp1, upd_ne npt6.symm, upd_ne npp1, upd_ne npk2.symm, upd_ne nl3.symm, upd_ne npk2.symm, upd_ne npp1]
      exact upd_same
    · rw [upd_ne npk1, upd_ne npt2.symm, upd_ne npk1]
      exact upd_same
    · cases List.mem_singleton.mp hkv
      refine ⟨l0, rfl, ?_, nl5, s0.free hl5⟩
      rw [upd_ne nl2, upd_ne npt3.symm, upd_ne nl2, upd_ne nl1]
      exact upd_same
    · cases List.mem_singleton.mp hkv
      cases List.mem_singleton.mp hkv2
      exact ⟨fun _ => rfl, fun _ => rfl⟩
    · rw [upd_ne npt1]
      exact upd_same
  · rintro i v σ H1 H2 hi ⟨ile, tk, o3, o4, o5, o6, o7, rfl, hP⟩ ⟨TT, x, y, rfl, hTT, rfl, hx, hy⟩
    have P1 := hP.grow (Same.new (Same.refl H1) hTT (.tup [x, y]))
    replace hy : (xs ++ rest)[i]? = some y := hy
    by_cases c : i < xs.length
    · rw [List.getElem?_append_left c] at hy
      obtain ⟨r, hr1, hrow⟩ := paired_get hrows hy
      obtain ⟨hn, hd, hst⟩ := hok i r hr1
      refine ⟨TT, _, rfl, SqT.of upd_same, rfl, _, _, rfl, _, _, rfl, rfl, ?_⟩
      refine ⟨_, rfl, .inl ⟨y, r, rfl, RowAt.same P1.same hrow, hn, hd, fun H3 s3 => ?_⟩⟩
      refine ⟨true, rfl, ?_⟩
      refine iteF ?_
      have P2 := P1.grow s3
      refine ⟨_, rfl, _, rfl, .inl ⟨H0, p, dx, po, pp, pk, pt, rows.take i, tk, y, r, rfl, P2, RowAt.same P2.same hrow, hst, ?_, ?_, fun H4 s4 => ?_⟩⟩
      · exact names_nd hok i
      · intro q2 hq2 e
        obtain ⟨m, hm⟩ := List.mem_iff_getElem?.mp (List.mem_of_mem_take hq2)
        have := (hok m q2 hm).1.1
        rw [e] at this
        exact absurd this (by decide +kernel)
      refine ⟨true, rfl, ?_⟩
      refine iteF ?_
      have P3 := P2.grow s4
      obtain ⟨ra, t, rfl, hra, hdues⟩ := RowAt.same P3.same hrow
      refine ⟨_, rfl, ra, _, rfl, hra, rfl, _, _, rfl, _, _, rfl, _, _, rfl, rfl, ?_⟩
      -- self.order.append(name)
      refine ⟨_, rfl, p, C, dx, _, _, rfl, P3.ob, TCl.cl, TCl.n_order, tf4_order, .inl ⟨rfl, _, SqL.of P3.or_⟩, _, rfl, po, _, _, rfl, rfl, P3.or_, ?_, ?_⟩
      · rw [List.length_map, List.length_take]
        exact small1000 (by omega)
      obtain ⟨ks, k1, k2, k3, k4⟩ := P3.kd
      have n_p_o := ne_of P3.ob P3.or_ (by intro z; cases z)
      have n_pp_o := ne_of P3.pa P3.or_ (by intro z; cases z)
      have n_pk_o := ne_of k1 P3.or_ (by intro z; cases z)
      have n_pt_o := ne_of P3.tb P3.or_ (by intro z; cases z)
      have n_p_pp := ne_of P3.ob P3.pa (by intro z; cases z)
      have n_p_pk := ne_of P3.ob k1 (by intro z; cases z)
      have n_p_pt := ne_of P3.ob P3.tb (by intro z; cases z)
      have n_pp_pk := P3.ne.1
      have n_pp_pt := P3.ne.2.1
      have n_pk_pt := P3.ne.2.2
      have lt : (rows.take i).length ≤ 200 := by
        rw [List.length_take]
        omega
      have tkl : tk.length = (rows.take i).length := Paired.length P3.td
      have ksl : ks.length = (rows.take i).length + 1 := by
        have := congrArg List.length k2
        simpa using this
      -- self.parents[name] = above
      refine ⟨_, rfl, _, rfl, p, C, dx, _, _, rfl, (upd_ne n_p_o).trans P3.ob, TCl.cl, TCl.n_parents, tf4_parents, _, rfl, pp, _, rfl, DPut.k (k := Sum.inr r.name) ((upd_ne n_pp_o).trans P3.pa) ?_, ?_⟩
      · rw [List.length_map]
        exact small1000 (by omega)
      -- self.kids[name] = []
      refine ⟨Nat.zero_le _, fun l hl => ?_⟩
      obtain ⟨nl_pp, hlA⟩ := none_upd hl
      obtain ⟨nl_o, hlB⟩ := none_upd hlA
      have nl_p : l ≠ p := (ne_of_none P3.ob hlB).symm
      have nl_pk : l ≠ pk := (ne_of_none k1 hlB).symm
      have nl_pt : l ≠ pt := (ne_of_none P3.tb hlB).symm
      refine ⟨_, rfl, p, C, dx, _, _, rfl, (upd_ne nl_p.symm).trans ((upd_ne n_p_pp).trans ((upd_ne n_p_o).trans P3.ob)), TCl.cl, TCl.n_kids, tf4_kids, _, rfl, pk, _, rfl,
        DPut.k (k := Sum.inr r.name) ((upd_ne nl_pk.symm).trans ((upd_ne n_pp_pk.symm).trans ((upd_ne n_pk_o).trans k1))) (small1000 (by omega)), ?_⟩
      -- self.kids[above].append(name)
      have hab : r.above ≠ r.name := by
        rcases hst.2 with e | ⟨q2, hq2, e, _⟩
        · intro z
          have := hn.1
          rw [← z, e] at this
          exact absurd this (by decide +kernel)
        · intro z
          exact hst.1 q2 hq2 (e.trans z)
      obtain ⟨l2, lx, hkv, hl2, hl2o, hl20, hlx, hlxe, hkvm⟩ : ∃ l2 lx, valV ks (Sum.inr r.above : Key) = some (.ref l2) ∧ H4 l2 = some (.lst lx) ∧ l2 ≠ po ∧ H0 l2 = none ∧ lx.length ≤ (rows.take i).length ∧ lx = (kidsOf (rows.take i) (Sum.inr r.above)).map .str ∧ ∃ kv ∈ ks, kv.1 = (Sum.inr r.above : Key) ∧ kv.2 = .ref l2 := by
        have hin : (Sum.inr r.above : Key) ∈ ks.map (·.1) := by
          rw [k2]
          rcases hst.2 with e | ⟨q, hq, e, _⟩
          · rw [e]
            exact List.mem_cons_self
          · exact List.mem_cons_of_mem _ (List.mem_map.mpr ⟨q, hq, by rw [e]⟩)
        cases hv : valV ks (Sum.inr r.above : Key) with
        | none => exact absurd hin (valV_not hv)
        | some v =>
          unfold valV at hv
          obtain ⟨kv, hf, he⟩ := Option.map_eq_some_iff.mp hv
          obtain ⟨c, e1, e2, e3, e4⟩ := k3 kv (List.mem_of_find?_eq_some hf)
          have ek : kv.1 = (Sum.inr r.above : Key) := by
            have := List.find?_some hf
            simpa using this
          rw [ek] at e2
          refine ⟨c, _, by rw [← he, e1], e2, e3, e4, ?_, rfl, kv, List.mem_of_find?_eq_some hf, ek, e1⟩
          rw [List.length_map]
          exact kids_le _ _
      have hkv2 : valV (putK ks (Sum.inr r.name : Key) (.ref l)) (Sum.inr r.above : Key) = some (.ref l2) := by
        rw [valV_put, if_neg (fun z => hab (Sum.inr.inj z))]
        exact hkv
      have n_l2_l : l2 ≠ l := ne_of_none hl2 hlB
      have n_l2_pp := ne_of hl2 P3.pa (by intro z; cases z)
      have n_l2_pk := ne_of hl2 k1 (by intro z; cases z)
      have n_l2_p := ne_of hl2 P3.ob (by intro z; cases z)
      have n_l2_pt := ne_of hl2 P3.tb (by intro z; cases z)
      have c_l2 : ∀ o1 o2 o3 o4, upd (upd (upd (upd H4 po o1) pp o2) l o3) pk o4 l2 = some (.lst lx) := fun o1 o2 o3 o4 => by
        rw [upd_ne n_l2_pk, upd_ne n_l2_l, upd_ne n_l2_pp, upd_ne hl2o]
        exact hl2
      refine ⟨_, rfl, p, C, dx, _, _, rfl, (upd_ne n_p_pk).trans ((upd_ne nl_p.symm).trans ((upd_ne n_p_pp).trans ((upd_ne n_p_o).trans P3.ob))), TCl.cl, TCl.n_kids, tf4_kids, _, rfl, pk, _, rfl,
        dget_of upd_same hkv2, .inl ⟨rfl, _, SqL.of (c_l2 _ _ _ _)⟩, _, rfl, l2, _, _, rfl, rfl, c_l2 _ _ _ _, small1000 (by omega), ?_⟩
      -- self.table[name] = both
      refine fun D hD => ⟨aL, left, rfl, T.tab, fun d1 h1 => ?_⟩
      obtain ⟨nD_l2, hD1⟩ := none_upd hD
      obtain ⟨nD_pk, hD2⟩ := none_upd hD1
      obtain ⟨nD_l, hD3⟩ := none_upd hD2
      obtain ⟨nD_pp, hD4⟩ := none_upd hD3
      obtain ⟨nD_o, hD5⟩ := none_upd hD4
      have nD_p : D ≠ p := (ne_of_none P3.ob hD5).symm
      have nD_pt : D ≠ pt := (ne_of_none P3.tb hD5).symm
      obtain ⟨n1_D, h11⟩ := none_upd h1
      obtain ⟨n1_l2, h12⟩ := none_upd h11
      obtain ⟨n1_pk, h13⟩ := none_upd h12
      obtain ⟨n1_l, h14⟩ := none_upd h13
      obtain ⟨n1_pp, h15⟩ := none_upd h14
      obtain ⟨n1_o, h16⟩ := none_upd h15
      have n1_p : d1 ≠ p := (ne_of_none P3.ob h16).symm
      have n1_pt : d1 ≠ pt := (ne_of_none P3.tb h16).symm
      have t8 := ((((((TK.lst P3.or_ (.lst (List.map (fun r => V.str r.name) (List.take i rows) ++ [V.str r.name]))).trans (TK.dk ((upd_ne n_pp_o).trans P3.pa) _)).trans (TK.new hl _)).trans (TK.dk ((upd_ne nl_pk.symm).trans ((upd_ne n_pp_pk.symm).trans ((upd_ne n_pk_o).trans k1))) _)).trans (TK.lst (c_l2 _ _ _ _) _)).trans (TK.new hD _)).trans (TK.new h1 (.dK left))
      have t9 := t8.trans (TK.dk ((upd_ne n1_D.symm).trans upd_same) (.dK (mergeK [] left)))
      obtain ⟨ps, f1, f2⟩ := t9.dues hd hdues
      obtain ⟨dk, g1, g2⟩ := dk_of_dues f2
      have dkl : dk.length ≤ 8 := by
        have e := Paired.length g2
        have := words_few hd.1 fun du hdu => (hd.2 du hdu).1
        omega
      have lefl : left.length = 8 := by
        have := congrArg List.length T.keys
        rw [List.length_map, List.length_map] at this
        exact this
      have mdl : (mergeK [] dk).length ≤ 8 := by
        have := length_mergeK dk []
        rw [List.length_nil] at this
        omega
      refine ⟨d1, left, rfl, (upd_ne n1_D.symm).trans upd_same, upd_same, n1_D.symm, ?_⟩
      refine ⟨_, rfl, t, ps, dk, rfl, f1, g1, fun d2 h2 => ?_⟩
      obtain ⟨n2_D, h21⟩ := none_upd h2
      obtain ⟨n2_1, h22⟩ := none_upd h21
      obtain ⟨_, h23⟩ := none_upd h22
      obtain ⟨n2_l2, h24⟩ := none_upd h23
      obtain ⟨n2_pk, h25⟩ := none_upd h24
      obtain ⟨n2_l, h26⟩ := none_upd h25
      obtain ⟨n2_pp, h27⟩ := none_upd h26
      obtain ⟨n2_o, h28⟩ := none_upd h27
      have n2_p : d2 ≠ p := (ne_of_none P3.ob h28).symm
      have n2_pt : d2 ≠ pt := (ne_of_none P3.tb h28).symm
      refine ⟨d2, mergeK [] dk, rfl, (upd_ne n2_D.symm).trans upd_same, upd_same, n2_D.symm, by omega, ?_⟩
      have t10 := (t9.trans (TK.new h2 (.dK (mergeK [] dk)))).trans (TK.dk ((upd_ne n2_D.symm).trans upd_same) (.dK (mergeK (mergeK [] left) (mergeK [] dk))))
      have e_p : ∀ o1 o2 o3 o4 o5 o6 o7 o8 o9 o10, upd (upd (upd (upd (upd (upd (upd (upd (upd (upd H4 po o1) pp o2) l o3) pk o4) l2 o5) D o6) d1 o7) D o8) d2 o9) D o10 p = some (.ins C dx (tf4 po pp pk pt)) := fun o1 o2 o3 o4 o5 o6 o7 o8 o9 o10 => by
        rw [upd_ne nD_p.symm, upd_ne n2_p.symm, upd_ne nD_p.symm, upd_ne n1_p.symm, upd_ne nD_p.symm, upd_ne n_l2_p.symm, upd_ne n_p_pk, upd_ne nl_p.symm, upd_ne n_p_pp, upd_ne n_p_o]
        exact P3.ob
      have e_pt : ∀ o1 o2 o3 o4 o5 o6 o7 o8 o9 o10, upd (upd (upd (upd (upd (upd (upd (upd (upd (upd H4 po o1) pp o2) l o3) pk o4) l2 o5) D o6) d1 o7) D o8) d2 o9) D o10 pt = some (.dK tk) := fun o1 o2 o3 o4 o5 o6 o7 o8 o9 o10 => by
        rw [upd_ne nD_pt.symm, upd_ne n2_pt.symm, upd_ne nD_pt.symm, upd_ne n1_pt.symm, upd_ne nD_pt.symm, upd_ne n_l2_pt.symm, upd_ne n_pk_pt.symm, upd_ne nl_pt.symm, upd_ne n_pp_pt.symm, upd_ne n_pt_o]
        exact P3.tb
      refine ⟨_, rfl, p, C, dx, _, _, rfl, e_p _ _ _ _ _ _ _ _ _ _, TCl.cl, TCl.n_table, tf4_table, _, rfl, pt, _, rfl, DPut.k (k := Sum.inr r.name) (e_pt _ _ _ _ _ _ _ _ _ _) (small1000 (by omega)), ?_⟩
      have nm : ∀ q ∈ rows.take i, q.name ≠ r.name := hst.1
      have tknew : putK tk (Sum.inr r.name : Key) (V.ref D) = tk ++ [(Sum.inr r.name, .ref D)] := by
        refine putK_new _ (keys_none fun m => ?_)
        rw [td_keys (fun _ _ z => z.1) P3.td] at m
        obtain ⟨q, hq, e⟩ := List.mem_map.mp m
        exact nm q hq (Sum.inr.inj e)
      have ksnew : putK ks (Sum.inr r.name : Key) (V.ref l) = ks ++ [(Sum.inr r.name, .ref l)] := by
        refine putK_new _ (keys_none fun m => ?_)
        rw [k2] at m
        rcases List.mem_cons.mp m with e | m
        · have := hn.1
          rw [Sum.inr.inj e] at this
          exact absurd this (by decide +kernel)
        · obtain ⟨q, hq, e⟩ := List.mem_map.mp m
          exact nm q hq (Sum.inr.inj e)
      have panew : putK (List.map (fun r => ((Sum.inr r.name : Key), V.str r.above)) (rows.take i)) (Sum.inr r.name : Key) (V.str r.above) = List.map (fun r => ((Sum.inr r.name : Key), V.str r.above)) (rows.take i) ++ [(Sum.inr r.name, .str r.above)] := by
        refine putK_new _ (keys_none fun m => ?_)
        rw [List.map_map] at m
        obtain ⟨q, hq, e⟩ := List.mem_map.mp m
        exact nm q hq (Sum.inr.inj e)
      have t11 := t10.trans (TK.dk (e_pt _ _ _ _ _ _ _ _ _ _) (.dK (tk ++ [(Sum.inr r.name, .ref D)])))
      refine ⟨c, tk ++ [(Sum.inr r.name, .ref D)], _, _, _, _, _, rfl, ?_⟩
      rw [List.take_add_one, hr1, Option.toList_some, tknew, ksnew, panew]
      rw [ksnew, panew] at t11
      subst hlxe
      have hn0 : r.name ≠ "" := fun z => by
        have := hn.1
        rw [z] at this
        exact absurd this (by decide +kernel)
      have hk0 : ∀ q ∈ rows.take i, q.above ≠ r.name := fun q hq z => by
        obtain ⟨m, hm⟩ := List.mem_iff_getElem?.mp hq
        have hmi : m < i := by
          have := (List.getElem?_eq_some_iff.mp hm).1
          rw [List.length_take] at this
          omega
        rw [List.getElem?_take_of_lt hmi] at hm
        rcases (hok m q hm).2.2.2 with e | ⟨q2, hq2, e, _⟩
        · exact hn0 (z.symm.trans e)
        · refine hst.1 q2 ?_ (e.trans z)
          obtain ⟨m2, hm2⟩ := List.mem_iff_getElem?.mp hq2
          have hmi2 : m2 < m := by
            have := (List.getElem?_eq_some_iff.mp hm2).1
            rw [List.length_take] at this
            omega
          rw [List.getElem?_take_of_lt hmi2] at hm2
          exact List.mem_iff_getElem?.mpr ⟨m2, by rw [List.getElem?_take_of_lt (by omega)]; exact hm2⟩
      refine part_step (l := l) (l' := l2) (D := D) P3 (fun q hq => ?_) t11 (fun b2 o2 hb b1 b2' b3 b4 b5 => ?_) hl20 hl2o hl2 hn0 hst.1 hk0 hab hlB ?_ ?_ ⟨ks, ?_, k1, hkvm⟩ ?_ ⟨nl_o, P3.same.free hlB⟩ ?_ upd_same ⟨P3.same.free hD5, nD_pp, nD_pk, nD_pt, ?_⟩
      · obtain ⟨m, hm⟩ := List.mem_iff_getElem?.mp (List.mem_of_mem_take hq)
        exact (hok m q hm).2.1
      · rw [upd_ne b4, upd_ne (ne_of_none hb hD5), upd_ne (ne_of_none hb h28), upd_ne (ne_of_none hb hD5), upd_ne (ne_of_none hb h16), upd_ne (ne_of_none hb hD5), upd_ne b5, upd_ne b3, upd_ne (ne_of_none hb hlB), upd_ne b2', upd_ne b1]
        exact hb
      · rw [upd_ne n_pt_o.symm, upd_ne nD_o.symm, upd_ne n2_o.symm, upd_ne nD_o.symm, upd_ne n1_o.symm, upd_ne nD_o.symm, upd_ne hl2o.symm, upd_ne n_pk_o.symm, upd_ne nl_o.symm, upd_ne n_pp_o.symm]
        exact upd_same
      · rw [upd_ne n_pp_pt, upd_ne nD_pp.symm, upd_ne n2_pp.symm, upd_ne nD_pp.symm, upd_ne n1_pp.symm, upd_ne nD_pp.symm, upd_ne n_l2_pp.symm, upd_ne n_pp_pk, upd_ne nl_pp.symm]
        exact upd_same
      · rw [upd_ne n_pk_pt, upd_ne nD_pk.symm, upd_ne n2_pk.symm, upd_ne nD_pk.symm, upd_ne n1_pk.symm, upd_ne nD_pk.symm, upd_ne n_l2_pk.symm]
        exact upd_same
      · rw [upd_ne nl_pt, upd_ne nD_l.symm, upd_ne n2_l.symm, upd_ne nD_l.symm, upd_ne n1_l.symm, upd_ne nD_l.symm, upd_ne n_l2_l.symm, upd_ne nl_pk]
        exact upd_same
      · rw [upd_ne n_l2_pt, upd_ne nD_l2.symm, upd_ne n2_l2.symm, upd_ne nD_l2.symm, upd_ne n1_l2.symm, upd_ne nD_l2.symm]
        exact upd_same
      · have t12 := ((TK.new h2 (.dK (mergeK [] dk))).trans (TK.dk ((upd_ne n2_D.symm).trans upd_same) (.dK (mergeK (mergeK [] left) (mergeK [] dk))))).trans (TK.dk (e_pt _ _ _ _ _ _ _ _ _ _) (.dK (tk ++ [(Sum.inr r.name, .ref D)])))
        have g3 := g2
        rw [ksnew, panew] at t12 g3
        exact ⟨_, (upd_ne nD_pt).trans upd_same, full_of (hLV _) (paired_monoM (fun kv du hm z => ⟨z.1, t12.val (hd.2 du hm).2 z.2⟩) g3) hd⟩
    · obtain rfl : i = xs.length := by omega
      obtain rfl : V.int ((xs.length : Nat) : Int) = x := Option.some.inj hx
      rw [show rows.take xs.length = rows by rw [xl, List.take_length]] at P1
      refine ⟨TT, _, rfl, SqT.of upd_same, rfl, _, _, rfl, _, _, rfl, rfl, ?_⟩
      rw [List.getElem?_append_right (Nat.le_refl _), Nat.sub_self] at hy
      rcases htail with ⟨rfl, _⟩ | ⟨x0, r0, rfl, hb, z⟩
      · cases hy
      obtain rfl : x0 = y := Option.some.inj hy
      rcases hb with hb | ⟨rw', hrw, hn, hd, hbs⟩
      · exact ⟨_, rfl, .inr ⟨_, rfl, badRow_same P1.same hb, fun G s1 => ⟨false, rfl, iteT ⟨_, rfl, nt_raise (rz (P1.same.trans s1) z)⟩⟩⟩⟩
      · refine ⟨_, rfl, .inl ⟨_, rw', rfl, RowAt.same P1.same hrw, hn, hd, fun H3 s3 => ⟨true, rfl, iteF ?_⟩⟩⟩
        have P2 := P1.grow s3
        exact ⟨_, rfl, _, rfl, .inr ⟨H0, p, dx, po, pp, pk, pt, rows, tk, _, rw', rfl, P2, RowAt.same P2.same hrw, hbs, nms_nd hok, ⟨false, rfl, iteT ⟨_, rfl, nt_raise (rz P2.same z)⟩⟩⟩⟩
  · rintro σ H1 ⟨ile, tk, o3, o4, o5, o6, o7, rfl, hP⟩
    rcases htail with ⟨rfl, hq⟩ | ⟨x0, r0, rfl, _⟩
    rotate_left
    · exfalso
      have ile2 : (xs ++ x0 :: r0).length ≤ xs.length := ile
      rw [List.length_append, List.length_cons] at ile2
      omega
    rcases hq with ⟨⟨b, rfl⟩, q⟩ | ⟨⟨t, ty, kt⟩, z⟩
    · refine ⟨_, rfl, _, _, _, _, true, rfl, .ty _, .base (.bl b), kit_ty (by decide +kernel), true, rfl, iteF ?_⟩
      exact ⟨_, rfl, _, rfl, p, C, dx, _, rfl, hP.ob, TCl.cl, TCl.n_hands, (by show 4 < 1000; decide), q _ (Same.ch hP.same p0 _)⟩
    · refine ⟨_, rfl, _, _, _, _, false, rfl, .ty _, ty_same hP.same ty, kit_ty kt, false, rfl, iteT ?_⟩
      refine ⟨_, rfl, a, _, rfl, .inl (SqL.of (hP.same _ _ ha)), nt_raise (rz hP.same ?_)⟩
      rw [List.append_nil]
      exact z
end
end Bd
end

section
namespace Bd
open PySem L2
section
variable {X : Cx}
/-- isinstance(e, c), e the exception that the suite holds, with its dict -/
theorem call_isED {a : Addr} {oe : Obj} {cls : Value} {d : Option Addr} {pn : List (Addr × Obj)} (hz : Zc cls d oe) (hf : ∃ vs, oe.data = .fields vs) :
    CallR (X.suite a ((a, oe) :: pn)) (.builtin "isinstance") (fun xs H Q => ∃ (D : Addr) (c : V) (cv : Value) (b : Bool) (dd : Addr) (fs : List (Str × V)), cls = .ref D ∧ d = some dd ∧ H dd = some (.xd fs) ∧ ExcC X.K D ∧ xs = [.ref a, c] ∧ (∀ u, RelV c u → u = cv) ∧ PySem.W.kitOne X.K (.ref D) cv = some b ∧ Q (.bl b) H) := by
  intro pins s σ H xs us Q I r h
  obtain ⟨D, c, cv, b, dd, fs, rfl, rfl, ex, C, rfl, hcv, e, q⟩ := h
  cases r with
  | cons rx rr =>
    cases rr with
    | cons rt rr =>
      cases rr
      cases rx
      have ec := hcv _ rt
      subst ec
      obtain ⟨hget, _⟩ := I.pin (a, oe) (List.mem_append.mpr (.inl List.mem_cons_self))
      obtain ⟨vs, hv⟩ := hf
      have hx : ObjOk X.prog X.w H s.heap dd (.xd fs) := I.hok dd _ ex
      obtain ⟨mA, hns, _⟩ := hx
      obtain ⟨od, ho, _⟩ := lookIn_ns hns
      have J : PySem.W.InstAt s.heap a oe D (some od) := ⟨hget, hz.1, by unfold PySem.W.notCls; rw [hv] <;> rfl, by rw [hz.2]; exact ho⟩
      obtain ⟨cd, hc, _⟩ := PySem.W.any_some C.hd
      exact PySem.W.kia_one (PySem.W.kitx_exc (by rw [hc]; rfl) C.hg C.hk C.hs C.ha C.hn C.ht C.hm) I.kIn J e (fun z => nomatch z) fun tk => ⟨.bl b, H, I.kept (t' := tk) fun _ _ z => z, rfl, q⟩
end
/-- what the def that calls the lambda makes of its reading, where it raises NoTree -/
def TSaidT (K : PySem.W.Frag) (CE : Addr) (ec : Nat → Addr) : (XK → Hp → VK → Prop) → Hp → VK → Prop := fun tl H Q =>
  tl (fun cls d H' => ∃ (dd : Addr) (n : Int), cls = .ref (ec 0) ∧ d = some dd ∧ XD K CE ec 0 ∧ H' dd = some (.xd [("at", .int n)]) ∧ ∀ t H'', Same H' H'' → H'' t = some (.tup [.str "tree", .int n]) → Q (.ref t) H'') H (fun _ H' => Q .non H')
section
variable {X : Cx} {CE : Addr} {ec : Nat → Addr}
theorem said_givesT {q : Str} {g : Addr} {cdg : Value} (XS : XS X.mg CE ec) (XF : XfC X.K (ec 0)) (n_at : PySem.W.findIn X.K (.ref (ec 0)) "at" = some none) :
    LamX.GivesTo X ["_law_ask", "e", "_law_marks"] "_law_said" (defScope sSaid) g cdg (defBody sSaid) "_law_ask" q (TSaidT X.K CE ec) := by
  intro f c' s H Q tl act hc h
  refine ⟨_, pss_cons (ps_try_as (X := (cxOf C8.CX0 X.prog X.w X.K X.mg X.base ["_law_ask", "e", "_law_marks"] "_law_said" (defScope sSaid) g cdg X.A X.stack s H C8.E0).nox) (i := 1) (c := .ref CE)
      (ts := fun a cls d D σ H2 => σ.length = 3 → ∀ (oe : Obj) (pn : List (Addr × Obj)), Zc cls d oe → (∃ vs, oe.data = .fields vs) → ∃ t, PSs ((cxSaid X g cdg s H).suite a ((a, oe) :: pn)) (excSuite sSaid) t ∧ t D σ H2) (tb := fun W D σ H => ∃ Ech : XK, (∀ cls d σ' H', Ech cls d H' → W cls d σ' H') ∧ σ[0]? = some (some (.ref f)) ∧ H c' = some (LamX.CodeO c' q) ∧ tl Ech H fun _ H' => D.nx σ H')
      rfl rfl scSaid.nd rfl rfl ⟨rfl, by decide, .inl XS.gE⟩ takes0 (fun W pn xe tk _ => ?_) (fun a oe cls d pn hz hf => ⟨fun pins s' σ' H' D I h' => by
        obtain ⟨t, h1, h2⟩ := h' I.len oe pn hz hf
        exact h1.run pins s' σ' H' D I h2⟩)) (pss_one (ps_ret pe_non)), ?_⟩
  · refine ⟨fun pins s' σ H' D I h' => ?_⟩
    obtain ⟨Ech, hW, h1, h2, h3⟩ := h'
    exact (pss_one (ps_expr (act W pn xe Ech _ _ tk hW))).run pins s' σ H' D I ⟨h1, h2, h3⟩
  · refine ⟨fun cls d H' => ∃ (dd : Addr) (n : Int), cls = .ref (ec 0) ∧ d = some dd ∧ XD X.K CE ec 0 ∧ H' dd = some (.xd [("at", .int n)]) ∧ ∀ t H'', Same H' H'' → H'' t = some (.tup [.str "tree", .int n]) → Q (.ref t) H'', fun cls d σ' H' hE => ?_, rfl, hc, h⟩
    obtain ⟨dd, n, rfl, rfl, D, ex, q⟩ := hE
    refine ⟨true, D.exm, fun _ a ha hl oe pn hz hf => ?_, fun z => by cases z⟩
    rw [List.length_set] at hl
    obtain ⟨x0, x1, x2, rfl⟩ : ∃ x0 x1 x2, σ' = [x0, x1, x2] := by
      match σ', hl with
      | [x0, x1, x2], _ => exact ⟨x0, x1, x2, rfl⟩
    refine ⟨_, (pss_cons (ps_set (i := 2) scSaid.nd rfl (Or.inl rfl) (pe_lst (pa_cons (pe_callB (call_isED hz hf) (by rfl) XS.z_isi (by decide +kernel) (pa_cons (pv 1) (pa_cons (pe_glob (v := .ref (ec 0)) rfl XS.g0 rfl) pa_nil))) (pa_cons (pe_callB (call_isED hz hf) (by rfl) XS.z_isi (by decide +kernel) (pa_cons (pv 1) (pa_cons (pe_glob (v := .ref (ec 1)) rfl XS.g1 rfl) pa_nil))) (pa_cons (pe_callB (call_isED hz hf) (by rfl) XS.z_isi (by decide +kernel) (pa_cons (pv 1) (pa_cons (pe_glob (v := .ref (ec 2)) rfl XS.g2 rfl) pa_nil))) (pa_cons (pe_callB (call_isED hz hf) (by rfl) XS.z_isi (by decide +kernel) (pa_cons (pv 1) (pa_cons (pe_glob (v := .ref (ec 3)) rfl XS.g3 rfl) pa_nil))) pa_nil)))))) (pss_cons (ps_set (i := 2) scSaid.nd rfl (Or.inl rfl) (pe_op op_cat (pv 2) (pe_lst (pa_cons (pe_callB (call_isED hz hf) (by rfl) XS.z_isi (by decide +kernel) (pa_cons (pv 1) (pa_cons (pe_glob (v := .ref (ec 4)) rfl XS.g4 rfl) pa_nil))) (pa_cons (pe_callB (call_isED hz hf) (by rfl) XS.z_isi (by decide +kernel) (pa_cons (pv 1) (pa_cons (pe_glob (v := .ref (ec 5)) rfl XS.g5 rfl) pa_nil))) (pa_cons (pe_callB (call_isED hz hf) (by rfl) XS.z_isi (by decide +kernel) (pa_cons (pv 1) (pa_cons (pe_glob (v := .ref (ec 6)) rfl XS.g6 rfl) pa_nil))) pa_nil)))))) (pss_cons (ps_if (PW.pt (pw_or (pt_cmpR op_ne (pe_bm PySem.F.plainAttrs_list PySem.F.slot_list_count PySem.F.type_list_count mt_fcount (pv 2) (pa_cons pe_bl pa_nil)) pe_int (nomark _)) (pw_or1 (pt_not (pt_val (pe_callB (call_isED hz hf) (by rfl) XS.z_isi (by decide +kernel) (pa_cons (pv 1) (pa_cons (pe_bltn (v := .ty "ValueError") (u := .type "ValueError") (by rfl) XS.z_VE (by decide +kernel) rfl) pa_nil)))))))) (pss_one (ps_ret pe_str)) pss_nil) (pss_cons (ps_if (pt_val (pe_ix ix_list (pv 2) pe_int (fun _ _ => rfl))) (pss_one (ps_ret (pe_tup (pa_cons pe_str (pa_cons (pe_xf (C := ec 0) XF n_at hz hf (pv 1)) pa_nil))))) pss_nil) (pss_one (ps_ret (pe_ix ix_list (pe_lst (pa_cons pe_str (pa_cons pe_str (pa_cons pe_str (pa_cons pe_str (pa_cons pe_str (pa_cons pe_str (pa_cons pe_str pa_nil)))))))) (pe_bm PySem.F.plainAttrs_list PySem.F.slot_list_index PySem.F.type_list_index mt_index (pv 2) (pa_cons pe_bl pa_nil)) (fun _ _ => rfl)))))))), ?_⟩
    refine ⟨_, rfl, ec 0, _, .ref (ec 0), true, dd, _, rfl, rfl, ex, D.exc, rfl, ref_only, D.m 0 (by decide), _, rfl, ec 0, _, .ref (ec 1), false, dd, _, rfl, rfl, ex, D.exc, rfl, ref_only, D.m 1 (by decide), _, rfl, ec 0, _, .ref (ec 2), false, dd, _, rfl, rfl, ex, D.exc, rfl, ref_only, D.m 2 (by decide), _, rfl, ec 0, _, .ref (ec 3), false, dd, _, rfl, rfl, ex, D.exc, rfl, ref_only, D.m 3 (by decide), by show 4 ≤ sizeLine; decide, fun l1 hl1 => ?_⟩
    have s1 : Same H' (upd H' l1 (.lst [.bl true, .bl false, .bl false, .bl false])) := Same.new (Same.refl _) hl1 _
    have e1 : upd H' l1 (.lst [.bl true, .bl false, .bl false, .bl false]) l1 = some (.lst [.bl true, .bl false, .bl false, .bl false]) := upd_same
    generalize upd H' l1 (.lst [.bl true, .bl false, .bl false, .bl false]) = H1 at s1 e1 ⊢
    refine ⟨_, rfl, _, rfl, ec 0, _, .ref (ec 4), false, dd, _, rfl, rfl, (s1 _ _ ex), D.exc, rfl, ref_only, D.m 4 (by decide), _, rfl, ec 0, _, .ref (ec 5), false, dd, _, rfl, rfl, (s1 _ _ ex), D.exc, rfl, ref_only, D.m 5 (by decide), _, rfl, ec 0, _, .ref (ec 6), false, dd, _, rfl, rfl, (s1 _ _ ex), D.exc, rfl, ref_only, D.m 6 (by decide), by show 3 ≤ sizeLine; decide, fun l2 hl2 => ?_⟩
    have s2 : Same H1 (upd H1 l2 (.lst [.bl false, .bl false, .bl false])) := Same.new (Same.refl _) hl2 _
    have e2 : upd H1 l2 (.lst [.bl false, .bl false, .bl false]) l2 = some (.lst [.bl false, .bl false, .bl false]) := upd_same
    refine ⟨l1, l2, _, _, rfl, rfl, s2 _ _ e1, e2, by show 4 + 3 ≤ sizeLine; decide, fun l3 hl3 => ?_⟩
    have s3 : Same H' _ := (s1.trans s2).trans (Same.new (Same.refl _) hl3 (.lst ([.bl true, .bl false, .bl false, .bl false] ++ [.bl false, .bl false, .bl false])))
    have ex3 := s3 _ _ ex
    refine ⟨_, rfl, .inl ⟨rfl, _, SqL.of upd_same⟩, l3, _, .bl true, rfl, rfl, SqL.of upd_same, rfl, rfl, rfl, false, congrArg V.bl (by decide +kernel), iteF ?_⟩
    refine ⟨_, rfl, ec 0, _, .type "ValueError", true, dd, _, rfl, rfl, ex3, D.exc, rfl, ty_only, D.v, true, rfl, iteF ?_⟩
    refine ⟨_, rfl, l3, _, 0, _, rfl, rfl, SqL.of upd_same, rfl, true, congrArg V.bl (by decide +kernel), iteT ?_⟩
    refine ⟨_, rfl, rfl, rfl, dd, _, .int n, rfl, ex3, rfl, by show 2 ≤ sizeLine; decide, fun t ht => ?_⟩
    exact q t _ (Same.new s3 ht _) upd_same
end
end Bd
end

section
namespace Bd
open PySem L2
abbrev sBad : Stmt := (top 52)
theorem scBad : FnScope ["_law_source_here", "_law_word", "_law_some"] ["_law_source_here", "_law_word"] (defScope sBad) := ⟨rfl, rfl, rfl, by decide +kernel, rfl, by decide +kernel, by decide +kernel⟩

def spBad (K : PySem.W.Frag) : Sp := fun vs H Q _ => ∃ (s : Addr) (x : Str), vs = [.ref s, .str x] ∧ x ∈ leftW ∧ Src H s ∧ ∀ v H', BadV K H' x v → Src H' s → Kept s H H' → Q v H'
section
variable {P : Program} {w : World} {K : PySem.W.Frag} {mg : Str → Option Value} {base : Heap}
theorem ok_bad {f e : Addr} {fd ed : FuncData} (F : Fun K "_law_bad_value" "_law_bad_value" sBad f fd) (T : TA mg) (cO : Cal P w K mg base "_law_one" ["_law_source_here", "_law_things"] 3 (spOne K) e ed) : FnOk P w K mg base CX0 4 f fd ["_law_source_here", "_law_word"] (spBad K) := by
  refine F.ok scBad (fun vs H Q E h => ?_) (fun cdv A outer s H vs Q E hr h => ?_)
  · obtain ⟨s, x, rfl, _⟩ := h
    rfl
  obtain ⟨s, x, rfl, hw, src, q⟩ := h
  refine ⟨_, (pss_cons (ps_if (pt_cmpR op_eq (pv 1) pe_str (nomark _)) (pss_one (ps_ret (pe_call cO.ok (hr.mono (by decide)) rfl cO.mg cO.kp cO.bd .nil pass0 (pa_cons (pv 0) (pa_cons (pe_lst (pa_cons (pe_tup (pa_cons pe_int (pa_cons pe_int pa_nil))) (pa_cons (pe_tup (pa_cons pe_int (pa_cons pe_int pa_nil))) (pa_cons (pe_tup (pa_cons (pe_un un_neg pe_int) pa_nil)) (pa_cons (pe_tup (pa_cons pe_int pa_nil)) (pa_cons (pe_lst (pa_cons pe_int pa_nil)) (pa_cons pe_str (pa_cons pe_int (pa_cons (pe_tup (pa_cons pe_bl pa_nil)) (pa_cons (pe_tup (pa_cons pe_int (pa_cons pe_int (pa_cons pe_int pa_nil)))) (pa_cons pe_dnewK (pa_cons (pe_tup (pa_cons pe_str pa_nil)) (pa_cons pe_str pa_nil))))))))))))) pa_nil))))) pss_nil) (pss_cons (ps_if (pt_cmpR op_eq (pv 1) pe_str (nomark _)) (pss_one (ps_ret (pe_call cO.ok (hr.mono (by decide)) rfl cO.mg cO.kp cO.bd .nil pass0 (pa_cons (pv 0) (pa_cons (pe_lst (pa_cons pe_int (pa_cons (pe_un un_neg pe_int) (pa_cons pe_bl (pa_cons pe_bl (pa_cons pe_non (pa_cons (pe_tup (pa_cons pe_int (pa_cons pe_int pa_nil))) (pa_cons pe_str (pa_cons (pe_lst pa_nil) pa_nil))))))))) pa_nil))))) pss_nil) (pss_cons (ps_set (i := 2) scBad.nd rfl (Or.inl rfl) (pe_lst (pa_cons (pe_tup (pa_cons pe_int (pa_cons pe_int pa_nil))) (pa_cons (pe_tup (pa_cons pe_int (pa_cons pe_int pa_nil))) (pa_cons (pe_tup (pa_cons (pe_un un_neg pe_int) (pa_cons pe_int pa_nil))) (pa_cons (pe_tup (pa_cons pe_int pa_nil)) (pa_cons (pe_tup (pa_cons pe_int (pa_cons pe_int (pa_cons pe_int pa_nil)))) (pa_cons (pe_lst (pa_cons pe_int (pa_cons pe_int pa_nil))) (pa_cons pe_int (pa_cons pe_bl (pa_cons pe_non (pa_cons (pe_tup (pa_cons pe_bl (pa_cons pe_int pa_nil))) (pa_cons (pe_tup (pa_cons pe_int (pa_cons pe_bl pa_nil))) (pa_cons (pe_tup (pa_cons pe_int (pa_cons pe_int pa_nil))) (pa_cons pe_str (pa_cons (pe_tup (pa_cons pe_int (pa_cons (pe_un un_neg pe_int) pa_nil))) pa_nil)))))))))))))))) (pss_one (ps_ret (pe_call cO.ok (hr.mono (by decide)) rfl cO.mg cO.kp cO.bd .nil pass0 (pa_cons (pv 0) (pa_cons (pe_op op_cat (pe_op op_cat (pv 2) (pe_lst (pa_cons pe_str (pa_cons pe_str (pa_cons pe_dnewK pa_nil))))) (pe_op op_rep (pe_lst (pa_cons pe_str pa_nil)) (pe_callTy call_int1 (by rfl) T.z_int (by decide +kernel) (pa_cons (pe_cmpR op_in_seq (pv 1) (pe_tup (pa_cons pe_str (pa_cons pe_str (pa_cons pe_str pa_nil)))) (by first | exact nomark _ | rfl)) pa_nil)))) pa_nil)))))))), ?_⟩
  refine ⟨_, rfl, rfl, _, rfl, ?_⟩
  refine ite2 (fun c => ?_) (fun c => ?_)
  · obtain rfl : x = "sets" := V.str.inj (of_decide_eq_true c)
    refine ⟨_, rfl, ?_⟩
    refine ⟨by show 2 ≤ sizeLine; decide, fun aP1 hP1 => ?_⟩
    have sP1 : Same H (upd H aP1 (.tup [.int 1, .int 1])) := Same.new (Same.refl _) hP1 _
    have eP1 : upd H aP1 (.tup [.int 1, .int 1]) aP1 = some (.tup [.int 1, .int 1]) := upd_same
    have nP1 := (src_ne src hP1).symm
    have rP1 := src_new (o := .tup [.int 1, .int 1]) src hP1
    generalize upd H aP1 (.tup [.int 1, .int 1]) = P1 at sP1 eP1 rP1 ⊢
    have SP1 := sP1
    refine ⟨by show 2 ≤ sizeLine; decide, fun aP2 hP2 => ?_⟩
    have sP2 : Same P1 (upd P1 aP2 (.tup [.int 2, .int 1])) := Same.new (Same.refl _) hP2 _
    have eP2 : upd P1 aP2 (.tup [.int 2, .int 1]) aP2 = some (.tup [.int 2, .int 1]) := upd_same
    have nP2 := (src_ne rP1 hP2).symm
    have rP2 := src_new (o := .tup [.int 2, .int 1]) rP1 hP2
    generalize upd P1 aP2 (.tup [.int 2, .int 1]) = P2 at sP2 eP2 rP2 ⊢
    have SP2 := SP1.trans sP2
    have eP1 := sP2 _ _ eP1
    refine ⟨_, rfl, by show 1 ≤ sizeLine; decide, fun aP3 hP3 => ?_⟩
    have sP3 : Same P2 (upd P2 aP3 (.tup [.int (-1)])) := Same.new (Same.refl _) hP3 _
    have eP3 : upd P2 aP3 (.tup [.int (-1)]) aP3 = some (.tup [.int (-1)]) := upd_same
    have nP3 := (src_ne rP2 hP3).symm
    have rP3 := src_new (o := .tup [.int (-1)]) rP2 hP3
    generalize upd P2 aP3 (.tup [.int (-1)]) = P3 at sP3 eP3 rP3 ⊢
    have SP3 := SP2.trans sP3
    have eP1 := sP3 _ _ eP1
    have eP2 := sP3 _ _ eP2
    refine ⟨by show 1 ≤ sizeLine; decide, fun aP4 hP4 => ?_⟩
    have sP4 : Same P3 (upd P3 aP4 (.tup [.int 64])) := Same.new (Same.refl _) hP4 _
    have eP4 : upd P3 aP4 (.tup [.int 64]) aP4 = some (.tup [.int 64]) := upd_same
    have nP4 := (src_ne rP3 hP4).symm
    have rP4 := src_new (o := .tup [.int 64]) rP3 hP4
    generalize upd P3 aP4 (.tup [.int 64]) = P4 at sP4 eP4 rP4 ⊢
    have SP4 := SP3.trans sP4
    have eP1 := sP4 _ _ eP1
    have eP2 := sP4 _ _ eP2
    have eP3 := sP4 _ _ eP3
    refine ⟨by show 1 ≤ sizeLine; decide, fun aP5 hP5 => ?_⟩
    have sP5 : Same P4 (upd P4 aP5 (.lst [.int 1])) := Same.new (Same.refl _) hP5 _
    have eP5 : upd P4 aP5 (.lst [.int 1]) aP5 = some (.lst [.int 1]) := upd_same
    have nP5 := (src_ne rP4 hP5).symm
    have rP5 := src_new (o := .lst [.int 1]) rP4 hP5
    generalize upd P4 aP5 (.lst [.int 1]) = P5 at sP5 eP5 rP5 ⊢
    have SP5 := SP4.trans sP5
    have eP1 := sP5 _ _ eP1
    have eP2 := sP5 _ _ eP2
    have eP3 := sP5 _ _ eP3
    have eP4 := sP5 _ _ eP4
    refine ⟨by show 1 ≤ sizeLine; decide, fun aP6 hP6 => ?_⟩
    have sP6 : Same P5 (upd P5 aP6 (.tup [.bl true])) := Same.new (Same.refl _) hP6 _
    have eP6 : upd P5 aP6 (.tup [.bl true]) aP6 = some (.tup [.bl true]) := upd_same
    have nP6 := (src_ne rP5 hP6).symm
    have rP6 := src_new (o := .tup [.bl true]) rP5 hP6
    generalize upd P5 aP6 (.tup [.bl true]) = P6 at sP6 eP6 rP6 ⊢
    have SP6 := SP5.trans sP6
    have eP1 := sP6 _ _ eP1
    have eP2 := sP6 _ _ eP2
    have eP3 := sP6 _ _ eP3
    have eP4 := sP6 _ _ eP4
    have eP5 := sP6 _ _ eP5
    refine ⟨by show 3 ≤ sizeLine; decide, fun aP7 hP7 => ?_⟩
    have sP7 : Same P6 (upd P6 aP7 (.tup [.int 0, .int 5, .int 5])) := Same.new (Same.refl _) hP7 _
    have eP7 : upd P6 aP7 (.tup [.int 0, .int 5, .int 5]) aP7 = some (.tup [.int 0, .int 5, .int 5]) := upd_same
    have nP7 := (src_ne rP6 hP7).symm
    have rP7 := src_new (o := .tup [.int 0, .int 5, .int 5]) rP6 hP7
    generalize upd P6 aP7 (.tup [.int 0, .int 5, .int 5]) = P7 at sP7 eP7 rP7 ⊢
    have SP7 := SP6.trans sP7
    have eP1 := sP7 _ _ eP1
    have eP2 := sP7 _ _ eP2
    have eP3 := sP7 _ _ eP3
    have eP4 := sP7 _ _ eP4
    have eP5 := sP7 _ _ eP5
    have eP6 := sP7 _ _ eP6
    intro aP8 hP8
    have sP8 : Same P7 (upd P7 aP8 (.dK [])) := Same.new (Same.refl _) hP8 _
    have eP8 : upd P7 aP8 (.dK []) aP8 = some (.dK []) := upd_same
    have nP8 := (src_ne rP7 hP8).symm
    have rP8 := src_new (o := .dK []) rP7 hP8
    generalize upd P7 aP8 (.dK []) = P8 at sP8 eP8 rP8 ⊢
    have SP8 := SP7.trans sP8
    have eP1 := sP8 _ _ eP1
    have eP2 := sP8 _ _ eP2
    have eP3 := sP8 _ _ eP3
    have eP4 := sP8 _ _ eP4
    have eP5 := sP8 _ _ eP5
    have eP6 := sP8 _ _ eP6
    have eP7 := sP8 _ _ eP7
    refine ⟨by show 1 ≤ sizeLine; decide, fun aP9 hP9 => ?_⟩
    have sP9 : Same P8 (upd P8 aP9 (.tup [.str "a"])) := Same.new (Same.refl _) hP9 _
    have eP9 : upd P8 aP9 (.tup [.str "a"]) aP9 = some (.tup [.str "a"]) := upd_same
    have nP9 := (src_ne rP8 hP9).symm
    have rP9 := src_new (o := .tup [.str "a"]) rP8 hP9
    generalize upd P8 aP9 (.tup [.str "a"]) = P9 at sP9 eP9 rP9 ⊢
    have SP9 := SP8.trans sP9
    have eP1 := sP9 _ _ eP1
    have eP2 := sP9 _ _ eP2
    have eP3 := sP9 _ _ eP3
    have eP4 := sP9 _ _ eP4
    have eP5 := sP9 _ _ eP5
    have eP6 := sP9 _ _ eP6
    have eP7 := sP9 _ _ eP7
    have eP8 := sP9 _ _ eP8
    refine ⟨by show 12 ≤ sizeLine; decide, fun aP10 hP10 => ?_⟩
    have sP10 : Same P9 (upd P9 aP10 (.lst [.ref aP1, .ref aP2, .ref aP3, .ref aP4, .ref aP5, .str "1", .int 1, .ref aP6, .ref aP7, .ref aP8, .ref aP9, .str "endless"])) := Same.new (Same.refl _) hP10 _
    have eP10 : upd P9 aP10 (.lst [.ref aP1, .ref aP2, .ref aP3, .ref aP4, .ref aP5, .str "1", .int 1, .ref aP6, .ref aP7, .ref aP8, .ref aP9, .str "endless"]) aP10 = some (.lst [.ref aP1, .ref aP2, .ref aP3, .ref aP4, .ref aP5, .str "1", .int 1, .ref aP6, .ref aP7, .ref aP8, .ref aP9, .str "endless"]) := upd_same
    have nP10 := (src_ne rP9 hP10).symm
    have rP10 := src_new (o := .lst [.ref aP1, .ref aP2, .ref aP3, .ref aP4, .ref aP5, .str "1", .int 1, .ref aP6, .ref aP7, .ref aP8, .ref aP9, .str "endless"]) rP9 hP10
    generalize upd P9 aP10 (.lst [.ref aP1, .ref aP2, .ref aP3, .ref aP4, .ref aP5, .str "1", .int 1, .ref aP6, .ref aP7, .ref aP8, .ref aP9, .str "endless"]) = P10 at sP10 eP10 rP10 ⊢
    have SP10 := SP9.trans sP10
    have eP1 := sP10 _ _ eP1
    have eP2 := sP10 _ _ eP2
    have eP3 := sP10 _ _ eP3
    have eP4 := sP10 _ _ eP4
    have eP5 := sP10 _ _ eP5
    have eP6 := sP10 _ _ eP6
    have eP7 := sP10 _ _ eP7
    have eP8 := sP10 _ _ eP8
    have eP9 := sP10 _ _ eP9
    refine ⟨s, _, _, rfl, rP10, SqL.of eP10, nP10, (by simp), by show 12 ≤ 1000; decide, fun v H2 hv src2 k2 => ?_⟩
    simp only [List.mem_cons, List.not_mem_nil, or_false] at hv
    rcases hv with rfl | rfl | rfl | rfl | rfl | rfl | rfl | rfl | rfl | rfl | rfl | rfl
    · exact q _ _ (.set (by intro z; cases z) (.bad (SqT.of (k2 _ _ nP1 eP1)) (.inr (.inr ⟨_, rfl, by decide, by decide, (.inr (.inl ⟨_, rfl, by decide⟩))⟩)))) src2 ((Kept.of SP10).trans k2)
    · exact q _ _ (.set (by intro z; cases z) (.bad (SqT.of (k2 _ _ nP2 eP2)) (.inr (.inr ⟨_, rfl, by decide, by decide, (.inr (.inl ⟨_, rfl, by decide⟩))⟩)))) src2 ((Kept.of SP10).trans k2)
    · exact q _ _ (.set (by intro z; cases z) (.bad (SqT.of (k2 _ _ nP3 eP3)) (.inr (.inl ⟨_, rfl, by decide⟩)))) src2 ((Kept.of SP10).trans k2)
    · exact q _ _ (.set (by intro z; cases z) (.bad (SqT.of (k2 _ _ nP4 eP4)) (.inr (.inl ⟨_, rfl, by decide⟩)))) src2 ((Kept.of SP10).trans k2)
    · exact q _ _ (.set (by intro z; cases z) (.ty (.base (.lst (k2 _ _ nP5 eP5))) (by decide +kernel))) src2 ((Kept.of SP10).trans k2)
    · exact q _ _ (.set (by intro z; cases z) (.ty (.base (.str _)) (by decide +kernel))) src2 ((Kept.of SP10).trans k2)
    · exact q _ _ (.set (by intro z; cases z) (.ty (.base (.int _)) (by decide +kernel))) src2 ((Kept.of SP10).trans k2)
    · exact q _ _ (.set (by intro z; cases z) (.bad (SqT.of (k2 _ _ nP6 eP6)) (.inl (.bl _)))) src2 ((Kept.of SP10).trans k2)
    · exact q _ _ (.set (by intro z; cases z) (.bad (SqT.of (k2 _ _ nP7 eP7)) (.inr (.inr ⟨_, rfl, by decide, by decide, (.inr (.inr ⟨_, rfl, by decide, by decide, (.inr (.inl ⟨_, rfl, by decide⟩))⟩))⟩)))) src2 ((Kept.of SP10).trans k2)
    · exact q _ _ (.set (by intro z; cases z) (.ty (.base (.dK (k2 _ _ nP8 eP8))) (by decide +kernel))) src2 ((Kept.of SP10).trans k2)
    · exact q _ _ (.set (by intro z; cases z) (.bad (SqT.of (k2 _ _ nP9 eP9)) (.inl (.ty (.base (.str _)) (by decide +kernel))))) src2 ((Kept.of SP10).trans k2)
    · exact q _ _ (.set (by intro z; cases z) (.ty (.base (.str _)) (by decide +kernel))) src2 ((Kept.of SP10).trans k2)
  have n1 : x ≠ "sets" := fun z => c (decide_eq_true (by rw [z]))
  refine ⟨_, rfl, rfl, _, rfl, ?_⟩
  refine ite2 (fun c => ?_) (fun c => ?_)
  · obtain rfl : x = "alone" := V.str.inj (of_decide_eq_true c)
    refine ⟨_, rfl, ?_⟩
    refine ⟨_, rfl, ?_⟩
    refine ⟨by show 2 ≤ sizeLine; decide, fun aP1 hP1 => ?_⟩
    have sP1 : Same H (upd H aP1 (.tup [.int 0, .int 1])) := Same.new (Same.refl _) hP1 _
    have eP1 : upd H aP1 (.tup [.int 0, .int 1]) aP1 = some (.tup [.int 0, .int 1]) := upd_same
    have nP1 := (src_ne src hP1).symm
    have rP1 := src_new (o := .tup [.int 0, .int 1]) src hP1
    generalize upd H aP1 (.tup [.int 0, .int 1]) = P1 at sP1 eP1 rP1 ⊢
    have SP1 := sP1
    refine ⟨Nat.zero_le _, fun aP2 hP2 => ?_⟩
    have sP2 : Same P1 (upd P1 aP2 (.lst [])) := Same.new (Same.refl _) hP2 _
    have eP2 : upd P1 aP2 (.lst []) aP2 = some (.lst []) := upd_same
    have nP2 := (src_ne rP1 hP2).symm
    have rP2 := src_new (o := .lst []) rP1 hP2
    generalize upd P1 aP2 (.lst []) = P2 at sP2 eP2 rP2 ⊢
    have SP2 := SP1.trans sP2
    have eP1 := sP2 _ _ eP1
    refine ⟨by show 8 ≤ sizeLine; decide, fun aP3 hP3 => ?_⟩
    have sP3 : Same P2 (upd P2 aP3 (.lst [.int 2, .int (-1), .bl true, .bl false, .non, .ref aP1, .str "1", .ref aP2])) := Same.new (Same.refl _) hP3 _
    have eP3 : upd P2 aP3 (.lst [.int 2, .int (-1), .bl true, .bl false, .non, .ref aP1, .str "1", .ref aP2]) aP3 = some (.lst [.int 2, .int (-1), .bl true, .bl false, .non, .ref aP1, .str "1", .ref aP2]) := upd_same
    have nP3 := (src_ne rP2 hP3).symm
    have rP3 := src_new (o := .lst [.int 2, .int (-1), .bl true, .bl false, .non, .ref aP1, .str "1", .ref aP2]) rP2 hP3
    generalize upd P2 aP3 (.lst [.int 2, .int (-1), .bl true, .bl false, .non, .ref aP1, .str "1", .ref aP2]) = P3 at sP3 eP3 rP3 ⊢
    have SP3 := SP2.trans sP3
    have eP1 := sP3 _ _ eP1
    have eP2 := sP3 _ _ eP2
    refine ⟨s, _, _, rfl, rP3, SqL.of eP3, nP3, (by simp), by show 8 ≤ 1000; decide, fun v H2 hv src2 k2 => ?_⟩
    simp only [List.mem_cons, List.not_mem_nil, or_false] at hv
    rcases hv with rfl | rfl | rfl | rfl | rfl | rfl | rfl | rfl
    · exact q _ _ (.aloneI (by decide) (by decide)) src2 ((Kept.of SP3).trans k2)
    · exact q _ _ (.aloneI (by decide) (by decide)) src2 ((Kept.of SP3).trans k2)
    · exact q _ _ (.alone (.bl _)) src2 ((Kept.of SP3).trans k2)
    · exact q _ _ (.alone (.bl _)) src2 ((Kept.of SP3).trans k2)
    · exact q _ _ (.alone (.ty (.base .non) (by decide +kernel))) src2 ((Kept.of SP3).trans k2)
    · exact q _ _ (.alone (.ty (.base (.tup (k2 _ _ nP1 eP1))) (by decide +kernel))) src2 ((Kept.of SP3).trans k2)
    · exact q _ _ (.alone (.ty (.base (.str _)) (by decide +kernel))) src2 ((Kept.of SP3).trans k2)
    · exact q _ _ (.alone (.ty (.base (.lst (k2 _ _ nP2 eP2))) (by decide +kernel))) src2 ((Kept.of SP3).trans k2)
  have n2 : x ≠ "alone" := fun z => c (decide_eq_true (by rw [z]))
  have hw6 : x = "min" ∨ x = "low" ∨ x = "max" ∨ x = "quota" ∨ x = "burst" ∨ x = "tops" := by
    have h := hw
    unfold leftW at h
    simp only [List.mem_cons, List.not_mem_nil, or_false] at h
    rcases h with h | h | h | h | h | h | h | h
    · exact .inl h
    · exact .inr (.inl h)
    · exact .inr (.inr (.inl h))
    · exact .inr (.inr (.inr (.inl h)))
    · exact .inr (.inr (.inr (.inr (.inl h))))
    · exact .inr (.inr (.inr (.inr (.inr h))))
    · exact absurd h n1
    · exact absurd h n2
  refine ⟨by show 2 ≤ sizeLine; decide, fun aP1 hP1 => ?_⟩
  have sP1 : Same H (upd H aP1 (.tup [.int 2, .int 2])) := Same.new (Same.refl _) hP1 _
  have eP1 : upd H aP1 (.tup [.int 2, .int 2]) aP1 = some (.tup [.int 2, .int 2]) := upd_same
  have nP1 := (src_ne src hP1).symm
  have rP1 := src_new (o := .tup [.int 2, .int 2]) src hP1
  generalize upd H aP1 (.tup [.int 2, .int 2]) = P1 at sP1 eP1 rP1 ⊢
  have SP1 := sP1
  refine ⟨by show 2 ≤ sizeLine; decide, fun aP2 hP2 => ?_⟩
  have sP2 : Same P1 (upd P1 aP2 (.tup [.int 1, .int 0])) := Same.new (Same.refl _) hP2 _
  have eP2 : upd P1 aP2 (.tup [.int 1, .int 0]) aP2 = some (.tup [.int 1, .int 0]) := upd_same
  have nP2 := (src_ne rP1 hP2).symm
  have rP2 := src_new (o := .tup [.int 1, .int 0]) rP1 hP2
  generalize upd P1 aP2 (.tup [.int 1, .int 0]) = P2 at sP2 eP2 rP2 ⊢
  have SP2 := SP1.trans sP2
  have eP1 := sP2 _ _ eP1
  refine ⟨_, rfl, by show 2 ≤ sizeLine; decide, fun aP3 hP3 => ?_⟩
  have sP3 : Same P2 (upd P2 aP3 (.tup [.int (-1), .int 1])) := Same.new (Same.refl _) hP3 _
  have eP3 : upd P2 aP3 (.tup [.int (-1), .int 1]) aP3 = some (.tup [.int (-1), .int 1]) := upd_same
  have nP3 := (src_ne rP2 hP3).symm
  have rP3 := src_new (o := .tup [.int (-1), .int 1]) rP2 hP3
  generalize upd P2 aP3 (.tup [.int (-1), .int 1]) = P3 at sP3 eP3 rP3 ⊢
  have SP3 := SP2.trans sP3
  have eP1 := sP3 _ _ eP1
  have eP2 := sP3 _ _ eP2
  refine ⟨by show 1 ≤ sizeLine; decide, fun aP4 hP4 => ?_⟩
  have sP4 : Same P3 (upd P3 aP4 (.tup [.int 1])) := Same.new (Same.refl _) hP4 _
  have eP4 : upd P3 aP4 (.tup [.int 1]) aP4 = some (.tup [.int 1]) := upd_same
  have nP4 := (src_ne rP3 hP4).symm
  have rP4 := src_new (o := .tup [.int 1]) rP3 hP4
  generalize upd P3 aP4 (.tup [.int 1]) = P4 at sP4 eP4 rP4 ⊢
  have SP4 := SP3.trans sP4
  have eP1 := sP4 _ _ eP1
  have eP2 := sP4 _ _ eP2
  have eP3 := sP4 _ _ eP3
  refine ⟨by show 3 ≤ sizeLine; decide, fun aP5 hP5 => ?_⟩
  have sP5 : Same P4 (upd P4 aP5 (.tup [.int 1, .int 1, .int 1])) := Same.new (Same.refl _) hP5 _
  have eP5 : upd P4 aP5 (.tup [.int 1, .int 1, .int 1]) aP5 = some (.tup [.int 1, .int 1, .int 1]) := upd_same
  have nP5 := (src_ne rP4 hP5).symm
  have rP5 := src_new (o := .tup [.int 1, .int 1, .int 1]) rP4 hP5
  generalize upd P4 aP5 (.tup [.int 1, .int 1, .int 1]) = P5 at sP5 eP5 rP5 ⊢
  have SP5 := SP4.trans sP5
  have eP1 := sP5 _ _ eP1
  have eP2 := sP5 _ _ eP2
  have eP3 := sP5 _ _ eP3
  have eP4 := sP5 _ _ eP4
  refine ⟨by show 2 ≤ sizeLine; decide, fun aP6 hP6 => ?_⟩
  have sP6 : Same P5 (upd P5 aP6 (.lst [.int 1, .int 1])) := Same.new (Same.refl _) hP6 _
  have eP6 : upd P5 aP6 (.lst [.int 1, .int 1]) aP6 = some (.lst [.int 1, .int 1]) := upd_same
  have nP6 := (src_ne rP5 hP6).symm
  have rP6 := src_new (o := .lst [.int 1, .int 1]) rP5 hP6
  generalize upd P5 aP6 (.lst [.int 1, .int 1]) = P6 at sP6 eP6 rP6 ⊢
  have SP6 := SP5.trans sP6
  have eP1 := sP6 _ _ eP1
  have eP2 := sP6 _ _ eP2
  have eP3 := sP6 _ _ eP3
  have eP4 := sP6 _ _ eP4
  have eP5 := sP6 _ _ eP5
  refine ⟨by show 2 ≤ sizeLine; decide, fun aP7 hP7 => ?_⟩
  have sP7 : Same P6 (upd P6 aP7 (.tup [.bl true, .int 1])) := Same.new (Same.refl _) hP7 _
  have eP7 : upd P6 aP7 (.tup [.bl true, .int 1]) aP7 = some (.tup [.bl true, .int 1]) := upd_same
  have nP7 := (src_ne rP6 hP7).symm
  have rP7 := src_new (o := .tup [.bl true, .int 1]) rP6 hP7
  generalize upd P6 aP7 (.tup [.bl true, .int 1]) = P7 at sP7 eP7 rP7 ⊢
  have SP7 := SP6.trans sP7
  have eP1 := sP7 _ _ eP1
  have eP2 := sP7 _ _ eP2
  have eP3 := sP7 _ _ eP3
  have eP4 := sP7 _ _ eP4
  have eP5 := sP7 _ _ eP5
  have eP6 := sP7 _ _ eP6
  refine ⟨by show 2 ≤ sizeLine; decide, fun aP8 hP8 => ?_⟩
  have sP8 : Same P7 (upd P7 aP8 (.tup [.int 1, .bl true])) := Same.new (Same.refl _) hP8 _
  have eP8 : upd P7 aP8 (.tup [.int 1, .bl true]) aP8 = some (.tup [.int 1, .bl true]) := upd_same
  have nP8 := (src_ne rP7 hP8).symm
  have rP8 := src_new (o := .tup [.int 1, .bl true]) rP7 hP8
  generalize upd P7 aP8 (.tup [.int 1, .bl true]) = P8 at sP8 eP8 rP8 ⊢
  have SP8 := SP7.trans sP8
  have eP1 := sP8 _ _ eP1
  have eP2 := sP8 _ _ eP2
  have eP3 := sP8 _ _ eP3
  have eP4 := sP8 _ _ eP4
  have eP5 := sP8 _ _ eP5
  have eP6 := sP8 _ _ eP6
  have eP7 := sP8 _ _ eP7
  refine ⟨by show 2 ≤ sizeLine; decide, fun aP9 hP9 => ?_⟩
  have sP9 : Same P8 (upd P8 aP9 (.tup [.int 0, .int 2])) := Same.new (Same.refl _) hP9 _
  have eP9 : upd P8 aP9 (.tup [.int 0, .int 2]) aP9 = some (.tup [.int 0, .int 2]) := upd_same
  have nP9 := (src_ne rP8 hP9).symm
  have rP9 := src_new (o := .tup [.int 0, .int 2]) rP8 hP9
  generalize upd P8 aP9 (.tup [.int 0, .int 2]) = P9 at sP9 eP9 rP9 ⊢
  have SP9 := SP8.trans sP9
  have eP1 := sP9 _ _ eP1
  have eP2 := sP9 _ _ eP2
  have eP3 := sP9 _ _ eP3
  have eP4 := sP9 _ _ eP4
  have eP5 := sP9 _ _ eP5
  have eP6 := sP9 _ _ eP6
  have eP7 := sP9 _ _ eP7
  have eP8 := sP9 _ _ eP8
  refine ⟨_, rfl, by show 2 ≤ sizeLine; decide, fun aP10 hP10 => ?_⟩
  have sP10 : Same P9 (upd P9 aP10 (.tup [.int 1, .int (-1)])) := Same.new (Same.refl _) hP10 _
  have eP10 : upd P9 aP10 (.tup [.int 1, .int (-1)]) aP10 = some (.tup [.int 1, .int (-1)]) := upd_same
  have nP10 := (src_ne rP9 hP10).symm
  have rP10 := src_new (o := .tup [.int 1, .int (-1)]) rP9 hP10
  generalize upd P9 aP10 (.tup [.int 1, .int (-1)]) = P10 at sP10 eP10 rP10 ⊢
  have SP10 := SP9.trans sP10
  have eP1 := sP10 _ _ eP1
  have eP2 := sP10 _ _ eP2
  have eP3 := sP10 _ _ eP3
  have eP4 := sP10 _ _ eP4
  have eP5 := sP10 _ _ eP5
  have eP6 := sP10 _ _ eP6
  have eP7 := sP10 _ _ eP7
  have eP8 := sP10 _ _ eP8
  have eP9 := sP10 _ _ eP9
  refine ⟨by show 14 ≤ sizeLine; decide, fun aP11 hP11 => ?_⟩
  have sP11 : Same P10 (upd P10 aP11 (.lst [.ref aP1, .ref aP2, .ref aP3, .ref aP4, .ref aP5, .ref aP6, .int 1, .bl true, .non, .ref aP7, .ref aP8, .ref aP9, .str "1", .ref aP10])) := Same.new (Same.refl _) hP11 _
  have eP11 : upd P10 aP11 (.lst [.ref aP1, .ref aP2, .ref aP3, .ref aP4, .ref aP5, .ref aP6, .int 1, .bl true, .non, .ref aP7, .ref aP8, .ref aP9, .str "1", .ref aP10]) aP11 = some (.lst [.ref aP1, .ref aP2, .ref aP3, .ref aP4, .ref aP5, .ref aP6, .int 1, .bl true, .non, .ref aP7, .ref aP8, .ref aP9, .str "1", .ref aP10]) := upd_same
  have nP11 := (src_ne rP10 hP11).symm
  have rP11 := src_new (o := .lst [.ref aP1, .ref aP2, .ref aP3, .ref aP4, .ref aP5, .ref aP6, .int 1, .bl true, .non, .ref aP7, .ref aP8, .ref aP9, .str "1", .ref aP10]) rP10 hP11
  generalize upd P10 aP11 (.lst [.ref aP1, .ref aP2, .ref aP3, .ref aP4, .ref aP5, .ref aP6, .int 1, .bl true, .non, .ref aP7, .ref aP8, .ref aP9, .str "1", .ref aP10]) = P11 at sP11 eP11 rP11 ⊢
  have SP11 := SP10.trans sP11
  have eP1 := sP11 _ _ eP1
  have eP2 := sP11 _ _ eP2
  have eP3 := sP11 _ _ eP3
  have eP4 := sP11 _ _ eP4
  have eP5 := sP11 _ _ eP5
  have eP6 := sP11 _ _ eP6
  have eP7 := sP11 _ _ eP7
  have eP8 := sP11 _ _ eP8
  have eP9 := sP11 _ _ eP9
  have eP10 := sP11 _ _ eP10
  refine ⟨_, rfl, _, rfl, ?_⟩
  intro aP12 hP12
  have sP12 : Same P11 (upd P11 aP12 (.dK [])) := Same.new (Same.refl _) hP12 _
  have eP12 : upd P11 aP12 (.dK []) aP12 = some (.dK []) := upd_same
  have nP12 := (src_ne rP11 hP12).symm
  have rP12 := src_new (o := .dK []) rP11 hP12
  generalize upd P11 aP12 (.dK []) = P12 at sP12 eP12 rP12 ⊢
  have SP12 := SP11.trans sP12
  have eP1 := sP12 _ _ eP1
  have eP2 := sP12 _ _ eP2
  have eP3 := sP12 _ _ eP3
  have eP4 := sP12 _ _ eP4
  have eP5 := sP12 _ _ eP5
  have eP6 := sP12 _ _ eP6
  have eP7 := sP12 _ _ eP7
  have eP8 := sP12 _ _ eP8
  have eP9 := sP12 _ _ eP9
  have eP10 := sP12 _ _ eP10
  have eP11 := sP12 _ _ eP11
  refine ⟨by show 3 ≤ sizeLine; decide, fun aP13 hP13 => ?_⟩
  have sP13 : Same P12 (upd P12 aP13 (.lst [.str "Endless", .str "", .ref aP12])) := Same.new (Same.refl _) hP13 _
  have eP13 : upd P12 aP13 (.lst [.str "Endless", .str "", .ref aP12]) aP13 = some (.lst [.str "Endless", .str "", .ref aP12]) := upd_same
  have nP13 := (src_ne rP12 hP13).symm
  have rP13 := src_new (o := .lst [.str "Endless", .str "", .ref aP12]) rP12 hP13
  generalize upd P12 aP13 (.lst [.str "Endless", .str "", .ref aP12]) = P13 at sP13 eP13 rP13 ⊢
  have SP13 := SP12.trans sP13
  have eP1 := sP13 _ _ eP1
  have eP2 := sP13 _ _ eP2
  have eP3 := sP13 _ _ eP3
  have eP4 := sP13 _ _ eP4
  have eP5 := sP13 _ _ eP5
  have eP6 := sP13 _ _ eP6
  have eP7 := sP13 _ _ eP7
  have eP8 := sP13 _ _ eP8
  have eP9 := sP13 _ _ eP9
  have eP10 := sP13 _ _ eP10
  have eP11 := sP13 _ _ eP11
  have eP12 := sP13 _ _ eP12
  refine ⟨aP11, aP13, _, _, rfl, rfl, eP11, eP13, by show 14 + 3 ≤ sizeLine; decide, fun aP14 hP14 => ?_⟩
  have sP14 : Same P13 (upd P13 aP14 (.lst ([(.ref aP1 : V), .ref aP2, .ref aP3, .ref aP4, .ref aP5, .ref aP6, .int 1, .bl true, .non, .ref aP7, .ref aP8, .ref aP9, .str "1", .ref aP10] ++ [.str "Endless", .str "", .ref aP12]))) := Same.new (Same.refl _) hP14 _
  have eP14 : upd P13 aP14 (.lst ([(.ref aP1 : V), .ref aP2, .ref aP3, .ref aP4, .ref aP5, .ref aP6, .int 1, .bl true, .non, .ref aP7, .ref aP8, .ref aP9, .str "1", .ref aP10] ++ [.str "Endless", .str "", .ref aP12])) aP14 = some (.lst ([(.ref aP1 : V), .ref aP2, .ref aP3, .ref aP4, .ref aP5, .ref aP6, .int 1, .bl true, .non, .ref aP7, .ref aP8, .ref aP9, .str "1", .ref aP10] ++ [.str "Endless", .str "", .ref aP12])) := upd_same
  have nP14 := (src_ne rP13 hP14).symm
  have rP14 := src_new (o := .lst ([(.ref aP1 : V), .ref aP2, .ref aP3, .ref aP4, .ref aP5, .ref aP6, .int 1, .bl true, .non, .ref aP7, .ref aP8, .ref aP9, .str "1", .ref aP10] ++ [.str "Endless", .str "", .ref aP12])) rP13 hP14
  generalize upd P13 aP14 (.lst ([(.ref aP1 : V), .ref aP2, .ref aP3, .ref aP4, .ref aP5, .ref aP6, .int 1, .bl true, .non, .ref aP7, .ref aP8, .ref aP9, .str "1", .ref aP10] ++ [.str "Endless", .str "", .ref aP12])) = P14 at sP14 eP14 rP14 ⊢
  have SP14 := SP13.trans sP14
  have eP1 := sP14 _ _ eP1
  have eP2 := sP14 _ _ eP2
  have eP3 := sP14 _ _ eP3
  have eP4 := sP14 _ _ eP4
  have eP5 := sP14 _ _ eP5
  have eP6 := sP14 _ _ eP6
  have eP7 := sP14 _ _ eP7
  have eP8 := sP14 _ _ eP8
  have eP9 := sP14 _ _ eP9
  have eP10 := sP14 _ _ eP10
  have eP11 := sP14 _ _ eP11
  have eP12 := sP14 _ _ eP12
  have eP13 := sP14 _ _ eP13
  refine ⟨by show 1 ≤ sizeLine; decide, fun aP15 hP15 => ?_⟩
  have sP15 : Same P14 (upd P14 aP15 (.lst [.str "endless"])) := Same.new (Same.refl _) hP15 _
  have eP15 : upd P14 aP15 (.lst [.str "endless"]) aP15 = some (.lst [.str "endless"]) := upd_same
  have nP15 := (src_ne rP14 hP15).symm
  have rP15 := src_new (o := .lst [.str "endless"]) rP14 hP15
  generalize upd P14 aP15 (.lst [.str "endless"]) = P15 at sP15 eP15 rP15 ⊢
  have SP15 := SP14.trans sP15
  have eP1 := sP15 _ _ eP1
  have eP2 := sP15 _ _ eP2
  have eP3 := sP15 _ _ eP3
  have eP4 := sP15 _ _ eP4
  have eP5 := sP15 _ _ eP5
  have eP6 := sP15 _ _ eP6
  have eP7 := sP15 _ _ eP7
  have eP8 := sP15 _ _ eP8
  have eP9 := sP15 _ _ eP9
  have eP10 := sP15 _ _ eP10
  have eP11 := sP15 _ _ eP11
  have eP12 := sP15 _ _ eP12
  have eP13 := sP15 _ _ eP13
  have eP14 := sP15 _ _ eP14
  refine ⟨_, rfl, ?_⟩
  refine ⟨by show 3 ≤ sizeLine; decide, fun aP16 hP16 => ?_⟩
  have sP16 : Same P15 (upd P15 aP16 (.tup [.str "min", .str "low", .str "burst"])) := Same.new (Same.refl _) hP16 _
  have eP16 : upd P15 aP16 (.tup [.str "min", .str "low", .str "burst"]) aP16 = some (.tup [.str "min", .str "low", .str "burst"]) := upd_same
  have nP16 := (src_ne rP15 hP16).symm
  have rP16 := src_new (o := .tup [.str "min", .str "low", .str "burst"]) rP15 hP16
  generalize upd P15 aP16 (.tup [.str "min", .str "low", .str "burst"]) = P16 at sP16 eP16 rP16 ⊢
  have SP16 := SP15.trans sP16
  have eP1 := sP16 _ _ eP1
  have eP2 := sP16 _ _ eP2
  have eP3 := sP16 _ _ eP3
  have eP4 := sP16 _ _ eP4
  have eP5 := sP16 _ _ eP5
  have eP6 := sP16 _ _ eP6
  have eP7 := sP16 _ _ eP7
  have eP8 := sP16 _ _ eP8
  have eP9 := sP16 _ _ eP9
  have eP10 := sP16 _ _ eP10
  have eP11 := sP16 _ _ eP11
  have eP12 := sP16 _ _ eP12
  have eP13 := sP16 _ _ eP13
  have eP14 := sP16 _ _ eP14
  have eP15 := sP16 _ _ eP15
  refine ⟨aP16, _, rfl, .inr (SqT.of eP16), rfl, rfl, .inr ⟨_, rfl, ?_⟩⟩
  obtain ⟨m, hm, hmx⟩ : ∃ m : Nat, (if (if (false : Bool) = true then !inV (.str x) [.str "min", .str "low", .str "burst"] else inV (.str x) [.str "min", .str "low", .str "burst"]) = true then (1 : Int) else 0) = (m : Int) ∧ ((m = 1 ∧ x ∈ (["min", "low", "burst"] : List Str)) ∨ (m = 0 ∧ x ∈ (["max", "quota", "tops"] : List Str))) := by
    rcases hw6 with rfl | rfl | rfl | rfl | rfl | rfl
    · exact ⟨1, by decide +kernel, .inl ⟨rfl, by decide +kernel⟩⟩
    · exact ⟨1, by decide +kernel, .inl ⟨rfl, by decide +kernel⟩⟩
    · exact ⟨0, by decide +kernel, .inr ⟨rfl, by decide +kernel⟩⟩
    · exact ⟨0, by decide +kernel, .inr ⟨rfl, by decide +kernel⟩⟩
    · exact ⟨1, by decide +kernel, .inl ⟨rfl, by decide +kernel⟩⟩
    · exact ⟨0, by decide +kernel, .inr ⟨rfl, by decide +kernel⟩⟩
  have m1 : m ≤ 1 := by
    rcases hmx with ⟨z, _⟩ | ⟨z, _⟩ <;> omega
  rw [hm]
  have zl : (List.replicate (m : Int).toNat [V.str "endless"]).flatten.length ≤ 1 := by
    rcases hmx with ⟨rfl, _⟩ | ⟨rfl, _⟩
    · exact Nat.le_refl _
    · exact Nat.zero_le _
  refine ⟨aP15, _, _, rfl, rfl, eP15, by omega, by omega, by show 1 * (m : Int).toNat ≤ sizeLine; exact Nat.le_of_lt (small1000 (by omega)), fun aP17 hP17 => ?_⟩
  have sP17 : Same P16 (upd P16 aP17 (.lst (List.replicate (m : Int).toNat [V.str "endless"]).flatten)) := Same.new (Same.refl _) hP17 _
  have eP17 : upd P16 aP17 (.lst (List.replicate (m : Int).toNat [V.str "endless"]).flatten) aP17 = some (.lst (List.replicate (m : Int).toNat [V.str "endless"]).flatten) := upd_same
  have nP17 := (src_ne rP16 hP17).symm
  have rP17 := src_new (o := .lst (List.replicate (m : Int).toNat [V.str "endless"]).flatten) rP16 hP17
  generalize upd P16 aP17 (.lst (List.replicate (m : Int).toNat [V.str "endless"]).flatten) = P17 at sP17 eP17 rP17 ⊢
  have SP17 := SP16.trans sP17
  have eP1 := sP17 _ _ eP1
  have eP2 := sP17 _ _ eP2
  have eP3 := sP17 _ _ eP3
  have eP4 := sP17 _ _ eP4
  have eP5 := sP17 _ _ eP5
  have eP6 := sP17 _ _ eP6
  have eP7 := sP17 _ _ eP7
  have eP8 := sP17 _ _ eP8
  have eP9 := sP17 _ _ eP9
  have eP10 := sP17 _ _ eP10
  have eP11 := sP17 _ _ eP11
  have eP12 := sP17 _ _ eP12
  have eP13 := sP17 _ _ eP13
  have eP14 := sP17 _ _ eP14
  have eP15 := sP17 _ _ eP15
  have eP16 := sP17 _ _ eP16
  refine ⟨aP14, aP17, _, _, rfl, rfl, eP14, eP17, by show 17 + _ ≤ sizeLine; exact Nat.le_of_lt (small1000 (by omega)), fun aP18 hP18 => ?_⟩
  have sP18 : Same P17 (upd P17 aP18 (.lst (([(.ref aP1 : V), .ref aP2, .ref aP3, .ref aP4, .ref aP5, .ref aP6, .int 1, .bl true, .non, .ref aP7, .ref aP8, .ref aP9, .str "1", .ref aP10] ++ [.str "Endless", .str "", .ref aP12]) ++ (List.replicate (m : Int).toNat [V.str "endless"]).flatten))) := Same.new (Same.refl _) hP18 _
  have eP18 : upd P17 aP18 (.lst (([(.ref aP1 : V), .ref aP2, .ref aP3, .ref aP4, .ref aP5, .ref aP6, .int 1, .bl true, .non, .ref aP7, .ref aP8, .ref aP9, .str "1", .ref aP10] ++ [.str "Endless", .str "", .ref aP12]) ++ (List.replicate (m : Int).toNat [V.str "endless"]).flatten)) aP18 = some (.lst (([(.ref aP1 : V), .ref aP2, .ref aP3, .ref aP4, .ref aP5, .ref aP6, .int 1, .bl true, .non, .ref aP7, .ref aP8, .ref aP9, .str "1", .ref aP10] ++ [.str "Endless", .str "", .ref aP12]) ++ (List.replicate (m : Int).toNat [V.str "endless"]).flatten)) := upd_same
  have nP18 := (src_ne rP17 hP18).symm
  have rP18 := src_new (o := .lst (([(.ref aP1 : V), .ref aP2, .ref aP3, .ref aP4, .ref aP5, .ref aP6, .int 1, .bl true, .non, .ref aP7, .ref aP8, .ref aP9, .str "1", .ref aP10] ++ [.str "Endless", .str "", .ref aP12]) ++ (List.replicate (m : Int).toNat [V.str "endless"]).flatten)) rP17 hP18
  generalize upd P17 aP18 (.lst (([(.ref aP1 : V), .ref aP2, .ref aP3, .ref aP4, .ref aP5, .ref aP6, .int 1, .bl true, .non, .ref aP7, .ref aP8, .ref aP9, .str "1", .ref aP10] ++ [.str "Endless", .str "", .ref aP12]) ++ (List.replicate (m : Int).toNat [V.str "endless"]).flatten)) = P18 at sP18 eP18 rP18 ⊢
  have SP18 := SP17.trans sP18
  have eP1 := sP18 _ _ eP1
  have eP2 := sP18 _ _ eP2
  have eP3 := sP18 _ _ eP3
  have eP4 := sP18 _ _ eP4
  have eP5 := sP18 _ _ eP5
  have eP6 := sP18 _ _ eP6
  have eP7 := sP18 _ _ eP7
  have eP8 := sP18 _ _ eP8
  have eP9 := sP18 _ _ eP9
  have eP10 := sP18 _ _ eP10
  have eP11 := sP18 _ _ eP11
  have eP12 := sP18 _ _ eP12
  have eP13 := sP18 _ _ eP13
  have eP14 := sP18 _ _ eP14
  have eP15 := sP18 _ _ eP15
  have eP16 := sP18 _ _ eP16
  have eP17 := sP18 _ _ eP17
  refine ⟨s, _, _, rfl, rP18, SqL.of eP18, nP18, (by simp), by rw [List.length_append]; show 17 + _ ≤ 1000; omega, fun v H2 hv src2 k2 => ?_⟩
  have kk : Kept s H H2 := (Kept.of SP18).trans k2
  rcases List.mem_append.mp hv with hv | hv
  · have na : NoAmt K H2 v ∧ NoEnd K H2 v := by
      replace hv : v ∈ ([(.ref aP1 : V), .ref aP2, .ref aP3, .ref aP4, .ref aP5, .ref aP6, .int 1, .bl true, .non, .ref aP7, .ref aP8, .ref aP9, .str "1", .ref aP10, .str "Endless", .str "", .ref aP12] : List V) := hv
      simp only [List.mem_cons, List.not_mem_nil, or_false] at hv
      rcases hv with rfl | rfl | rfl | rfl | rfl | rfl | rfl | rfl | rfl | rfl | rfl | rfl | rfl | rfl | rfl | rfl | rfl
      · exact ⟨(.gcd (n := 2) (m := 2) (SqT.of (k2 _ _ nP1 eP1)) (Nat.lt_of_lt_of_le (by decide : 2 < 2 ^ 4) (Nat.pow_le_pow_right (by decide) (by decide))) (by decide) (Nat.lt_of_lt_of_le (by decide : 2 < 2 ^ 4) (Nat.pow_le_pow_right (by decide) (by decide))) (by decide)), (.inl ⟨_, (.base (.tup (k2 _ _ nP1 eP1))), (by decide +kernel)⟩)⟩
      · exact ⟨(.neg (SqT.of (k2 _ _ nP2 eP2)) (by decide)), (.inl ⟨_, (.base (.tup (k2 _ _ nP2 eP2))), (by decide +kernel)⟩)⟩
      · exact ⟨(.neg (SqT.of (k2 _ _ nP3 eP3)) (by decide)), (.inl ⟨_, (.base (.tup (k2 _ _ nP3 eP3))), (by decide +kernel)⟩)⟩
      · exact ⟨(.len (SqT.of (k2 _ _ nP4 eP4)) (by decide)), (.inl ⟨_, (.base (.tup (k2 _ _ nP4 eP4))), (by decide +kernel)⟩)⟩
      · exact ⟨(.len (SqT.of (k2 _ _ nP5 eP5)) (by decide)), (.inl ⟨_, (.base (.tup (k2 _ _ nP5 eP5))), (by decide +kernel)⟩)⟩
      · exact ⟨(.ty (.base (.lst (k2 _ _ nP6 eP6))) (by decide +kernel)), (.inl ⟨_, (.base (.lst (k2 _ _ nP6 eP6))), (by decide +kernel)⟩)⟩
      · exact ⟨(.ty (.base (.int _)) (by decide +kernel)), (.inl ⟨_, (.base (.int _)), (by decide +kernel)⟩)⟩
      · exact ⟨(.ty (.base (.bl _)) (by decide +kernel)), (.inl ⟨_, (.base (.bl _)), (by decide +kernel)⟩)⟩
      · exact ⟨(.ty (.base .non) (by decide +kernel)), (.inl ⟨_, (.base .non), (by decide +kernel)⟩)⟩
      · exact ⟨(.top (SqT.of (k2 _ _ nP7 eP7)) (.bl _)), (.inl ⟨_, (.base (.tup (k2 _ _ nP7 eP7))), (by decide +kernel)⟩)⟩
      · exact ⟨(.bot (SqT.of (k2 _ _ nP8 eP8)) (.bl _)), (.inl ⟨_, (.base (.tup (k2 _ _ nP8 eP8))), (by decide +kernel)⟩)⟩
      · exact ⟨(.gcd (n := 0) (m := 2) (SqT.of (k2 _ _ nP9 eP9)) (Nat.lt_of_lt_of_le (by decide : 0 < 2 ^ 4) (Nat.pow_le_pow_right (by decide) (by decide))) (by decide) (Nat.lt_of_lt_of_le (by decide : 2 < 2 ^ 4) (Nat.pow_le_pow_right (by decide) (by decide))) (by decide)), (.inl ⟨_, (.base (.tup (k2 _ _ nP9 eP9))), (by decide +kernel)⟩)⟩
      · exact ⟨(.ty (.base (.str _)) (by decide +kernel)), (.inr ⟨_, rfl, by decide +kernel⟩)⟩
      · exact ⟨(.neg (SqT.of (k2 _ _ nP10 eP10)) (by decide)), (.inl ⟨_, (.base (.tup (k2 _ _ nP10 eP10))), (by decide +kernel)⟩)⟩
      · exact ⟨(.ty (.base (.str _)) (by decide +kernel)), (.inr ⟨_, rfl, by decide +kernel⟩)⟩
      · exact ⟨(.ty (.base (.str _)) (by decide +kernel)), (.inr ⟨_, rfl, by decide +kernel⟩)⟩
      · exact ⟨(.ty (.base (.dK (k2 _ _ nP12 eP12))) (by decide +kernel)), (.inl ⟨_, (.base (.dK (k2 _ _ nP12 eP12))), (by decide +kernel)⟩)⟩
    rcases hmx with ⟨_, hx⟩ | ⟨_, hx⟩
    · exact q _ _ (.amt hx na.1) src2 kk
    · exact q _ _ (.lim hx na.2 na.1) src2 kk
  · rcases hmx with ⟨rfl, hx⟩ | ⟨rfl, _⟩
    · cases List.mem_singleton.mp hv
      exact q _ _ (.amt hx (.ty (.base (.str _)) (by decide +kernel))) src2 kk
    · cases hv
end
end Bd
end

section
namespace Bd
open PySem L2
/-- all but lists and tables stays; lists stay lists -/
def KL (H H' : Hp) : Prop := (∀ b o, H b = some o → (∀ xs, o ≠ .lst xs) → (∀ ps, o ≠ .tbl ps) → H' b = some o) ∧ ∀ b xs, H b = some (.lst xs) → ∃ ys, H' b = some (.lst ys)
theorem KL.of {s : Addr} {H H' : Hp} (h : Src H s) (h' : Src H' s) (k : KN s H H') : KL H H' := by
  obtain ⟨x, y, z, h⟩ := h
  obtain ⟨x', y', z', h'⟩ := h'
  refine ⟨fun b o e n t => k b o (ne_of e h (n _)) e t, fun b xs e => ?_⟩
  by_cases c : b = s
  · exact ⟨_, by rw [c]; exact h'⟩
  · exact ⟨xs, k b _ c e fun ps z => by cases z⟩
theorem KL.tk {H H' : Hp} (e : KL H H') : TK H H' := ⟨fun b xs h => e.1 b _ h (fun ps z => by cases z) (fun ps z => by cases z), fun b o u h => e.1 b _ h (fun ps z => by cases z) (fun ps z => by cases z)⟩
theorem KL.same {H H' : Hp} (e : Same H H') : KL H H' := ⟨fun b o h _ _ => e b o h, fun b xs h => ⟨xs, e b _ h⟩⟩
theorem KL.ext {H H' : Hp} (e : LamX.ExtN H H') : KL H H' := ⟨fun b o h _ t => e b o h t, fun b xs h => ⟨xs, e b _ h fun ps z => by cases z⟩⟩
theorem ty_kl {K : PySem.W.Frag} {H H' : Hp} (e : KL H H') {v : V} {t : Value} (h : TyX K H v t) : TyX K H' v t := by
  cases h with
  | base b =>
    cases b with
    | non => exact .base .non
    | bl x => exact .base (.bl x)
    | int x => exact .base (.int x)
    | str x => exact .base (.str x)
    | flt x => exact .base (.flt x)
    | lst h =>
      obtain ⟨ys, z⟩ := e.2 _ _ h
      exact .base (.lst z)
    | frz h => exact .base (.frz (e.1 _ _ h (fun ps z => by cases z) (fun ps z => by cases z)))
    | tup h => exact .base (.tup (e.1 _ _ h (fun ps z => by cases z) (fun ps z => by cases z)))
    | dK h => exact .base (.dK (e.1 _ _ h (fun ps z => by cases z) (fun ps z => by cases z)))
    | dT h => exact .base (.dT (e.1 _ _ h (fun ps z => by cases z) (fun ps z => by cases z)))
    | ins h c a n k m => exact .base (.ins (e.1 _ _ h (fun ps z => by cases z) (fun ps z => by cases z)) c a n k m)
  | byt b => exact .byt b
  | set h => exact .set (e.1 _ _ h (fun ps z => by cases z) (fun ps z => by cases z))
  | kList h c => exact .kList h c
  | kTuple h c => exact .kTuple h c
  | kDict h c => exact .kDict h c
  | fTuple h => exact .fTuple (e.1 _ _ h (fun ps z => by cases z) (fun ps z => by cases z))
  | fDict h => exact .fDict (e.1 _ _ h (fun ps z => by cases z) (fun ps z => by cases z))
theorem seqT_kl {K : PySem.W.Frag} {H H' : Hp} (e : KL H H') {a : Addr} {xs : List V} (h : SqT K H a xs) : SqT K H' a xs := by
  rcases h with (h | ⟨o, h⟩) | h
  · exact .inl (.inl (e.1 _ _ h (fun ps z => by cases z) (fun ps z => by cases z)))
  · exact .inl (.inr ⟨o, e.1 _ _ h (fun ps z => by cases z) (fun ps z => by cases z)⟩)
  · exact .inr h
theorem due_kl {K : PySem.W.Frag} {H H' : Hp} (e : KL H H') {p : Addr} {du : Str × PyData} (hv : ValOk du.1 du.2) (h : DueAt K H p du) : DueAt K H' p du := by
  obtain ⟨u, h1, h2⟩ := h
  exact ⟨u, seqT_kl e h1, e.tk.val hv h2⟩
theorem odd_kl {K : PySem.W.Frag} {H H' : Hp} (e : KL H H') {xs : List Str} {v : V} (h : OddN K H xs v) : OddN K H' xs v := by
  rcases h with ⟨t, h, k⟩ | h
  · exact .inl ⟨t, ty_kl e h, k⟩
  · exact .inr h
theorem noInt_kl {K : PySem.W.Frag} {H H' : Hp} (e : KL H H') {v : V} (h : NoInt K H v) : NoInt K H' v := by
  cases h with
  | bl b => exact .bl b
  | ty h k => exact .ty (ty_kl e h) k
theorem noAmt_kl {K : PySem.W.Frag} {H H' : Hp} (e : KL H H') {v : V} (h : NoAmt K H v) : NoAmt K H' v := by
  cases h with
  | ty h k => exact .ty (ty_kl e h) k
  | len h k => exact .len (seqT_kl e h) k
  | top h k => exact .top (seqT_kl e h) (noInt_kl e k)
  | bot h k => exact .bot (seqT_kl e h) (noInt_kl e k)
  | neg h k => exact .neg (seqT_kl e h) k
  | gcd h a b c d => exact .gcd (seqT_kl e h) a b c d
theorem rise_kl {K : PySem.W.Frag} {H H' : Hp} (e : KL H H') : ∀ {xs : List V} {p : Int}, BadRise K H p xs → BadRise K H' p xs
  | [], _, h => h
  | x :: r, p, h => by
    rcases h with h | h | ⟨z, h1, h2, h3, h4⟩
    · exact .inl (noInt_kl e h)
    · exact .inr (.inl h)
    · exact .inr (.inr ⟨z, h1, h2, h3, rise_kl e h4⟩)
theorem noSet_kl {K : PySem.W.Frag} {H H' : Hp} (e : KL H H') {v : V} (h : NoSetV K H v) : NoSetV K H' v := by
  cases h with
  | ty h k => exact .ty (ty_kl e h) k
  | bad h k => exact .bad (seqT_kl e h) (rise_kl e k)
theorem noEnd_kl {K : PySem.W.Frag} {H H' : Hp} (e : KL H H') {v : V} (h : NoEnd K H v) : NoEnd K H' v := by
  rcases h with ⟨t, h, k⟩ | h
  · exact .inl ⟨t, ty_kl e h, k⟩
  · exact .inr h
theorem badV_kl {K : PySem.W.Frag} {H H' : Hp} (e : KL H H') {x : Str} {v : V} (h : BadV K H x v) : BadV K H' x v := by
  cases h with
  | amt m h => exact .amt m (noAmt_kl e h)
  | lim m h k => exact .lim m (noEnd_kl e h) (noAmt_kl e k)
  | set n h => exact .set n (noSet_kl e h)
  | alone h => exact .alone (noInt_kl e h)
  | aloneI a b => exact .aloneI a b
theorem badName_kl {K : PySem.W.Frag} {H H' : Hp} (e : KL H H') {v : V} (h : BadName K H v) : BadName K H' v := by
  cases h with
  | ty h k => exact .ty (ty_kl e h) k
  | len h k => exact .len h k
  | az a b c => exact .az a b c
theorem badDue_kl {K : PySem.W.Frag} {H H' : Hp} (e : KL H H') {v : V} (h : BadDue K H v) : BadDue K H' v := by
  cases h with
  | ty h k => exact .ty (ty_kl e h) k
  | len h k => exact .len (seqT_kl e h) k
  | word h k => exact .word (seqT_kl e h) (odd_kl e k)
  | val h a b => exact .val (seqT_kl e h) a (badV_kl e b)
theorem badDues_kl {K : PySem.W.Frag} {H H' : Hp} (e : KL H H') {v : V} (h : BadDues K H v) : BadDues K H' v := by
  cases h with
  | ty h k => exact .ty (ty_kl e h) k
  | bad h a b c => exact .bad (seqT_kl e h) (paired_monoM (fun p du hm z => due_kl e (b.2 du hm).2 z) a) b (c.imp (badDue_kl e) fun ⟨p, du, x1, x2, x3, x4, x5⟩ => ⟨p, du, x1, due_kl e x4 x2, x3, x4, x5⟩)
theorem badRow_kl {K : PySem.W.Frag} {H H' : Hp} (e : KL H H') {v : V} (h : BadRow K H v) : BadRow K H' v := by
  cases h with
  | ty h k => exact .ty (ty_kl e h) k
  | len h k => exact .len (seqT_kl e h) k
  | name h k => exact .name (seqT_kl e h) (badName_kl e k)
  | above h a b c => exact .above (seqT_kl e h) a (ty_kl e b) c
  | dues h a b => exact .dues (seqT_kl e h) a (badDues_kl e b)
/-- what may not stand behind these rows -/
def BadIn (K : PySem.W.Frag) (H : Hp) (rows : List RowM) (v : V) : Prop := BadRow K H v ∨ ∃ rw, RowAt K H v rw ∧ NameOk rw.name ∧ DuesOk rw.dues ∧ BadStand rows rw
theorem badIn_kl {K : PySem.W.Frag} {H H' : Hp} (e : KL H H') {rows : List RowM} {v : V} (h : BadIn K H rows v) : BadIn K H' rows v := by
  rcases h with h | ⟨rw', h, a, b, c⟩
  · exact .inl (badRow_kl e h)
  · exact .inr ⟨rw', e.tk.row b h, a, b, c⟩
end Bd
end

section
namespace Bd
open PySem L2
/-- a tuple without items -/
def tTupF (t : L2.TA) : TE := fun σ H Q => t σ H fun xs H1 => xs.length ≤ sizeLine ∧ ∀ (l : Addr) (o : Obj), H1 l = none → o.dict = none → Q (.ref l) (upd H1 l (.frz o (.tup xs)))
theorem pe_tupF {X : Cx} {es : List Expr} {t : L2.TA} {pos : Pos} {x1 : Nat} (h : PA X es t) : PE X (.Tuple es x1 pos) (tTupF t) := by
  refine ⟨fun pins s σ H Q I hq => ?_⟩
  refine wpAny_Tuple_spliced (thn (h.run pos pins s σ H _ I hq) fun us s1 ⟨xs, H1, I1, r, z, q⟩ => ⟨by rw [← r.length]; exact z, ?_⟩)
  have I2 := I1.laid (a := s1.heap.objs.size) (o := .frz { cls := .type "tuple", data := .seq us.toArray } (.tup xs)) (h' := s1.heap.push { cls := .type "tuple", data := .seq us.toArray }) (t' := s1.toks) (fun b u e => Heap.get?_push_of_some _ e) (Nat.le_refl _)
    (show ObjOk X.prog X.w _ _ _ (.frz _ (.tup xs)) from ⟨Heap.get?_push_size _ rfl, z, us, r, PyProof.Rows.IsTup.new _ _⟩)
  exact ⟨.ref s1.heap.objs.size, _, I2, rfl, q _ _ (I1.hok.fresh (Nat.le_refl _)) rfl⟩
def spBadR (K : PySem.W.Frag) : Sp := fun vs H Q _ => ∃ (s ah : Addr) (rows : List RowM), vs = [.ref s, .ref ah] ∧ Src H s ∧ H ah = some (.lst ((nms rows).map .str)) ∧ ah ≠ s ∧ RowsOk rows ∧ rows.length ≤ 12 ∧ (∀ y ∈ nms rows, y ∈ menu) ∧
  ∀ v H', BadIn K H' rows v → Src H' s → Kept s H H' → Q v H'
end Bd
end

section
namespace Bd
open PySem L2
abbrev sBadR : Stmt := (top 53)
theorem scBadR : FnScope ["_law_source_here", "_law_ahead", "_law_word", "_law_bad", "_law_some", "_law_name"] ["_law_source_here", "_law_ahead"] (defScope sBadR) := ⟨rfl, rfl, rfl, by decide +kernel, rfl, by decide +kernel, by decide +kernel⟩

section
variable {P : Program} {w : World} {K : PySem.W.Frag} {mg : Str → Option Value} {base : Heap}
theorem ok_badR {f f1 f2 f3 f4 : Addr} {fd d1 d2 d3 d4 : FuncData} (F : Fun K "_law_bad_row" "_law_bad_row" sBadR f fd) (T : TA mg) (cO : Cal P w K mg base "_law_one" ["_law_source_here", "_law_things"] 3 (spOne K) f1 d1) (cV : Cal P w K mg base "_law_words" [] 1 spWords f2 d2)
    (cN : Cal P w K mg base "_law_next" ["_law_source_here", "_law_many"] 2 spNext f3 d3) (cB : Cal P w K mg base "_law_bad_value" ["_law_source_here", "_law_word"] 4 (spBad K) f4 d4) : FnOk P w K mg base CX0 5 f fd ["_law_source_here", "_law_ahead"] (spBadR K) := by
  refine F.ok scBadR (fun vs H Q E h => ?_) (fun cdv A outer s H vs Q E hr h => ?_)
  · obtain ⟨s, ah, rows, rfl, _⟩ := h
    rfl
  obtain ⟨s, ah, rows, rfl, src, eah, nah, ok, len, hm, q⟩ := h
  refine ⟨_, (pss_cons (ps_if (pt_cmpR op_eq (pe_call cN.ok (hr.mono (by decide)) rfl cN.mg cN.kp cN.bd .nil pass0 (pa_cons (pv 0) (pa_cons pe_int pa_nil))) pe_int (nomark _)) (pss_cons (ps_set (i := 2) scBadR.nd rfl (Or.inl rfl) (pe_call cO.ok (hr.mono (by decide)) rfl cO.mg cO.kp cO.bd .nil pass0 (pa_cons (pv 0) (pa_cons (pe_call0 cV.ok (hr.mono (by decide)) rfl cV.mg cV.kp cV.bd .nil pass0) pa_nil)))) (pss_cons (ps_set (i := 3) scBadR.nd rfl (Or.inl rfl) (pe_tup (pa_cons (pv 2) (pa_cons (pe_call cB.ok (hr.mono (by decide)) rfl cB.mg cB.kp cB.bd .nil pass0 (pa_cons (pv 0) (pa_cons (pv 2) pa_nil))) pa_nil)))) (pss_one (ps_ret (pe_tup (pa_cons pe_str (pa_cons pe_str (pa_cons (pe_ifExp (pt_cmpR op_eq (pe_call cN.ok (hr.mono (by decide)) rfl cN.mg cN.kp cN.bd .nil pass0 (pa_cons (pv 0) (pa_cons pe_int pa_nil))) pe_int (nomark _)) (pe_tup (pa_cons (pv 3) pa_nil)) (pe_tup (pa_cons (pe_tup (pa_cons pe_str (pa_cons pe_str pa_nil))) (pa_cons (pv 3) pa_nil)))) pa_nil)))))))) pss_nil) (pss_cons (ps_set (i := 4) scBadR.nd rfl (Or.inl rfl) (pe_lst (pa_cons pe_non (pa_cons pe_int (pa_cons pe_str (pa_cons (pe_lst pa_nil) (pa_cons (pe_tup (pa_cons pe_str (pa_cons pe_str pa_nil))) (pa_cons (pe_tup (pa_cons pe_str (pa_cons pe_str (pa_cons (pe_tupF pa_nil) (pa_cons (pe_tupF pa_nil) pa_nil))))) (pa_cons (pe_lst (pa_cons pe_str (pa_cons pe_str (pa_cons (pe_tupF pa_nil) pa_nil)))) (pa_cons (pe_tup (pa_cons pe_int (pa_cons pe_str (pa_cons (pe_tupF pa_nil) pa_nil)))) (pa_cons (pe_tup (pa_cons pe_str (pa_cons pe_str (pa_cons (pe_tupF pa_nil) pa_nil)))) (pa_cons (pe_tup (pa_cons pe_str (pa_cons pe_str (pa_cons (pe_tupF pa_nil) pa_nil)))) pa_nil)))))))))))) (pss_cons (ps_set (i := 4) scBadR.nd rfl (Or.inl rfl) (pe_op op_cat (pv 4) (pe_lst (pa_cons (pe_tup (pa_cons pe_str (pa_cons pe_str (pa_cons (pe_tupF pa_nil) pa_nil)))) (pa_cons (pe_tup (pa_cons pe_str (pa_cons pe_str (pa_cons (pe_tupF pa_nil) pa_nil)))) (pa_cons (pe_tup (pa_cons pe_str (pa_cons pe_str (pa_cons (pe_tupF pa_nil) pa_nil)))) (pa_cons (pe_tup (pa_cons pe_str (pa_cons pe_str (pa_cons (pe_tupF pa_nil) pa_nil)))) (pa_cons (pe_tup (pa_cons pe_str (pa_cons pe_non (pa_cons (pe_tupF pa_nil) pa_nil)))) pa_nil)))))))) (pss_cons (ps_set (i := 4) scBadR.nd rfl (Or.inl rfl) (pe_op op_cat (pv 4) (pe_lst (pa_cons (pe_tup (pa_cons pe_str (pa_cons pe_str (pa_cons (pe_lst pa_nil) pa_nil)))) (pa_cons (pe_tup (pa_cons pe_str (pa_cons pe_str (pa_cons pe_non pa_nil)))) (pa_cons (pe_tup (pa_cons pe_str (pa_cons pe_str (pa_cons (pe_tup (pa_cons (pe_tup (pa_cons pe_str pa_nil)) pa_nil)) pa_nil)))) (pa_cons (pe_tup (pa_cons (pe_lst (pa_cons pe_str pa_nil)) (pa_cons pe_str (pa_cons (pe_tupF pa_nil) pa_nil)))) pa_nil))))))) (pss_cons (ps_set (i := 4) scBadR.nd rfl (Or.inl rfl) (pe_op op_cat (pv 4) (pe_lst (pa_cons (pe_tup (pa_cons pe_str (pa_cons pe_str (pa_cons (pe_tup (pa_cons (pe_tup (pa_cons pe_str (pa_cons (pe_tup (pa_cons pe_int (pa_cons pe_int pa_nil))) pa_nil))) (pa_cons (pe_tup (pa_cons pe_str (pa_cons (pe_tup (pa_cons pe_int (pa_cons pe_int pa_nil))) pa_nil))) pa_nil))) pa_nil)))) (pa_cons (pe_tup (pa_cons pe_str (pa_cons pe_str (pa_cons (pe_tup (pa_cons (pe_tup (pa_cons pe_int (pa_cons (pe_tup (pa_cons pe_int (pa_cons pe_int pa_nil))) pa_nil))) pa_nil)) pa_nil)))) pa_nil))))) (pss_cons (ps_set (i := 4) scBadR.nd rfl (Or.inl rfl) (pe_op op_cat (pv 4) (pe_lst (pa_cons (pe_tup (pa_cons pe_str (pa_cons pe_str (pa_cons (pe_tup (pa_cons (pe_lst (pa_cons pe_str (pa_cons (pe_tup (pa_cons pe_int (pa_cons pe_int pa_nil))) pa_nil))) pa_nil)) pa_nil)))) (pa_cons (pe_tup (pa_cons pe_str (pa_cons pe_str (pa_cons (pe_tup (pa_cons (pe_tup (pa_cons pe_str (pa_cons (pe_tup (pa_cons pe_int (pa_cons pe_int pa_nil))) pa_nil))) pa_nil)) pa_nil)))) pa_nil))))) (C8.pss_cut (ps_set (i := 4) scBadR.nd rfl (Or.inl rfl) (pe_op op_cat (pv 4) (pe_lst (pa_cons (pe_tup (pa_cons pe_str (pa_cons (pe_lst (pa_cons pe_str pa_nil)) (pa_cons (pe_tupF pa_nil) pa_nil)))) (pa_cons (pe_tup (pa_cons pe_str (pa_cons pe_str (pa_cons (pe_tup (pa_cons (pe_tup (pa_cons (pe_lst (pa_cons pe_str pa_nil)) (pa_cons (pe_tup (pa_cons pe_int (pa_cons pe_int pa_nil))) pa_nil))) pa_nil)) pa_nil)))) (pa_cons (pe_tup (pa_cons pe_str (pa_cons pe_str (pa_cons (pe_tup (pa_cons (pe_tup (pa_cons pe_str (pa_cons (pe_tup (pa_cons pe_int (pa_cons pe_int pa_nil))) (pa_cons pe_int pa_nil)))) pa_nil)) pa_nil)))) pa_nil)))))) (pss_one (ps_ret (pe_call cO.ok (hr.mono (by decide)) rfl cO.mg cO.kp cO.bd .nil pass0 (pa_cons (pv 0) (pa_cons (pe_op op_cat (pv 4) (pe_lc (own := [("_law_name", 5)]) (g := gName 5) (tt := tYes) (te := tTup (tCons (tVar 5) (tCons (tC (.str "")) (tCons (tTupF tNil) tNil)))) rfl scBadR.nd (pi_list (pe_op op_cat (pe_slice sl_list (pv 1) po_none (po_some pe_int)) (pe_slice sl_list (pv 1) (po_some (pe_un un_neg pe_int)) po_none))) (blkOk_by (own := [("_law_name", 5)]) (N := ["_law_source_here", "_law_ahead", "_law_word", "_law_bad", "_law_some", "_law_name"]) (sc := defScope sBadR) (by decide +kernel)) (fun _ _ _ _ _ => (pg_name (i := 5) scBadR.nd rfl (Or.inl rfl))) (fun _ _ _ _ _ => pts_nil) (fun _ _ _ _ _ => (pe_tup (pa_cons (pv 5) (pa_cons pe_str (pa_cons (pe_tupF pa_nil) pa_nil))))))) pa_nil)))))))))))), ?_⟩
  have hq : NameOk "q" := by
    refine ⟨by decide +kernel, by decide +kernel, ?_⟩
    decide +kernel
  have nq : ∀ y : Str, y ∉ menu → ∀ r ∈ rows, r.name ≠ y := fun y hy r hr e => hy (e ▸ hm _ (List.mem_map.mpr ⟨r, hr, rfl⟩))
  have vm : ValOk "min" (.tuple [.int ((1 : Nat) : Int), .int ((1 : Nat) : Int)]) := .amt (by decide +kernel) (Nat.one_lt_two_pow (by decide)) (by decide) (Nat.one_lt_two_pow (by decide)) (by decide)
  have vm2 : ValOk "min" (.tuple [.int ((2 : Nat) : Int), .int ((1 : Nat) : Int)]) := .amt (by decide +kernel) (Nat.lt_of_lt_of_le (by decide : 2 < 2 ^ 4) (Nat.pow_le_pow_right (by decide) (by decide))) (by decide) (Nat.one_lt_two_pow (by decide)) (by decide)
  refine ⟨_, rfl, s, 2, rfl, src, by decide, by decide, fun v2 H0 hv2 src0 k0 => ⟨rfl, _, rfl, ?_⟩⟩
  have kq : ∀ v H', BadIn K H' rows v → Src H' s → Kept s H0 H' → Q v H' := fun v H' a b c => q v H' a b (k0.trans c)
  have eah0 := k0 _ _ nah eah
  refine ite2 (fun _ => ?_) (fun _ => ?_)
  · refine ⟨_, rfl, rfl, fun wl hwl => ?_⟩
    have sa : Same H0 (upd H0 wl (.lst (leftW.map V.str))) := Same.new (Same.refl _) hwl _
    have ea : upd H0 wl (.lst (leftW.map V.str)) wl = some (.lst (leftW.map V.str)) := upd_same
    have ra := src_new (o := .lst (leftW.map V.str)) src0 hwl
    have na := (src_ne src0 hwl).symm
    generalize upd H0 wl (.lst (leftW.map V.str)) = Ha at sa ea ra ⊢
    refine ⟨s, wl, _, rfl, ra, SqL.of ea, na, (by decide), by decide, fun v0 H1 hv0 src1 k1 => ?_⟩
    obtain ⟨wd, hwd, rfl⟩ := List.mem_map.mp hv0
    refine ⟨_, rfl, _, rfl, _, rfl, s, wd, rfl, hwd, src1, fun bv H4 hbad src4 k4 => ⟨by show 2 ≤ sizeLine; decide, fun a2 h2 => ?_⟩⟩
    have sb : Same H4 (upd H4 a2 (.tup [.str wd, bv])) := Same.new (Same.refl _) h2 _
    have eb : upd H4 a2 (.tup [.str wd, bv]) a2 = some (.tup [.str wd, bv]) := upd_same
    have rb := src_new (o := .tup [.str wd, bv]) src4 h2
    have nb := (src_ne src4 h2).symm
    generalize upd H4 a2 (.tup [.str wd, bv]) = Hb at sb eb rb ⊢
    have hbad4 := badV_same sb hbad
    have kb : Kept s H0 Hb := (((Kept.of sa).trans k1).trans k4).trans (Kept.of sb)
    refine ⟨_, rfl, s, 2, rfl, rb, by decide, by decide, fun v5 H5 hv5 src5 k5 => ⟨rfl, _, rfl, ?_⟩⟩
    have e5 := k5 _ _ nb eb
    have hb5 := badV_kl (KL.of rb src5 (KN.of k5)) hbad4
    have kz : Kept s H0 H5 := kb.trans k5
    refine ite2 (fun _ => ?_) (fun _ => ?_)
    · refine ⟨_, rfl, by show 1 ≤ sizeLine; decide, fun a3 h3 => ?_⟩
      have s3 : Same H5 (upd H5 a3 (.tup [.ref a2])) := Same.new (Same.refl _) h3 _
      have e3 : upd H5 a3 (.tup [.ref a2]) a3 = some (.tup [.ref a2]) := upd_same
      have r3 := src_new (o := .tup [.ref a2]) src5 h3
      generalize upd H5 a3 (.tup [.ref a2]) = H6 at s3 e3 r3 ⊢
      refine ⟨by show 3 ≤ sizeLine; decide, fun a4 h4 => ?_⟩
      have s4 : Same H6 (upd H6 a4 (.tup [.str "q", .str "", .ref a3])) := Same.new (Same.refl _) h4 _
      refine kq _ _ (.inl (.dues (SqT.of upd_same) hq (.bad (ps := []) (dues := []) (SqT.of (s4 _ _ e3)) .nil ⟨List.nodup_nil, fun _ h => by cases h⟩ (.inl (.val (SqT.of (s4 _ _ (s3 _ _ e5))) hwd (badV_same (s3.trans s4) hb5)))))) (src_new (o := .tup [.str "q", .str "", .ref a3]) r3 h4) (kz.trans (Kept.of (s3.trans s4)))
    · refine ⟨by show 2 ≤ sizeLine; decide, fun a3 h3 => ?_⟩
      have s3 : Same H5 (upd H5 a3 (.tup [.str "max", .str "endless"])) := Same.new (Same.refl _) h3 _
      have e3 : upd H5 a3 (.tup [.str "max", .str "endless"]) a3 = some (.tup [.str "max", .str "endless"]) := upd_same
      have r3 := src_new (o := .tup [.str "max", .str "endless"]) src5 h3
      generalize upd H5 a3 (.tup [.str "max", .str "endless"]) = H6 at s3 e3 r3 ⊢
      refine ⟨_, rfl, by show 2 ≤ sizeLine; decide, fun a5 h5 => ?_⟩
      have s5 : Same H6 (upd H6 a5 (.tup [.ref a3, .ref a2])) := Same.new (Same.refl _) h5 _
      have e7 : upd H6 a5 (.tup [.ref a3, .ref a2]) a5 = some (.tup [.ref a3, .ref a2]) := upd_same
      have r5 := src_new (o := .tup [.ref a3, .ref a2]) r3 h5
      generalize upd H6 a5 (.tup [.ref a3, .ref a2]) = H7 at s5 e7 r5 ⊢
      refine ⟨by show 3 ≤ sizeLine; decide, fun a4 h4 => ?_⟩
      have s4 : Same H7 (upd H7 a4 (.tup [.str "q", .str "", .ref a5])) := Same.new (Same.refl _) h4 _
      refine kq _ _ (.inl (.dues (SqT.of upd_same) hq (.bad (ps := [a3]) (dues := [("max", .str "endless")]) (SqT.of (s4 _ _ e7)) (.cons ⟨_, SqT.of (s4 _ _ (s5 _ _ e3)), .str _⟩ .nil) ⟨by decide +kernel, fun du h => by rw [List.mem_singleton.mp h]; exact ⟨by decide +kernel, .endl (by decide +kernel)⟩⟩ (.inl (.val (SqT.of (s4 _ _ (s5 _ _ (s3 _ _ e5)))) hwd (badV_same ((s3.trans s5).trans s4) hb5)))))) (src_new (o := .tup [.str "q", .str "", .ref a5]) r5 h4) (kz.trans (Kept.of ((s3.trans s5).trans s4)))
  refine ⟨Nat.zero_le _, fun a1 h1 => ?_⟩
  have s1 : Same H0 (upd H0 a1 (.lst [])) := Same.new (Same.refl _) h1 _
  have e1 : upd H0 a1 (.lst []) a1 = some (.lst []) := upd_same
  have n1 := (src_ne src0 h1).symm
  have r1 := src_new (o := .lst []) src0 h1
  generalize upd H0 a1 (.lst []) = P1 at s1 e1 r1 ⊢
  refine ⟨by show 2 ≤ sizeLine; decide, fun a2 h2 => ?_⟩
  have s2 : Same P1 (upd P1 a2 (.tup [.str "q", .str ""])) := Same.new (Same.refl _) h2 _
  have e2 : upd P1 a2 (.tup [.str "q", .str ""]) a2 = some (.tup [.str "q", .str ""]) := upd_same
  have n2 := (src_ne r1 h2).symm
  have r2 := src_new (o := .tup [.str "q", .str ""]) r1 h2
  generalize upd P1 a2 (.tup [.str "q", .str ""]) = P2 at s2 e2 r2 ⊢
  refine ⟨Nat.zero_le _, fun a3 o3 h3 ho3 => ?_⟩
  have s3 : Same P2 (upd P2 a3 (.frz o3 (.tup []))) := Same.new (Same.refl _) h3 _
  have e3 : upd P2 a3 (.frz o3 (.tup [])) a3 = some (.frz o3 (.tup [])) := upd_same
  have n3 := (src_ne r2 h3).symm
  have r3 := src_new (o := .frz o3 (.tup [])) r2 h3
  generalize upd P2 a3 (.frz o3 (.tup [])) = P3 at s3 e3 r3 ⊢
  refine ⟨Nat.zero_le _, fun a4 o4 h4 ho4 => ?_⟩
  have s4 : Same P3 (upd P3 a4 (.frz o4 (.tup []))) := Same.new (Same.refl _) h4 _
  have e4 : upd P3 a4 (.frz o4 (.tup [])) a4 = some (.frz o4 (.tup [])) := upd_same
  have n4 := (src_ne r3 h4).symm
  have r4 := src_new (o := .frz o4 (.tup [])) r3 h4
  generalize upd P3 a4 (.frz o4 (.tup [])) = P4 at s4 e4 r4 ⊢
  refine ⟨by show 4 ≤ sizeLine; decide, fun a5 h5 => ?_⟩
  have s5 : Same P4 (upd P4 a5 (.tup [.str "q", .str "", .ref a3, .ref a4])) := Same.new (Same.refl _) h5 _
  have e5 : upd P4 a5 (.tup [.str "q", .str "", .ref a3, .ref a4]) a5 = some (.tup [.str "q", .str "", .ref a3, .ref a4]) := upd_same
  have n5 := (src_ne r4 h5).symm
  have r5 := src_new (o := .tup [.str "q", .str "", .ref a3, .ref a4]) r4 h5
  generalize upd P4 a5 (.tup [.str "q", .str "", .ref a3, .ref a4]) = P5 at s5 e5 r5 ⊢
  refine ⟨Nat.zero_le _, fun a6 o6 h6 ho6 => ?_⟩
  have s6 : Same P5 (upd P5 a6 (.frz o6 (.tup []))) := Same.new (Same.refl _) h6 _
  have e6 : upd P5 a6 (.frz o6 (.tup [])) a6 = some (.frz o6 (.tup [])) := upd_same
  have n6 := (src_ne r5 h6).symm
  have r6 := src_new (o := .frz o6 (.tup [])) r5 h6
  generalize upd P5 a6 (.frz o6 (.tup [])) = P6 at s6 e6 r6 ⊢
  refine ⟨by show 3 ≤ sizeLine; decide, fun a7 h7 => ?_⟩
  have s7 : Same P6 (upd P6 a7 (.lst [.str "q", .str "", .ref a6])) := Same.new (Same.refl _) h7 _
  have e7 : upd P6 a7 (.lst [.str "q", .str "", .ref a6]) a7 = some (.lst [.str "q", .str "", .ref a6]) := upd_same
  have n7 := (src_ne r6 h7).symm
  have r7 := src_new (o := .lst [.str "q", .str "", .ref a6]) r6 h7
  generalize upd P6 a7 (.lst [.str "q", .str "", .ref a6]) = P7 at s7 e7 r7 ⊢
  refine ⟨Nat.zero_le _, fun a8 o8 h8 ho8 => ?_⟩
  have s8 : Same P7 (upd P7 a8 (.frz o8 (.tup []))) := Same.new (Same.refl _) h8 _
  have e8 : upd P7 a8 (.frz o8 (.tup [])) a8 = some (.frz o8 (.tup [])) := upd_same
  have n8 := (src_ne r7 h8).symm
  have r8 := src_new (o := .frz o8 (.tup [])) r7 h8
  generalize upd P7 a8 (.frz o8 (.tup [])) = P8 at s8 e8 r8 ⊢
  refine ⟨by show 3 ≤ sizeLine; decide, fun a9 h9 => ?_⟩
  have s9 : Same P8 (upd P8 a9 (.tup [.int 5, .str "", .ref a8])) := Same.new (Same.refl _) h9 _
  have e9 : upd P8 a9 (.tup [.int 5, .str "", .ref a8]) a9 = some (.tup [.int 5, .str "", .ref a8]) := upd_same
  have n9 := (src_ne r8 h9).symm
  have r9 := src_new (o := .tup [.int 5, .str "", .ref a8]) r8 h9
  generalize upd P8 a9 (.tup [.int 5, .str "", .ref a8]) = P9 at s9 e9 r9 ⊢
  refine ⟨Nat.zero_le _, fun a10 o10 h10 ho10 => ?_⟩
  have s10 : Same P9 (upd P9 a10 (.frz o10 (.tup []))) := Same.new (Same.refl _) h10 _
  have e10 : upd P9 a10 (.frz o10 (.tup [])) a10 = some (.frz o10 (.tup [])) := upd_same
  have n10 := (src_ne r9 h10).symm
  have r10 := src_new (o := .frz o10 (.tup [])) r9 h10
  generalize upd P9 a10 (.frz o10 (.tup [])) = P10 at s10 e10 r10 ⊢
  refine ⟨by show 3 ≤ sizeLine; decide, fun a11 h11 => ?_⟩
  have s11 : Same P10 (upd P10 a11 (.tup [.str "", .str "", .ref a10])) := Same.new (Same.refl _) h11 _
  have e11 : upd P10 a11 (.tup [.str "", .str "", .ref a10]) a11 = some (.tup [.str "", .str "", .ref a10]) := upd_same
  have n11 := (src_ne r10 h11).symm
  have r11 := src_new (o := .tup [.str "", .str "", .ref a10]) r10 h11
  generalize upd P10 a11 (.tup [.str "", .str "", .ref a10]) = P11 at s11 e11 r11 ⊢
  refine ⟨Nat.zero_le _, fun a12 o12 h12 ho12 => ?_⟩
  have s12 : Same P11 (upd P11 a12 (.frz o12 (.tup []))) := Same.new (Same.refl _) h12 _
  have e12 : upd P11 a12 (.frz o12 (.tup [])) a12 = some (.frz o12 (.tup [])) := upd_same
  have n12 := (src_ne r11 h12).symm
  have r12 := src_new (o := .frz o12 (.tup [])) r11 h12
  generalize upd P11 a12 (.frz o12 (.tup [])) = P12 at s12 e12 r12 ⊢
  refine ⟨by show 3 ≤ sizeLine; decide, fun a13 h13 => ?_⟩
  have s13 : Same P12 (upd P12 a13 (.tup [.str "Q", .str "", .ref a12])) := Same.new (Same.refl _) h13 _
  have e13 : upd P12 a13 (.tup [.str "Q", .str "", .ref a12]) a13 = some (.tup [.str "Q", .str "", .ref a12]) := upd_same
  have n13 := (src_ne r12 h13).symm
  have r13 := src_new (o := .tup [.str "Q", .str "", .ref a12]) r12 h13
  generalize upd P12 a13 (.tup [.str "Q", .str "", .ref a12]) = P13 at s13 e13 r13 ⊢
  refine ⟨by show 10 ≤ sizeLine; decide, fun a14 h14 => ?_⟩
  have s14 : Same P13 (upd P13 a14 (.lst [.non, .int 5, .str "row", .ref a1, .ref a2, .ref a5, .ref a7, .ref a9, .ref a11, .ref a13])) := Same.new (Same.refl _) h14 _
  have e14 : upd P13 a14 (.lst [.non, .int 5, .str "row", .ref a1, .ref a2, .ref a5, .ref a7, .ref a9, .ref a11, .ref a13]) a14 = some (.lst [.non, .int 5, .str "row", .ref a1, .ref a2, .ref a5, .ref a7, .ref a9, .ref a11, .ref a13]) := upd_same
  have n14 := (src_ne r13 h14).symm
  have r14 := src_new (o := .lst [.non, .int 5, .str "row", .ref a1, .ref a2, .ref a5, .ref a7, .ref a9, .ref a11, .ref a13]) r13 h14
  generalize upd P13 a14 (.lst [.non, .int 5, .str "row", .ref a1, .ref a2, .ref a5, .ref a7, .ref a9, .ref a11, .ref a13]) = P14 at s14 e14 r14 ⊢
  refine ⟨_, rfl, ?_⟩
  refine ⟨Nat.zero_le _, fun a15 o15 h15 ho15 => ?_⟩
  have s15 : Same P14 (upd P14 a15 (.frz o15 (.tup []))) := Same.new (Same.refl _) h15 _
  have e15 : upd P14 a15 (.frz o15 (.tup [])) a15 = some (.frz o15 (.tup [])) := upd_same
  have n15 := (src_ne r14 h15).symm
  have r15 := src_new (o := .frz o15 (.tup [])) r14 h15
  generalize upd P14 a15 (.frz o15 (.tup [])) = P15 at s15 e15 r15 ⊢
  refine ⟨by show 3 ≤ sizeLine; decide, fun a16 h16 => ?_⟩
  have s16 : Same P15 (upd P15 a16 (.tup [.str "a1", .str "", .ref a15])) := Same.new (Same.refl _) h16 _
  have e16 : upd P15 a16 (.tup [.str "a1", .str "", .ref a15]) a16 = some (.tup [.str "a1", .str "", .ref a15]) := upd_same
  have n16 := (src_ne r15 h16).symm
  have r16 := src_new (o := .tup [.str "a1", .str "", .ref a15]) r15 h16
  generalize upd P15 a16 (.tup [.str "a1", .str "", .ref a15]) = P16 at s16 e16 r16 ⊢
  refine ⟨Nat.zero_le _, fun a17 o17 h17 ho17 => ?_⟩
  have s17 : Same P16 (upd P16 a17 (.frz o17 (.tup []))) := Same.new (Same.refl _) h17 _
  have e17 : upd P16 a17 (.frz o17 (.tup [])) a17 = some (.frz o17 (.tup [])) := upd_same
  have n17 := (src_ne r16 h17).symm
  have r17 := src_new (o := .frz o17 (.tup [])) r16 h17
  generalize upd P16 a17 (.frz o17 (.tup [])) = P17 at s17 e17 r17 ⊢
  refine ⟨by show 3 ≤ sizeLine; decide, fun a18 h18 => ?_⟩
  have s18 : Same P17 (upd P17 a18 (.tup [.str "elevenlette", .str "", .ref a17])) := Same.new (Same.refl _) h18 _
  have e18 : upd P17 a18 (.tup [.str "elevenlette", .str "", .ref a17]) a18 = some (.tup [.str "elevenlette", .str "", .ref a17]) := upd_same
  have n18 := (src_ne r17 h18).symm
  have r18 := src_new (o := .tup [.str "elevenlette", .str "", .ref a17]) r17 h18
  generalize upd P17 a18 (.tup [.str "elevenlette", .str "", .ref a17]) = P18 at s18 e18 r18 ⊢
  refine ⟨Nat.zero_le _, fun a19 o19 h19 ho19 => ?_⟩
  have s19 : Same P18 (upd P18 a19 (.frz o19 (.tup []))) := Same.new (Same.refl _) h19 _
  have e19 : upd P18 a19 (.frz o19 (.tup [])) a19 = some (.frz o19 (.tup [])) := upd_same
  have n19 := (src_ne r18 h19).symm
  have r19 := src_new (o := .frz o19 (.tup [])) r18 h19
  generalize upd P18 a19 (.frz o19 (.tup [])) = P19 at s19 e19 r19 ⊢
  refine ⟨by show 3 ≤ sizeLine; decide, fun a20 h20 => ?_⟩
  have s20 : Same P19 (upd P19 a20 (.tup [.str "q", .str "qq", .ref a19])) := Same.new (Same.refl _) h20 _
  have e20 : upd P19 a20 (.tup [.str "q", .str "qq", .ref a19]) a20 = some (.tup [.str "q", .str "qq", .ref a19]) := upd_same
  have n20 := (src_ne r19 h20).symm
  have r20 := src_new (o := .tup [.str "q", .str "qq", .ref a19]) r19 h20
  generalize upd P19 a20 (.tup [.str "q", .str "qq", .ref a19]) = P20 at s20 e20 r20 ⊢
  refine ⟨Nat.zero_le _, fun a21 o21 h21 ho21 => ?_⟩
  have s21 : Same P20 (upd P20 a21 (.frz o21 (.tup []))) := Same.new (Same.refl _) h21 _
  have e21 : upd P20 a21 (.frz o21 (.tup [])) a21 = some (.frz o21 (.tup [])) := upd_same
  have n21 := (src_ne r20 h21).symm
  have r21 := src_new (o := .frz o21 (.tup [])) r20 h21
  generalize upd P20 a21 (.frz o21 (.tup [])) = P21 at s21 e21 r21 ⊢
  refine ⟨by show 3 ≤ sizeLine; decide, fun a22 h22 => ?_⟩
  have s22 : Same P21 (upd P21 a22 (.tup [.str "q", .str "q", .ref a21])) := Same.new (Same.refl _) h22 _
  have e22 : upd P21 a22 (.tup [.str "q", .str "q", .ref a21]) a22 = some (.tup [.str "q", .str "q", .ref a21]) := upd_same
  have n22 := (src_ne r21 h22).symm
  have r22 := src_new (o := .tup [.str "q", .str "q", .ref a21]) r21 h22
  generalize upd P21 a22 (.tup [.str "q", .str "q", .ref a21]) = P22 at s22 e22 r22 ⊢
  refine ⟨Nat.zero_le _, fun a23 o23 h23 ho23 => ?_⟩
  have s23 : Same P22 (upd P22 a23 (.frz o23 (.tup []))) := Same.new (Same.refl _) h23 _
  have e23 : upd P22 a23 (.frz o23 (.tup [])) a23 = some (.frz o23 (.tup [])) := upd_same
  have n23 := (src_ne r22 h23).symm
  have r23 := src_new (o := .frz o23 (.tup [])) r22 h23
  generalize upd P22 a23 (.frz o23 (.tup [])) = P23 at s23 e23 r23 ⊢
  refine ⟨by show 3 ≤ sizeLine; decide, fun a24 h24 => ?_⟩
  have s24 : Same P23 (upd P23 a24 (.tup [.str "q", .non, .ref a23])) := Same.new (Same.refl _) h24 _
  have e24 : upd P23 a24 (.tup [.str "q", .non, .ref a23]) a24 = some (.tup [.str "q", .non, .ref a23]) := upd_same
  have n24 := (src_ne r23 h24).symm
  have r24 := src_new (o := .tup [.str "q", .non, .ref a23]) r23 h24
  generalize upd P23 a24 (.tup [.str "q", .non, .ref a23]) = P24 at s24 e24 r24 ⊢
  refine ⟨by show 5 ≤ sizeLine; decide, fun a25 h25 => ?_⟩
  have s25 : Same P24 (upd P24 a25 (.lst [.ref a16, .ref a18, .ref a20, .ref a22, .ref a24])) := Same.new (Same.refl _) h25 _
  have e25 : upd P24 a25 (.lst [.ref a16, .ref a18, .ref a20, .ref a22, .ref a24]) a25 = some (.lst [.ref a16, .ref a18, .ref a20, .ref a22, .ref a24]) := upd_same
  have n25 := (src_ne r24 h25).symm
  have r25 := src_new (o := .lst [.ref a16, .ref a18, .ref a20, .ref a22, .ref a24]) r24 h25
  generalize upd P24 a25 (.lst [.ref a16, .ref a18, .ref a20, .ref a22, .ref a24]) = P25 at s25 e25 r25 ⊢
  refine ⟨a14, a25, _, _, rfl, rfl, (s25 _ _ (s24 _ _ (s23 _ _ (s22 _ _ (s21 _ _ (s20 _ _ (s19 _ _ (s18 _ _ (s17 _ _ (s16 _ _ (s15 _ _ e14))))))))))), e25, by show 10 + 5 ≤ sizeLine; decide, fun a26 h26 => ?_⟩
  have s26 : Same P25 (upd P25 a26 (.lst (([.non, .int 5, .str "row", .ref a1, .ref a2, .ref a5, .ref a7, .ref a9, .ref a11, .ref a13] : List V) ++ [.ref a16, .ref a18, .ref a20, .ref a22, .ref a24]))) := Same.new (Same.refl _) h26 _
  have e26 : upd P25 a26 (.lst (([.non, .int 5, .str "row", .ref a1, .ref a2, .ref a5, .ref a7, .ref a9, .ref a11, .ref a13] : List V) ++ [.ref a16, .ref a18, .ref a20, .ref a22, .ref a24])) a26 = some (.lst (([.non, .int 5, .str "row", .ref a1, .ref a2, .ref a5, .ref a7, .ref a9, .ref a11, .ref a13] : List V) ++ [.ref a16, .ref a18, .ref a20, .ref a22, .ref a24])) := upd_same
  have n26 := (src_ne r25 h26).symm
  have r26 := src_new (o := .lst (([.non, .int 5, .str "row", .ref a1, .ref a2, .ref a5, .ref a7, .ref a9, .ref a11, .ref a13] : List V) ++ [.ref a16, .ref a18, .ref a20, .ref a22, .ref a24])) r25 h26
  generalize upd P25 a26 (.lst (([.non, .int 5, .str "row", .ref a1, .ref a2, .ref a5, .ref a7, .ref a9, .ref a11, .ref a13] : List V) ++ [.ref a16, .ref a18, .ref a20, .ref a22, .ref a24])) = P26 at s26 e26 r26 ⊢
  refine ⟨_, rfl, ?_⟩
  refine ⟨Nat.zero_le _, fun a27 h27 => ?_⟩
  have s27 : Same P26 (upd P26 a27 (.lst [])) := Same.new (Same.refl _) h27 _
  have e27 : upd P26 a27 (.lst []) a27 = some (.lst []) := upd_same
  have n27 := (src_ne r26 h27).symm
  have r27 := src_new (o := .lst []) r26 h27
  generalize upd P26 a27 (.lst []) = P27 at s27 e27 r27 ⊢
  refine ⟨by show 3 ≤ sizeLine; decide, fun a28 h28 => ?_⟩
  have s28 : Same P27 (upd P27 a28 (.tup [.str "q", .str "", .ref a27])) := Same.new (Same.refl _) h28 _
  have e28 : upd P27 a28 (.tup [.str "q", .str "", .ref a27]) a28 = some (.tup [.str "q", .str "", .ref a27]) := upd_same
  have n28 := (src_ne r27 h28).symm
  have r28 := src_new (o := .tup [.str "q", .str "", .ref a27]) r27 h28
  generalize upd P27 a28 (.tup [.str "q", .str "", .ref a27]) = P28 at s28 e28 r28 ⊢
  refine ⟨by show 3 ≤ sizeLine; decide, fun a29 h29 => ?_⟩
  have s29 : Same P28 (upd P28 a29 (.tup [.str "q", .str "", .non])) := Same.new (Same.refl _) h29 _
  have e29 : upd P28 a29 (.tup [.str "q", .str "", .non]) a29 = some (.tup [.str "q", .str "", .non]) := upd_same
  have n29 := (src_ne r28 h29).symm
  have r29 := src_new (o := .tup [.str "q", .str "", .non]) r28 h29
  generalize upd P28 a29 (.tup [.str "q", .str "", .non]) = P29 at s29 e29 r29 ⊢
  refine ⟨by show 1 ≤ sizeLine; decide, fun a30 h30 => ?_⟩
  have s30 : Same P29 (upd P29 a30 (.tup [.str "min"])) := Same.new (Same.refl _) h30 _
  have e30 : upd P29 a30 (.tup [.str "min"]) a30 = some (.tup [.str "min"]) := upd_same
  have n30 := (src_ne r29 h30).symm
  have r30 := src_new (o := .tup [.str "min"]) r29 h30
  generalize upd P29 a30 (.tup [.str "min"]) = P30 at s30 e30 r30 ⊢
  refine ⟨by show 1 ≤ sizeLine; decide, fun a31 h31 => ?_⟩
  have s31 : Same P30 (upd P30 a31 (.tup [.ref a30])) := Same.new (Same.refl _) h31 _
  have e31 : upd P30 a31 (.tup [.ref a30]) a31 = some (.tup [.ref a30]) := upd_same
  have n31 := (src_ne r30 h31).symm
  have r31 := src_new (o := .tup [.ref a30]) r30 h31
  generalize upd P30 a31 (.tup [.ref a30]) = P31 at s31 e31 r31 ⊢
  refine ⟨by show 3 ≤ sizeLine; decide, fun a32 h32 => ?_⟩
  have s32 : Same P31 (upd P31 a32 (.tup [.str "q", .str "", .ref a31])) := Same.new (Same.refl _) h32 _
  have e32 : upd P31 a32 (.tup [.str "q", .str "", .ref a31]) a32 = some (.tup [.str "q", .str "", .ref a31]) := upd_same
  have n32 := (src_ne r31 h32).symm
  have r32 := src_new (o := .tup [.str "q", .str "", .ref a31]) r31 h32
  generalize upd P31 a32 (.tup [.str "q", .str "", .ref a31]) = P32 at s32 e32 r32 ⊢
  refine ⟨by show 1 ≤ sizeLine; decide, fun a33 h33 => ?_⟩
  have s33 : Same P32 (upd P32 a33 (.lst [.str "q"])) := Same.new (Same.refl _) h33 _
  have e33 : upd P32 a33 (.lst [.str "q"]) a33 = some (.lst [.str "q"]) := upd_same
  have n33 := (src_ne r32 h33).symm
  have r33 := src_new (o := .lst [.str "q"]) r32 h33
  generalize upd P32 a33 (.lst [.str "q"]) = P33 at s33 e33 r33 ⊢
  refine ⟨Nat.zero_le _, fun a34 o34 h34 ho34 => ?_⟩
  have s34 : Same P33 (upd P33 a34 (.frz o34 (.tup []))) := Same.new (Same.refl _) h34 _
  have e34 : upd P33 a34 (.frz o34 (.tup [])) a34 = some (.frz o34 (.tup [])) := upd_same
  have n34 := (src_ne r33 h34).symm
  have r34 := src_new (o := .frz o34 (.tup [])) r33 h34
  generalize upd P33 a34 (.frz o34 (.tup [])) = P34 at s34 e34 r34 ⊢
  refine ⟨by show 3 ≤ sizeLine; decide, fun a35 h35 => ?_⟩
  have s35 : Same P34 (upd P34 a35 (.tup [.ref a33, .str "", .ref a34])) := Same.new (Same.refl _) h35 _
  have e35 : upd P34 a35 (.tup [.ref a33, .str "", .ref a34]) a35 = some (.tup [.ref a33, .str "", .ref a34]) := upd_same
  have n35 := (src_ne r34 h35).symm
  have r35 := src_new (o := .tup [.ref a33, .str "", .ref a34]) r34 h35
  generalize upd P34 a35 (.tup [.ref a33, .str "", .ref a34]) = P35 at s35 e35 r35 ⊢
  refine ⟨by show 4 ≤ sizeLine; decide, fun a36 h36 => ?_⟩
  have s36 : Same P35 (upd P35 a36 (.lst [.ref a28, .ref a29, .ref a32, .ref a35])) := Same.new (Same.refl _) h36 _
  have e36 : upd P35 a36 (.lst [.ref a28, .ref a29, .ref a32, .ref a35]) a36 = some (.lst [.ref a28, .ref a29, .ref a32, .ref a35]) := upd_same
  have n36 := (src_ne r35 h36).symm
  have r36 := src_new (o := .lst [.ref a28, .ref a29, .ref a32, .ref a35]) r35 h36
  generalize upd P35 a36 (.lst [.ref a28, .ref a29, .ref a32, .ref a35]) = P36 at s36 e36 r36 ⊢
  refine ⟨a26, a36, _, _, rfl, rfl, (s36 _ _ (s35 _ _ (s34 _ _ (s33 _ _ (s32 _ _ (s31 _ _ (s30 _ _ (s29 _ _ (s28 _ _ (s27 _ _ e26)))))))))), e36, by show 15 + 4 ≤ sizeLine; decide, fun a37 h37 => ?_⟩
  have s37 : Same P36 (upd P36 a37 (.lst ((([.non, .int 5, .str "row", .ref a1, .ref a2, .ref a5, .ref a7, .ref a9, .ref a11, .ref a13] : List V) ++ [.ref a16, .ref a18, .ref a20, .ref a22, .ref a24]) ++ [.ref a28, .ref a29, .ref a32, .ref a35]))) := Same.new (Same.refl _) h37 _
  have e37 : upd P36 a37 (.lst ((([.non, .int 5, .str "row", .ref a1, .ref a2, .ref a5, .ref a7, .ref a9, .ref a11, .ref a13] : List V) ++ [.ref a16, .ref a18, .ref a20, .ref a22, .ref a24]) ++ [.ref a28, .ref a29, .ref a32, .ref a35])) a37 = some (.lst ((([.non, .int 5, .str "row", .ref a1, .ref a2, .ref a5, .ref a7, .ref a9, .ref a11, .ref a13] : List V) ++ [.ref a16, .ref a18, .ref a20, .ref a22, .ref a24]) ++ [.ref a28, .ref a29, .ref a32, .ref a35])) := upd_same
  have n37 := (src_ne r36 h37).symm
  have r37 := src_new (o := .lst ((([.non, .int 5, .str "row", .ref a1, .ref a2, .ref a5, .ref a7, .ref a9, .ref a11, .ref a13] : List V) ++ [.ref a16, .ref a18, .ref a20, .ref a22, .ref a24]) ++ [.ref a28, .ref a29, .ref a32, .ref a35])) r36 h37
  generalize upd P36 a37 (.lst ((([.non, .int 5, .str "row", .ref a1, .ref a2, .ref a5, .ref a7, .ref a9, .ref a11, .ref a13] : List V) ++ [.ref a16, .ref a18, .ref a20, .ref a22, .ref a24]) ++ [.ref a28, .ref a29, .ref a32, .ref a35])) = P37 at s37 e37 r37 ⊢
  refine ⟨_, rfl, ?_⟩
  refine ⟨by show 2 ≤ sizeLine; decide, fun a38 h38 => ?_⟩
  have s38 : Same P37 (upd P37 a38 (.tup [.int 1, .int 1])) := Same.new (Same.refl _) h38 _
  have e38 : upd P37 a38 (.tup [.int 1, .int 1]) a38 = some (.tup [.int 1, .int 1]) := upd_same
  have n38 := (src_ne r37 h38).symm
  have r38 := src_new (o := .tup [.int 1, .int 1]) r37 h38
  generalize upd P37 a38 (.tup [.int 1, .int 1]) = P38 at s38 e38 r38 ⊢
  refine ⟨by show 2 ≤ sizeLine; decide, fun a39 h39 => ?_⟩
  have s39 : Same P38 (upd P38 a39 (.tup [.str "min", .ref a38])) := Same.new (Same.refl _) h39 _
  have e39 : upd P38 a39 (.tup [.str "min", .ref a38]) a39 = some (.tup [.str "min", .ref a38]) := upd_same
  have n39 := (src_ne r38 h39).symm
  have r39 := src_new (o := .tup [.str "min", .ref a38]) r38 h39
  generalize upd P38 a39 (.tup [.str "min", .ref a38]) = P39 at s39 e39 r39 ⊢
  refine ⟨by show 2 ≤ sizeLine; decide, fun a40 h40 => ?_⟩
  have s40 : Same P39 (upd P39 a40 (.tup [.int 2, .int 1])) := Same.new (Same.refl _) h40 _
  have e40 : upd P39 a40 (.tup [.int 2, .int 1]) a40 = some (.tup [.int 2, .int 1]) := upd_same
  have n40 := (src_ne r39 h40).symm
  have r40 := src_new (o := .tup [.int 2, .int 1]) r39 h40
  generalize upd P39 a40 (.tup [.int 2, .int 1]) = P40 at s40 e40 r40 ⊢
  refine ⟨by show 2 ≤ sizeLine; decide, fun a41 h41 => ?_⟩
  have s41 : Same P40 (upd P40 a41 (.tup [.str "min", .ref a40])) := Same.new (Same.refl _) h41 _
  have e41 : upd P40 a41 (.tup [.str "min", .ref a40]) a41 = some (.tup [.str "min", .ref a40]) := upd_same
  have n41 := (src_ne r40 h41).symm
  have r41 := src_new (o := .tup [.str "min", .ref a40]) r40 h41
  generalize upd P40 a41 (.tup [.str "min", .ref a40]) = P41 at s41 e41 r41 ⊢
  refine ⟨by show 2 ≤ sizeLine; decide, fun a42 h42 => ?_⟩
  have s42 : Same P41 (upd P41 a42 (.tup [.ref a39, .ref a41])) := Same.new (Same.refl _) h42 _
  have e42 : upd P41 a42 (.tup [.ref a39, .ref a41]) a42 = some (.tup [.ref a39, .ref a41]) := upd_same
  have n42 := (src_ne r41 h42).symm
  have r42 := src_new (o := .tup [.ref a39, .ref a41]) r41 h42
  generalize upd P41 a42 (.tup [.ref a39, .ref a41]) = P42 at s42 e42 r42 ⊢
  refine ⟨by show 3 ≤ sizeLine; decide, fun a43 h43 => ?_⟩
  have s43 : Same P42 (upd P42 a43 (.tup [.str "q", .str "", .ref a42])) := Same.new (Same.refl _) h43 _
  have e43 : upd P42 a43 (.tup [.str "q", .str "", .ref a42]) a43 = some (.tup [.str "q", .str "", .ref a42]) := upd_same
  have n43 := (src_ne r42 h43).symm
  have r43 := src_new (o := .tup [.str "q", .str "", .ref a42]) r42 h43
  generalize upd P42 a43 (.tup [.str "q", .str "", .ref a42]) = P43 at s43 e43 r43 ⊢
  refine ⟨by show 2 ≤ sizeLine; decide, fun a44 h44 => ?_⟩
  have s44 : Same P43 (upd P43 a44 (.tup [.int 1, .int 1])) := Same.new (Same.refl _) h44 _
  have e44 : upd P43 a44 (.tup [.int 1, .int 1]) a44 = some (.tup [.int 1, .int 1]) := upd_same
  have n44 := (src_ne r43 h44).symm
  have r44 := src_new (o := .tup [.int 1, .int 1]) r43 h44
  generalize upd P43 a44 (.tup [.int 1, .int 1]) = P44 at s44 e44 r44 ⊢
  refine ⟨by show 2 ≤ sizeLine; decide, fun a45 h45 => ?_⟩
  have s45 : Same P44 (upd P44 a45 (.tup [.int 5, .ref a44])) := Same.new (Same.refl _) h45 _
  have e45 : upd P44 a45 (.tup [.int 5, .ref a44]) a45 = some (.tup [.int 5, .ref a44]) := upd_same
  have n45 := (src_ne r44 h45).symm
  have r45 := src_new (o := .tup [.int 5, .ref a44]) r44 h45
  generalize upd P44 a45 (.tup [.int 5, .ref a44]) = P45 at s45 e45 r45 ⊢
  refine ⟨by show 1 ≤ sizeLine; decide, fun a46 h46 => ?_⟩
  have s46 : Same P45 (upd P45 a46 (.tup [.ref a45])) := Same.new (Same.refl _) h46 _
  have e46 : upd P45 a46 (.tup [.ref a45]) a46 = some (.tup [.ref a45]) := upd_same
  have n46 := (src_ne r45 h46).symm
  have r46 := src_new (o := .tup [.ref a45]) r45 h46
  generalize upd P45 a46 (.tup [.ref a45]) = P46 at s46 e46 r46 ⊢
  refine ⟨by show 3 ≤ sizeLine; decide, fun a47 h47 => ?_⟩
  have s47 : Same P46 (upd P46 a47 (.tup [.str "q", .str "", .ref a46])) := Same.new (Same.refl _) h47 _
  have e47 : upd P46 a47 (.tup [.str "q", .str "", .ref a46]) a47 = some (.tup [.str "q", .str "", .ref a46]) := upd_same
  have n47 := (src_ne r46 h47).symm
  have r47 := src_new (o := .tup [.str "q", .str "", .ref a46]) r46 h47
  generalize upd P46 a47 (.tup [.str "q", .str "", .ref a46]) = P47 at s47 e47 r47 ⊢
  refine ⟨by show 2 ≤ sizeLine; decide, fun a48 h48 => ?_⟩
  have s48 : Same P47 (upd P47 a48 (.lst [.ref a43, .ref a47])) := Same.new (Same.refl _) h48 _
  have e48 : upd P47 a48 (.lst [.ref a43, .ref a47]) a48 = some (.lst [.ref a43, .ref a47]) := upd_same
  have n48 := (src_ne r47 h48).symm
  have r48 := src_new (o := .lst [.ref a43, .ref a47]) r47 h48
  generalize upd P47 a48 (.lst [.ref a43, .ref a47]) = P48 at s48 e48 r48 ⊢
  refine ⟨a37, a48, _, _, rfl, rfl, (s48 _ _ (s47 _ _ (s46 _ _ (s45 _ _ (s44 _ _ (s43 _ _ (s42 _ _ (s41 _ _ (s40 _ _ (s39 _ _ (s38 _ _ e37))))))))))), e48, by show 19 + 2 ≤ sizeLine; decide, fun a49 h49 => ?_⟩
  have s49 : Same P48 (upd P48 a49 (.lst (((([.non, .int 5, .str "row", .ref a1, .ref a2, .ref a5, .ref a7, .ref a9, .ref a11, .ref a13] : List V) ++ [.ref a16, .ref a18, .ref a20, .ref a22, .ref a24]) ++ [.ref a28, .ref a29, .ref a32, .ref a35]) ++ [.ref a43, .ref a47]))) := Same.new (Same.refl _) h49 _
  have e49 : upd P48 a49 (.lst (((([.non, .int 5, .str "row", .ref a1, .ref a2, .ref a5, .ref a7, .ref a9, .ref a11, .ref a13] : List V) ++ [.ref a16, .ref a18, .ref a20, .ref a22, .ref a24]) ++ [.ref a28, .ref a29, .ref a32, .ref a35]) ++ [.ref a43, .ref a47])) a49 = some (.lst (((([.non, .int 5, .str "row", .ref a1, .ref a2, .ref a5, .ref a7, .ref a9, .ref a11, .ref a13] : List V) ++ [.ref a16, .ref a18, .ref a20, .ref a22, .ref a24]) ++ [.ref a28, .ref a29, .ref a32, .ref a35]) ++ [.ref a43, .ref a47])) := upd_same
  have n49 := (src_ne r48 h49).symm
  have r49 := src_new (o := .lst (((([.non, .int 5, .str "row", .ref a1, .ref a2, .ref a5, .ref a7, .ref a9, .ref a11, .ref a13] : List V) ++ [.ref a16, .ref a18, .ref a20, .ref a22, .ref a24]) ++ [.ref a28, .ref a29, .ref a32, .ref a35]) ++ [.ref a43, .ref a47])) r48 h49
  generalize upd P48 a49 (.lst (((([.non, .int 5, .str "row", .ref a1, .ref a2, .ref a5, .ref a7, .ref a9, .ref a11, .ref a13] : List V) ++ [.ref a16, .ref a18, .ref a20, .ref a22, .ref a24]) ++ [.ref a28, .ref a29, .ref a32, .ref a35]) ++ [.ref a43, .ref a47])) = P49 at s49 e49 r49 ⊢
  refine ⟨_, rfl, ?_⟩
  refine ⟨by show 2 ≤ sizeLine; decide, fun a50 h50 => ?_⟩
  have s50 : Same P49 (upd P49 a50 (.tup [.int 1, .int 1])) := Same.new (Same.refl _) h50 _
  have e50 : upd P49 a50 (.tup [.int 1, .int 1]) a50 = some (.tup [.int 1, .int 1]) := upd_same
  have n50 := (src_ne r49 h50).symm
  have r50 := src_new (o := .tup [.int 1, .int 1]) r49 h50
  generalize upd P49 a50 (.tup [.int 1, .int 1]) = P50 at s50 e50 r50 ⊢
  refine ⟨by show 2 ≤ sizeLine; decide, fun a51 h51 => ?_⟩
  have s51 : Same P50 (upd P50 a51 (.lst [.str "min", .ref a50])) := Same.new (Same.refl _) h51 _
  have e51 : upd P50 a51 (.lst [.str "min", .ref a50]) a51 = some (.lst [.str "min", .ref a50]) := upd_same
  have n51 := (src_ne r50 h51).symm
  have r51 := src_new (o := .lst [.str "min", .ref a50]) r50 h51
  generalize upd P50 a51 (.lst [.str "min", .ref a50]) = P51 at s51 e51 r51 ⊢
  refine ⟨by show 1 ≤ sizeLine; decide, fun a52 h52 => ?_⟩
  have s52 : Same P51 (upd P51 a52 (.tup [.ref a51])) := Same.new (Same.refl _) h52 _
  have e52 : upd P51 a52 (.tup [.ref a51]) a52 = some (.tup [.ref a51]) := upd_same
  have n52 := (src_ne r51 h52).symm
  have r52 := src_new (o := .tup [.ref a51]) r51 h52
  generalize upd P51 a52 (.tup [.ref a51]) = P52 at s52 e52 r52 ⊢
  refine ⟨by show 3 ≤ sizeLine; decide, fun a53 h53 => ?_⟩
  have s53 : Same P52 (upd P52 a53 (.tup [.str "q", .str "", .ref a52])) := Same.new (Same.refl _) h53 _
  have e53 : upd P52 a53 (.tup [.str "q", .str "", .ref a52]) a53 = some (.tup [.str "q", .str "", .ref a52]) := upd_same
  have n53 := (src_ne r52 h53).symm
  have r53 := src_new (o := .tup [.str "q", .str "", .ref a52]) r52 h53
  generalize upd P52 a53 (.tup [.str "q", .str "", .ref a52]) = P53 at s53 e53 r53 ⊢
  refine ⟨by show 2 ≤ sizeLine; decide, fun a54 h54 => ?_⟩
  have s54 : Same P53 (upd P53 a54 (.tup [.int 1, .int 1])) := Same.new (Same.refl _) h54 _
  have e54 : upd P53 a54 (.tup [.int 1, .int 1]) a54 = some (.tup [.int 1, .int 1]) := upd_same
  have n54 := (src_ne r53 h54).symm
  have r54 := src_new (o := .tup [.int 1, .int 1]) r53 h54
  generalize upd P53 a54 (.tup [.int 1, .int 1]) = P54 at s54 e54 r54 ⊢
  refine ⟨by show 2 ≤ sizeLine; decide, fun a55 h55 => ?_⟩
  have s55 : Same P54 (upd P54 a55 (.tup [.str "size", .ref a54])) := Same.new (Same.refl _) h55 _
  have e55 : upd P54 a55 (.tup [.str "size", .ref a54]) a55 = some (.tup [.str "size", .ref a54]) := upd_same
  have n55 := (src_ne r54 h55).symm
  have r55 := src_new (o := .tup [.str "size", .ref a54]) r54 h55
  generalize upd P54 a55 (.tup [.str "size", .ref a54]) = P55 at s55 e55 r55 ⊢
  refine ⟨by show 1 ≤ sizeLine; decide, fun a56 h56 => ?_⟩
  have s56 : Same P55 (upd P55 a56 (.tup [.ref a55])) := Same.new (Same.refl _) h56 _
  have e56 : upd P55 a56 (.tup [.ref a55]) a56 = some (.tup [.ref a55]) := upd_same
  have n56 := (src_ne r55 h56).symm
  have r56 := src_new (o := .tup [.ref a55]) r55 h56
  generalize upd P55 a56 (.tup [.ref a55]) = P56 at s56 e56 r56 ⊢
  refine ⟨by show 3 ≤ sizeLine; decide, fun a57 h57 => ?_⟩
  have s57 : Same P56 (upd P56 a57 (.tup [.str "q", .str "", .ref a56])) := Same.new (Same.refl _) h57 _
  have e57 : upd P56 a57 (.tup [.str "q", .str "", .ref a56]) a57 = some (.tup [.str "q", .str "", .ref a56]) := upd_same
  have n57 := (src_ne r56 h57).symm
  have r57 := src_new (o := .tup [.str "q", .str "", .ref a56]) r56 h57
  generalize upd P56 a57 (.tup [.str "q", .str "", .ref a56]) = P57 at s57 e57 r57 ⊢
  refine ⟨by show 2 ≤ sizeLine; decide, fun a58 h58 => ?_⟩
  have s58 : Same P57 (upd P57 a58 (.lst [.ref a53, .ref a57])) := Same.new (Same.refl _) h58 _
  have e58 : upd P57 a58 (.lst [.ref a53, .ref a57]) a58 = some (.lst [.ref a53, .ref a57]) := upd_same
  have n58 := (src_ne r57 h58).symm
  have r58 := src_new (o := .lst [.ref a53, .ref a57]) r57 h58
  generalize upd P57 a58 (.lst [.ref a53, .ref a57]) = P58 at s58 e58 r58 ⊢
  refine ⟨a49, a58, _, _, rfl, rfl, (s58 _ _ (s57 _ _ (s56 _ _ (s55 _ _ (s54 _ _ (s53 _ _ (s52 _ _ (s51 _ _ (s50 _ _ e49))))))))), e58, by show 21 + 2 ≤ sizeLine; decide, fun a59 h59 => ?_⟩
  have s59 : Same P58 (upd P58 a59 (.lst ((((([.non, .int 5, .str "row", .ref a1, .ref a2, .ref a5, .ref a7, .ref a9, .ref a11, .ref a13] : List V) ++ [.ref a16, .ref a18, .ref a20, .ref a22, .ref a24]) ++ [.ref a28, .ref a29, .ref a32, .ref a35]) ++ [.ref a43, .ref a47]) ++ [.ref a53, .ref a57]))) := Same.new (Same.refl _) h59 _
  have e59 : upd P58 a59 (.lst ((((([.non, .int 5, .str "row", .ref a1, .ref a2, .ref a5, .ref a7, .ref a9, .ref a11, .ref a13] : List V) ++ [.ref a16, .ref a18, .ref a20, .ref a22, .ref a24]) ++ [.ref a28, .ref a29, .ref a32, .ref a35]) ++ [.ref a43, .ref a47]) ++ [.ref a53, .ref a57])) a59 = some (.lst ((((([.non, .int 5, .str "row", .ref a1, .ref a2, .ref a5, .ref a7, .ref a9, .ref a11, .ref a13] : List V) ++ [.ref a16, .ref a18, .ref a20, .ref a22, .ref a24]) ++ [.ref a28, .ref a29, .ref a32, .ref a35]) ++ [.ref a43, .ref a47]) ++ [.ref a53, .ref a57])) := upd_same
  have n59 := (src_ne r58 h59).symm
  have r59 := src_new (o := .lst ((((([.non, .int 5, .str "row", .ref a1, .ref a2, .ref a5, .ref a7, .ref a9, .ref a11, .ref a13] : List V) ++ [.ref a16, .ref a18, .ref a20, .ref a22, .ref a24]) ++ [.ref a28, .ref a29, .ref a32, .ref a35]) ++ [.ref a43, .ref a47]) ++ [.ref a53, .ref a57])) r58 h59
  generalize upd P58 a59 (.lst ((((([.non, .int 5, .str "row", .ref a1, .ref a2, .ref a5, .ref a7, .ref a9, .ref a11, .ref a13] : List V) ++ [.ref a16, .ref a18, .ref a20, .ref a22, .ref a24]) ++ [.ref a28, .ref a29, .ref a32, .ref a35]) ++ [.ref a43, .ref a47]) ++ [.ref a53, .ref a57])) = P59 at s59 e59 r59 ⊢
  refine ⟨(fun σ G => ∃ (ls : List V) (l : Addr), σ = [some (.ref s), some (.ref ah), none, none, some (.ref l), none] ∧ G l = some (.lst ls) ∧ l ≠ s ∧ 1 ≤ ls.length ∧ ls.length ≤ 30 ∧ Src G s ∧ Same H0 G ∧ ∀ v ∈ ls, ∀ H2, Src H2 s → Kept s G H2 → BadIn K H2 rows v), ?_, ?_⟩
  rotate_left
  · rintro σ G ⟨ls, l, rfl, el, nl, l1, l30, srcG, sG, hls⟩
    have eG := sG _ _ eah0
    refine ⟨_, rfl, _, rfl, _, rfl, _, rfl, ah, _, rfl, SqL.of eG, fun b1 g1 => ?_⟩
    have x1 : Same G (upd G b1 (.lst (cutV ((nms rows).map V.str) none (some 1)))) := Same.new (Same.refl _) g1 _
    have y1 : upd G b1 (.lst (cutV ((nms rows).map V.str) none (some 1))) b1 = some (.lst (cutV ((nms rows).map V.str) none (some 1))) := upd_same
    have z1 := src_new (o := .lst (cutV ((nms rows).map V.str) none (some 1))) srcG g1
    generalize upd G b1 (.lst (cutV ((nms rows).map V.str) none (some 1))) = G1 at x1 y1 z1 ⊢
    refine ⟨_, rfl, _, rfl, _, rfl, ah, _, rfl, SqL.of (x1 _ _ eG), fun b2 g2 => ?_⟩
    have x2 : Same G1 (upd G1 b2 (.lst (cutV ((nms rows).map V.str) (some (-1)) none))) := Same.new (Same.refl _) g2 _
    have y2 : upd G1 b2 (.lst (cutV ((nms rows).map V.str) (some (-1)) none)) b2 = some (.lst (cutV ((nms rows).map V.str) (some (-1)) none)) := upd_same
    have z2 := src_new (o := .lst (cutV ((nms rows).map V.str) (some (-1)) none)) z1 g2
    generalize upd G1 b2 (.lst (cutV ((nms rows).map V.str) (some (-1)) none)) = G2 at x2 y2 z2 ⊢
    have cl : ∀ lo hi, (cutV ((nms rows).map V.str) lo hi).length ≤ 12 := fun lo hi => by
      have h1 := cutV_length ((nms rows).map V.str) lo hi
      have h2 : ((nms rows).map V.str).length ≤ 12 := by
        rw [List.length_map]
        unfold nms
        rw [List.length_map]
        exact len
      omega
    have cm : ∀ lo hi, ∀ v ∈ cutV ((nms rows).map V.str) lo hi, ∃ r ∈ rows, v = .str r.name := fun lo hi v hv => by
      unfold cutV at hv
      have h1 := List.mem_of_mem_drop (List.mem_of_mem_take hv)
      obtain ⟨y, hy, rfl⟩ := List.mem_map.mp h1
      obtain ⟨r, hr, rfl⟩ := List.mem_map.mp hy
      exact ⟨r, hr, rfl⟩
    have c1 := cl none (some 1)
    have c2 := cl (some (-1)) none
    refine ⟨b1, b2, _, _, rfl, rfl, x2 _ _ y1, y2, Nat.le_of_lt (small1000 (by omega)), fun b3 g3 => ?_⟩
    have hns : ∀ v ∈ cutV ((nms rows).map V.str) none (some 1) ++ cutV ((nms rows).map V.str) (some (-1)) none, ∃ r ∈ rows, v = .str r.name := fun v hv => by
      rcases List.mem_append.mp hv with h | h
      · exact cm _ _ v h
      · exact cm _ _ v h
    have nl2 : (cutV ((nms rows).map V.str) none (some 1) ++ cutV ((nms rows).map V.str) (some (-1)) none).length ≤ 24 := by
      rw [List.length_append]
      omega
    generalize cutV ((nms rows).map V.str) none (some 1) ++ cutV ((nms rows).map V.str) (some (-1)) none = ns at hns nl2 ⊢
    have x3 : Same G2 (upd G2 b3 (.lst ns)) := Same.new (Same.refl _) g3 _
    have y3 : upd G2 b3 (.lst ns) b3 = some (.lst ns) := upd_same
    have z3 := src_new (o := .lst ns) z2 g3
    generalize upd G2 b3 (.lst ns) = G3 at x3 y3 z3 ⊢
    have X3 := (x1.trans x2).trans x3
    refine ⟨b3, rfl, ⟨_, SqL.of y3⟩, fun D hD => ?_⟩
    have nD := (src_ne z3 hD).symm
    refine lc_list (K := K) (a := b3) (xs := ns) (fun j G => ∃ vs : List V, G D = some (.lst vs) ∧ vs.length = j ∧ (∀ v ∈ vs, ∃ r ∈ rows, RowAt K G v ⟨r.name, "", []⟩) ∧ Same G3 G) ⟨[], upd_same, rfl, (fun _ h => by cases h), Same.new (Same.refl _) hD _⟩ ?_ ?_ ?_
    · rintro j G _ ⟨vs, _, _, _, sG⟩
      exact SqL.of (sG _ _ y3)
    · rintro j v G4 hj ⟨vs, eD, vl, hvs, s4⟩
      obtain ⟨r, hr1, rfl⟩ := hns v (List.mem_of_getElem? hj)
      have j24 : j < ns.length := (List.getElem?_eq_some_iff.mp hj).1
      refine ⟨rfl, ?_⟩
      unfold tYes
      refine iteT ?_
      refine ⟨_, rfl, Nat.zero_le _, fun t o ht ho => ⟨by show 3 ≤ sizeLine; decide, fun ra hra => ?_⟩⟩
      have w1 : Same G4 (upd G4 t (.frz o (.tup []))) := Same.new (Same.refl _) ht _
      have w2 : upd G4 t (.frz o (.tup [])) t = some (.frz o (.tup [])) := upd_same
      generalize upd G4 t (.frz o (.tup [])) = G5 at hra w1 w2 ⊢
      have w3 : Same G5 (upd G5 ra (.tup [.str r.name, .str "", .ref t])) := Same.new (Same.refl _) hra _
      have w4 : upd G5 ra (.tup [.str r.name, .str "", .ref t]) ra = some (.tup [.str r.name, .str "", .ref t]) := upd_same
      generalize upd G5 ra (.tup [.str r.name, .str "", .ref t]) = G6 at w3 w4 ⊢
      have eD6 := w3 _ _ (w1 _ _ eD)
      have tk6 : TK G4 (upd G6 D (.lst (vs ++ [.ref ra]))) := (TK.of (w1.trans w3)).trans (TK.lst eD6 _)
      have dn : DuesOk [] := ⟨List.nodup_nil, fun _ h => by cases h⟩
      refine ⟨vs, eD6, small1000 (by omega), vs ++ [.ref ra], upd_same, by rw [List.length_append, vl]; rfl, fun v hv => ?_, ?_⟩
      · rcases List.mem_append.mp hv with h | h
        · obtain ⟨r2, hr2, z⟩ := hvs v h
          exact ⟨r2, hr2, tk6.row dn z⟩
        · cases List.mem_singleton.mp h
          refine ⟨r, hr1, ra, t, rfl, SqT.of ((upd_ne (ne_of w4 eD6 (by intro z; cases z))).trans w4), [], ⟨o, ho, ?_⟩, .nil⟩
          have f := w3 _ _ w2
          exact (upd_ne (ne_of f eD6 (by intro z; cases z))).trans f
      · exact Same.ch ((s4.trans w1).trans w3) hD _
    rintro G4 ⟨vs, eD, vl, hvs, s4⟩
    have X4 := X3.trans s4
    have src4 : Src G4 s := let ⟨a, b, c, e⟩ := srcG; ⟨a, b, c, X4 _ _ e⟩
    refine ⟨l, D, _, _, rfl, rfl, X4 _ _ el, eD, Nat.le_of_lt (small1000 (by omega)), fun b4 g4 => ?_⟩
    have x5 : Same G4 (upd G4 b4 (.lst (ls ++ vs))) := Same.new (Same.refl _) g4 _
    refine ⟨s, b4, _, rfl, src_new (o := .lst (ls ++ vs)) src4 g4, SqL.of upd_same, (src_ne src4 g4).symm, ?_, ?_, fun v H2 hv src2 k2 => ?_⟩
    · intro z
      have := congrArg List.length z
      rw [List.length_append, List.length_nil] at this
      omega
    · rw [List.length_append]
      omega
    · have X5 := X4.trans x5
      have kG : Kept s G H2 := (Kept.of X5).trans k2
      refine kq v H2 ?_ src2 ((Kept.of (sG.trans X5)).trans k2)
      rcases List.mem_append.mp hv with h | h
      · exact hls v h H2 src2 kG
      · obtain ⟨r, hr1, z⟩ := hvs v h
        have dn : DuesOk [] := ⟨List.nodup_nil, fun _ h => by cases h⟩
        have tk : TK G4 H2 := let ⟨_, _, _, z⟩ := src4; TK.kept z ((Kept.of x5).trans k2)
        exact .inr ⟨⟨r.name, "", []⟩, tk.row dn z, name_ok ok (List.mem_map.mpr ⟨r, hr1, rfl⟩), dn, .inl ⟨r, hr1, rfl⟩⟩
  refine ⟨_, rfl, ?_⟩
  refine ⟨by show 1 ≤ sizeLine; decide, fun a60 h60 => ?_⟩
  have s60 : Same P59 (upd P59 a60 (.lst [.str "a"])) := Same.new (Same.refl _) h60 _
  have e60 : upd P59 a60 (.lst [.str "a"]) a60 = some (.lst [.str "a"]) := upd_same
  have n60 := (src_ne r59 h60).symm
  have r60 := src_new (o := .lst [.str "a"]) r59 h60
  generalize upd P59 a60 (.lst [.str "a"]) = P60 at s60 e60 r60 ⊢
  refine ⟨Nat.zero_le _, fun a61 o61 h61 ho61 => ?_⟩
  have s61 : Same P60 (upd P60 a61 (.frz o61 (.tup []))) := Same.new (Same.refl _) h61 _
  have e61 : upd P60 a61 (.frz o61 (.tup [])) a61 = some (.frz o61 (.tup [])) := upd_same
  have n61 := (src_ne r60 h61).symm
  have r61 := src_new (o := .frz o61 (.tup [])) r60 h61
  generalize upd P60 a61 (.frz o61 (.tup [])) = P61 at s61 e61 r61 ⊢
  refine ⟨by show 3 ≤ sizeLine; decide, fun a62 h62 => ?_⟩
  have s62 : Same P61 (upd P61 a62 (.tup [.str "q", .ref a60, .ref a61])) := Same.new (Same.refl _) h62 _
  have e62 : upd P61 a62 (.tup [.str "q", .ref a60, .ref a61]) a62 = some (.tup [.str "q", .ref a60, .ref a61]) := upd_same
  have n62 := (src_ne r61 h62).symm
  have r62 := src_new (o := .tup [.str "q", .ref a60, .ref a61]) r61 h62
  generalize upd P61 a62 (.tup [.str "q", .ref a60, .ref a61]) = P62 at s62 e62 r62 ⊢
  refine ⟨by show 1 ≤ sizeLine; decide, fun a63 h63 => ?_⟩
  have s63 : Same P62 (upd P62 a63 (.lst [.str "min"])) := Same.new (Same.refl _) h63 _
  have e63 : upd P62 a63 (.lst [.str "min"]) a63 = some (.lst [.str "min"]) := upd_same
  have n63 := (src_ne r62 h63).symm
  have r63 := src_new (o := .lst [.str "min"]) r62 h63
  generalize upd P62 a63 (.lst [.str "min"]) = P63 at s63 e63 r63 ⊢
  refine ⟨by show 2 ≤ sizeLine; decide, fun a64 h64 => ?_⟩
  have s64 : Same P63 (upd P63 a64 (.tup [.int 1, .int 1])) := Same.new (Same.refl _) h64 _
  have e64 : upd P63 a64 (.tup [.int 1, .int 1]) a64 = some (.tup [.int 1, .int 1]) := upd_same
  have n64 := (src_ne r63 h64).symm
  have r64 := src_new (o := .tup [.int 1, .int 1]) r63 h64
  generalize upd P63 a64 (.tup [.int 1, .int 1]) = P64 at s64 e64 r64 ⊢
  refine ⟨by show 2 ≤ sizeLine; decide, fun a65 h65 => ?_⟩
  have s65 : Same P64 (upd P64 a65 (.tup [.ref a63, .ref a64])) := Same.new (Same.refl _) h65 _
  have e65 : upd P64 a65 (.tup [.ref a63, .ref a64]) a65 = some (.tup [.ref a63, .ref a64]) := upd_same
  have n65 := (src_ne r64 h65).symm
  have r65 := src_new (o := .tup [.ref a63, .ref a64]) r64 h65
  generalize upd P64 a65 (.tup [.ref a63, .ref a64]) = P65 at s65 e65 r65 ⊢
  refine ⟨by show 1 ≤ sizeLine; decide, fun a66 h66 => ?_⟩
  have s66 : Same P65 (upd P65 a66 (.tup [.ref a65])) := Same.new (Same.refl _) h66 _
  have e66 : upd P65 a66 (.tup [.ref a65]) a66 = some (.tup [.ref a65]) := upd_same
  have n66 := (src_ne r65 h66).symm
  have r66 := src_new (o := .tup [.ref a65]) r65 h66
  generalize upd P65 a66 (.tup [.ref a65]) = P66 at s66 e66 r66 ⊢
  refine ⟨by show 3 ≤ sizeLine; decide, fun a67 h67 => ?_⟩
  have s67 : Same P66 (upd P66 a67 (.tup [.str "q", .str "", .ref a66])) := Same.new (Same.refl _) h67 _
  have e67 : upd P66 a67 (.tup [.str "q", .str "", .ref a66]) a67 = some (.tup [.str "q", .str "", .ref a66]) := upd_same
  have n67 := (src_ne r66 h67).symm
  have r67 := src_new (o := .tup [.str "q", .str "", .ref a66]) r66 h67
  generalize upd P66 a67 (.tup [.str "q", .str "", .ref a66]) = P67 at s67 e67 r67 ⊢
  refine ⟨by show 2 ≤ sizeLine; decide, fun a68 h68 => ?_⟩
  have s68 : Same P67 (upd P67 a68 (.tup [.int 1, .int 1])) := Same.new (Same.refl _) h68 _
  have e68 : upd P67 a68 (.tup [.int 1, .int 1]) a68 = some (.tup [.int 1, .int 1]) := upd_same
  have n68 := (src_ne r67 h68).symm
  have r68 := src_new (o := .tup [.int 1, .int 1]) r67 h68
  generalize upd P67 a68 (.tup [.int 1, .int 1]) = P68 at s68 e68 r68 ⊢
  refine ⟨by show 3 ≤ sizeLine; decide, fun a69 h69 => ?_⟩
  have s69 : Same P68 (upd P68 a69 (.tup [.str "low", .ref a68, .int 1])) := Same.new (Same.refl _) h69 _
  have e69 : upd P68 a69 (.tup [.str "low", .ref a68, .int 1]) a69 = some (.tup [.str "low", .ref a68, .int 1]) := upd_same
  have n69 := (src_ne r68 h69).symm
  have r69 := src_new (o := .tup [.str "low", .ref a68, .int 1]) r68 h69
  generalize upd P68 a69 (.tup [.str "low", .ref a68, .int 1]) = P69 at s69 e69 r69 ⊢
  refine ⟨by show 1 ≤ sizeLine; decide, fun a70 h70 => ?_⟩
  have s70 : Same P69 (upd P69 a70 (.tup [.ref a69])) := Same.new (Same.refl _) h70 _
  have e70 : upd P69 a70 (.tup [.ref a69]) a70 = some (.tup [.ref a69]) := upd_same
  have n70 := (src_ne r69 h70).symm
  have r70 := src_new (o := .tup [.ref a69]) r69 h70
  generalize upd P69 a70 (.tup [.ref a69]) = P70 at s70 e70 r70 ⊢
  refine ⟨by show 3 ≤ sizeLine; decide, fun a71 h71 => ?_⟩
  have s71 : Same P70 (upd P70 a71 (.tup [.str "q", .str "", .ref a70])) := Same.new (Same.refl _) h71 _
  have e71 : upd P70 a71 (.tup [.str "q", .str "", .ref a70]) a71 = some (.tup [.str "q", .str "", .ref a70]) := upd_same
  have n71 := (src_ne r70 h71).symm
  have r71 := src_new (o := .tup [.str "q", .str "", .ref a70]) r70 h71
  generalize upd P70 a71 (.tup [.str "q", .str "", .ref a70]) = P71 at s71 e71 r71 ⊢
  refine ⟨by show 3 ≤ sizeLine; decide, fun a72 h72 => ?_⟩
  have s72 : Same P71 (upd P71 a72 (.lst [.ref a62, .ref a67, .ref a71])) := Same.new (Same.refl _) h72 _
  have e72 : upd P71 a72 (.lst [.ref a62, .ref a67, .ref a71]) a72 = some (.lst [.ref a62, .ref a67, .ref a71]) := upd_same
  have n72 := (src_ne r71 h72).symm
  have r72 := src_new (o := .lst [.ref a62, .ref a67, .ref a71]) r71 h72
  generalize upd P71 a72 (.lst [.ref a62, .ref a67, .ref a71]) = P72 at s72 e72 r72 ⊢
  refine ⟨a59, a72, _, _, rfl, rfl, (s72 _ _ (s71 _ _ (s70 _ _ (s69 _ _ (s68 _ _ (s67 _ _ (s66 _ _ (s65 _ _ (s64 _ _ (s63 _ _ (s62 _ _ (s61 _ _ (s60 _ _ e59))))))))))))), e72, by show 23 + 3 ≤ sizeLine; decide, fun a73 h73 => ?_⟩
  have s73 : Same P72 (upd P72 a73 (.lst (((((([.non, .int 5, .str "row", .ref a1, .ref a2, .ref a5, .ref a7, .ref a9, .ref a11, .ref a13] : List V) ++ [.ref a16, .ref a18, .ref a20, .ref a22, .ref a24]) ++ [.ref a28, .ref a29, .ref a32, .ref a35]) ++ [.ref a43, .ref a47]) ++ [.ref a53, .ref a57]) ++ [.ref a62, .ref a67, .ref a71]))) := Same.new (Same.refl _) h73 _
  have e73 : upd P72 a73 (.lst (((((([.non, .int 5, .str "row", .ref a1, .ref a2, .ref a5, .ref a7, .ref a9, .ref a11, .ref a13] : List V) ++ [.ref a16, .ref a18, .ref a20, .ref a22, .ref a24]) ++ [.ref a28, .ref a29, .ref a32, .ref a35]) ++ [.ref a43, .ref a47]) ++ [.ref a53, .ref a57]) ++ [.ref a62, .ref a67, .ref a71])) a73 = some (.lst (((((([.non, .int 5, .str "row", .ref a1, .ref a2, .ref a5, .ref a7, .ref a9, .ref a11, .ref a13] : List V) ++ [.ref a16, .ref a18, .ref a20, .ref a22, .ref a24]) ++ [.ref a28, .ref a29, .ref a32, .ref a35]) ++ [.ref a43, .ref a47]) ++ [.ref a53, .ref a57]) ++ [.ref a62, .ref a67, .ref a71])) := upd_same
  have n73 := (src_ne r72 h73).symm
  have r73 := src_new (o := .lst (((((([.non, .int 5, .str "row", .ref a1, .ref a2, .ref a5, .ref a7, .ref a9, .ref a11, .ref a13] : List V) ++ [.ref a16, .ref a18, .ref a20, .ref a22, .ref a24]) ++ [.ref a28, .ref a29, .ref a32, .ref a35]) ++ [.ref a43, .ref a47]) ++ [.ref a53, .ref a57]) ++ [.ref a62, .ref a67, .ref a71])) r72 h73
  generalize upd P72 a73 (.lst (((((([.non, .int 5, .str "row", .ref a1, .ref a2, .ref a5, .ref a7, .ref a9, .ref a11, .ref a13] : List V) ++ [.ref a16, .ref a18, .ref a20, .ref a22, .ref a24]) ++ [.ref a28, .ref a29, .ref a32, .ref a35]) ++ [.ref a43, .ref a47]) ++ [.ref a53, .ref a57]) ++ [.ref a62, .ref a67, .ref a71])) = P73 at s73 e73 r73 ⊢
  have t73 : Same P73 P73 := Same.refl _
  have t72 := s73.trans t73
  have t71 := s72.trans t72
  have t70 := s71.trans t71
  have t69 := s70.trans t70
  have t68 := s69.trans t69
  have t67 := s68.trans t68
  have t66 := s67.trans t67
  have t65 := s66.trans t66
  have t64 := s65.trans t65
  have t63 := s64.trans t64
  have t62 := s63.trans t63
  have t61 := s62.trans t62
  have t60 := s61.trans t61
  have t59 := s60.trans t60
  have t58 := s59.trans t59
  have t57 := s58.trans t58
  have t56 := s57.trans t57
  have t55 := s56.trans t56
  have t54 := s55.trans t55
  have t53 := s54.trans t54
  have t52 := s53.trans t53
  have t51 := s52.trans t52
  have t50 := s51.trans t51
  have t49 := s50.trans t50
  have t48 := s49.trans t49
  have t47 := s48.trans t48
  have t46 := s47.trans t47
  have t45 := s46.trans t46
  have t44 := s45.trans t45
  have t43 := s44.trans t44
  have t42 := s43.trans t43
  have t41 := s42.trans t42
  have t40 := s41.trans t41
  have t39 := s40.trans t40
  have t38 := s39.trans t39
  have t37 := s38.trans t38
  have t36 := s37.trans t37
  have t35 := s36.trans t36
  have t34 := s35.trans t35
  have t33 := s34.trans t34
  have t32 := s33.trans t33
  have t31 := s32.trans t32
  have t30 := s31.trans t31
  have t29 := s30.trans t30
  have t28 := s29.trans t29
  have t27 := s28.trans t28
  have t26 := s27.trans t27
  have t25 := s26.trans t26
  have t24 := s25.trans t25
  have t23 := s24.trans t24
  have t22 := s23.trans t23
  have t21 := s22.trans t22
  have t20 := s21.trans t21
  have t19 := s20.trans t20
  have t18 := s19.trans t19
  have t17 := s18.trans t18
  have t16 := s17.trans t17
  have t15 := s16.trans t16
  have t14 := s15.trans t15
  have t13 := s14.trans t14
  have t12 := s13.trans t13
  have t11 := s12.trans t12
  have t10 := s11.trans t11
  have t9 := s10.trans t10
  have t8 := s9.trans t9
  have t7 := s8.trans t8
  have t6 := s7.trans t7
  have t5 := s6.trans t6
  have t4 := s5.trans t5
  have t3 := s4.trans t4
  have t2 := s3.trans t3
  have t1 := s2.trans t2
  have tA : Same H0 P73 := s1.trans t1
  refine ⟨_, a73, rfl, t73 _ _ e73, n73, (by show 1 ≤ 26; decide), (by show 26 ≤ 30; decide), r73, tA, fun v hv H2 _ k2 => ?_⟩
  have f1 := k2 _ _ n1 (t1 _ _ e1)
  have f2 := k2 _ _ n2 (t2 _ _ e2)
  have f3 := k2 _ _ n3 (t3 _ _ e3)
  have f4 := k2 _ _ n4 (t4 _ _ e4)
  have f5 := k2 _ _ n5 (t5 _ _ e5)
  have f6 := k2 _ _ n6 (t6 _ _ e6)
  have f7 := k2 _ _ n7 (t7 _ _ e7)
  have f8 := k2 _ _ n8 (t8 _ _ e8)
  have f9 := k2 _ _ n9 (t9 _ _ e9)
  have f10 := k2 _ _ n10 (t10 _ _ e10)
  have f11 := k2 _ _ n11 (t11 _ _ e11)
  have f12 := k2 _ _ n12 (t12 _ _ e12)
  have f13 := k2 _ _ n13 (t13 _ _ e13)
  have f15 := k2 _ _ n15 (t15 _ _ e15)
  have f16 := k2 _ _ n16 (t16 _ _ e16)
  have f17 := k2 _ _ n17 (t17 _ _ e17)
  have f18 := k2 _ _ n18 (t18 _ _ e18)
  have f19 := k2 _ _ n19 (t19 _ _ e19)
  have f20 := k2 _ _ n20 (t20 _ _ e20)
  have f21 := k2 _ _ n21 (t21 _ _ e21)
  have f22 := k2 _ _ n22 (t22 _ _ e22)
  have f23 := k2 _ _ n23 (t23 _ _ e23)
  have f24 := k2 _ _ n24 (t24 _ _ e24)
  have f27 := k2 _ _ n27 (t27 _ _ e27)
  have f28 := k2 _ _ n28 (t28 _ _ e28)
  have f29 := k2 _ _ n29 (t29 _ _ e29)
  have f30 := k2 _ _ n30 (t30 _ _ e30)
  have f31 := k2 _ _ n31 (t31 _ _ e31)
  have f32 := k2 _ _ n32 (t32 _ _ e32)
  have f33 := k2 _ _ n33 (t33 _ _ e33)
  have f34 := k2 _ _ n34 (t34 _ _ e34)
  have f35 := k2 _ _ n35 (t35 _ _ e35)
  have f38 := k2 _ _ n38 (t38 _ _ e38)
  have f39 := k2 _ _ n39 (t39 _ _ e39)
  have f40 := k2 _ _ n40 (t40 _ _ e40)
  have f41 := k2 _ _ n41 (t41 _ _ e41)
  have f42 := k2 _ _ n42 (t42 _ _ e42)
  have f43 := k2 _ _ n43 (t43 _ _ e43)
  have f44 := k2 _ _ n44 (t44 _ _ e44)
  have f45 := k2 _ _ n45 (t45 _ _ e45)
  have f46 := k2 _ _ n46 (t46 _ _ e46)
  have f47 := k2 _ _ n47 (t47 _ _ e47)
  have f50 := k2 _ _ n50 (t50 _ _ e50)
  have f51 := k2 _ _ n51 (t51 _ _ e51)
  have f52 := k2 _ _ n52 (t52 _ _ e52)
  have f53 := k2 _ _ n53 (t53 _ _ e53)
  have f54 := k2 _ _ n54 (t54 _ _ e54)
  have f55 := k2 _ _ n55 (t55 _ _ e55)
  have f56 := k2 _ _ n56 (t56 _ _ e56)
  have f57 := k2 _ _ n57 (t57 _ _ e57)
  have f60 := k2 _ _ n60 (t60 _ _ e60)
  have f61 := k2 _ _ n61 (t61 _ _ e61)
  have f62 := k2 _ _ n62 (t62 _ _ e62)
  have f63 := k2 _ _ n63 (t63 _ _ e63)
  have f64 := k2 _ _ n64 (t64 _ _ e64)
  have f65 := k2 _ _ n65 (t65 _ _ e65)
  have f66 := k2 _ _ n66 (t66 _ _ e66)
  have f67 := k2 _ _ n67 (t67 _ _ e67)
  have f68 := k2 _ _ n68 (t68 _ _ e68)
  have f69 := k2 _ _ n69 (t69 _ _ e69)
  have f70 := k2 _ _ n70 (t70 _ _ e70)
  have f71 := k2 _ _ n71 (t71 _ _ e71)
  replace hv : v ∈ [(.non : V), .int 5, .str "row", .ref a1, .ref a2, .ref a5, .ref a7, .ref a9, .ref a11, .ref a13, .ref a16, .ref a18, .ref a20, .ref a22, .ref a24, .ref a28, .ref a29, .ref a32, .ref a35, .ref a43, .ref a47, .ref a53, .ref a57, .ref a62, .ref a67, .ref a71] := hv
  simp only [List.mem_cons, List.not_mem_nil, or_false] at hv
  rcases hv with rfl | rfl | rfl | rfl | rfl | rfl | rfl | rfl | rfl | rfl | rfl | rfl | rfl | rfl | rfl | rfl | rfl | rfl | rfl | rfl | rfl | rfl | rfl | rfl | rfl | rfl
  · exact .inl (.ty (.base .non) (by decide +kernel))
  · exact .inl (.ty (.base (.int _)) (by decide +kernel))
  · exact .inl (.ty (.base (.str _)) (by decide +kernel))
  · exact .inl (.ty (.base (.lst f1)) (by decide +kernel))
  · exact .inl (.len (SqT.of f2) (by show 2 ≠ 3; decide))
  · exact .inl (.len (SqT.of f5) (by show 4 ≠ 3; decide))
  · exact .inl (.ty (.base (.lst f7)) (by decide +kernel))
  · exact .inl (.name (SqT.of f9) (.ty (.base (.int _)) (by decide +kernel)))
  · exact .inl (.name (SqT.of f11) (.len (by decide +kernel) (by decide +kernel)))
  · exact .inl (.name (SqT.of f13) (.az (by decide +kernel) (by decide +kernel) (by decide +kernel)))
  · exact .inl (.name (SqT.of f16) (.az (by decide +kernel) (by decide +kernel) (by decide +kernel)))
  · exact .inl (.name (SqT.of f18) (.len (by decide +kernel) (by decide +kernel)))
  · exact .inr ⟨⟨"q", "qq", []⟩, ⟨_, _, rfl, (SqT.of f20), [], ⟨_, ho19, f19⟩, .nil⟩, hq, ⟨List.nodup_nil, fun _ h => by cases h⟩, .inr (.inl ⟨nq "q" (by decide +kernel), by decide +kernel, nq "qq" (by decide +kernel)⟩)⟩
  · exact .inr ⟨⟨"q", "q", []⟩, ⟨_, _, rfl, (SqT.of f22), [], ⟨_, ho21, f21⟩, .nil⟩, hq, ⟨List.nodup_nil, fun _ h => by cases h⟩, .inr (.inl ⟨nq "q" (by decide +kernel), by decide +kernel, nq "q" (by decide +kernel)⟩)⟩
  · exact .inl (.above (SqT.of f24) hq (.base .non) (by decide +kernel))
  · exact .inl (.dues (SqT.of f28) hq (.ty (.base (.lst f27)) (by decide +kernel)))
  · exact .inl (.dues (SqT.of f29) hq (.ty (.base .non) (by decide +kernel)))
  · exact .inl (.dues (SqT.of f32) hq (.bad (ps := []) (dues := []) (SqT.of f31) .nil ⟨List.nodup_nil, fun _ h => by cases h⟩ (.inl (.len (SqT.of f30) (by show 1 ≠ 2; decide)))))
  · exact .inl (.name (SqT.of f35) (.ty (.base (.lst f33)) (by decide +kernel)))
  · exact .inl (.dues (SqT.of f43) hq (.bad (ps := [a39]) (dues := [("min", .tuple [.int 1, .int 1])]) (SqT.of f42) (.cons ⟨_, SqT.of f39, .tup (SqT.of f38) (.cons (.int _) (.cons (.int _) .nil))⟩ .nil) ⟨by decide +kernel, fun du h => by rw [List.mem_singleton.mp h]; exact ⟨by decide +kernel, vm⟩⟩ (.inr ⟨a41, ("min", .tuple [.int 2, .int 1]), rfl, ⟨_, SqT.of f41, .tup (SqT.of f40) (.cons (.int _) (.cons (.int _) .nil))⟩, by decide +kernel, vm2, by decide +kernel⟩)))
  · exact .inl (.dues (SqT.of f47) hq (.bad (ps := []) (dues := []) (SqT.of f46) .nil ⟨List.nodup_nil, fun _ h => by cases h⟩ (.inl (.word (SqT.of f45) (.inl ⟨_, (.base (.int _)), (by decide +kernel)⟩)))))
  · exact .inl (.dues (SqT.of f53) hq (.bad (ps := []) (dues := []) (SqT.of f52) .nil ⟨List.nodup_nil, fun _ h => by cases h⟩ (.inl (.ty (.base (.lst f51)) (by decide +kernel)))))
  · exact .inl (.dues (SqT.of f57) hq (.bad (ps := []) (dues := []) (SqT.of f56) .nil ⟨List.nodup_nil, fun _ h => by cases h⟩ (.inl (.word (SqT.of f55) (.inr ⟨_, rfl, (by decide +kernel)⟩)))))
  · exact .inl (.above (SqT.of f62) hq (.base (.lst f60)) (by decide +kernel))
  · exact .inl (.dues (SqT.of f67) hq (.bad (ps := []) (dues := []) (SqT.of f66) .nil ⟨List.nodup_nil, fun _ h => by cases h⟩ (.inl (.word (SqT.of f65) (.inl ⟨_, (.base (.lst f63)), (by decide +kernel)⟩)))))
  · exact .inl (.dues (SqT.of f71) hq (.bad (ps := []) (dues := []) (SqT.of f70) .nil ⟨List.nodup_nil, fun _ h => by cases h⟩ (.inl (.len (SqT.of f69) (by show 3 ≠ 2; decide)))))
end
end Bd
end

section
namespace Bd
open PySem L2
abbrev sPlaces : Stmt := (top 54)
theorem scPlaces : FnScope ["_law_source_here", "_law_lines", "_law_at", "_law_more", "_law_odd", "_law_twice", "_law_row"] ["_law_source_here", "_law_lines"] (defScope sPlaces) := ⟨rfl, rfl, rfl, by decide +kernel, rfl, by decide +kernel, by decide +kernel⟩

/-- _law_said(lambda: ..) -/
theorem pe_lamcallT {X : Cx} {T : List (Addr × Str)} {CE : Addr} {ec : Nat → Addr} {g c Pa : Addr} {gd : FuncData} {k : Nat} {params : Arguments} {body : Expr} {scope : Scope} {t : XK → TE} {p lpos pos : Pos} (FS : Fun X.K "_law_said" "_law_said" sSaid g gd) (XSs : XS X.mg CE ec) (XF : XfC X.K (ec 0)) (n_at : PySem.W.findIn X.K (.ref (ec 0)) "at" = some none) (hm : X.mg "_law_said" = some (.ref g)) (hk : PySem.W.keepIn X.K (.ref g) = true)
    (bS : Binds X.K gd ["_law_ask"] []) (TB : LamX.TabB X.base X.mg c Pa) (hr : Room (k + 2) X.A)
    (hbody : ∀ (A : Around) (outer : List Env) (s : Shared) (H : Hp) (E : XK) (f c1 : Addr), Room k (A.deeper (LamX.lamEnv X scope s.heap.objs.size f c1)) → PE (LamX.lamCx X A outer s H E scope f c1) body (t E))
    (hg : Gl X "_law_said" := by rfl) (hcode : X.env.code = .ref c := by rfl) (hmT : (Pa, X.env.qual ++ "<lambda>") ∈ T := by exact List.mem_singleton.mpr rfl) (hu : ∀ p ∈ T, p.1 = Pa → p.2 = X.env.qual ++ "<lambda>" := by exact fun p hp _ => by rw [List.mem_singleton.mp hp]) (L : LamX.LamS X.env.scope scope := by exact LamX.lamS_by (by decide +kernel)) (hdef : PySem.defaultsOf params X.env = ([], []) := by rfl)
    (hbind : ∀ (q : Str) (cl : List (Str × Addr)) (pm cv ctv : Value), bindArgs (PySem.W.kla_fn "<lambda>" q params body scope cl pm cv ctv) ⟨[], []⟩ = pure [] := by exact fun _ _ _ _ _ => rfl) :
    PE X (.Call (.Name "_law_said" p) [.Lambda params body scope lpos] [] pos) (LamX.tLam T (TSaidT X.K CE ec) t) := by
  obtain ⟨oc, od, kV, doc, pm, an, cdv, ct, osl, rfl, lk, hcd⟩ := FS.ex
  exact LamX.pe_lamcall (Ng := ["_law_ask", "e", "_law_marks"]) hg hm hk lk hcd bS scSaid rfl (Or.inl rfl) (said_givesT XSs XF n_at) TB hcode hmT hu hr L hdef hbind hbody
theorem paired_take {α β : Type} {F : α → β → Prop} : ∀ {xs : List α} {ys : List β}, Paired F xs ys → ∀ i, Paired F (xs.take i) (ys.take i)
  | _, _, .nil, i => by
    rw [List.take_nil, List.take_nil]
    exact .nil
  | _, _, .cons a b, 0 => .nil
  | _, _, .cons a b, i + 1 => .cons a (paired_take b i)
theorem cut_to {xs : List V} {k : Nat} (h : k ≤ xs.length) : cutV xs none (some (k : Int)) = xs.take k := by
  unfold cutV
  rw [HT.sIx_none, HT.sIx_nat, Nat.min_eq_left h, List.drop_zero, Nat.sub_zero]
theorem cut_from {xs : List V} {k : Nat} (h : k ≤ xs.length) : cutV xs (some (k : Int)) none = xs.drop k := by
  unfold cutV
  rw [HT.sIx_none, HT.sIx_nat, Nat.min_eq_left h, List.take_of_length_le]
  rw [List.length_drop]
  omega
theorem eqv_tree (n : Int) : PyData.eqv (.tuple [.str "tree", .int n]) (.tuple [.str "tree", .int n]) = true := by simp [PyData.eqv, PyData.eqvAll]
theorem shaped_tree (n : Int) : SeqAt.shaped (.tuple [.str "tree", .int n]) = true := by
  have h1 : (PyData.tuple [.str "tree", .int n]).canLay0 = true := by
    simp only [PyData.canLay0, PyData.canLayAll0, Bool.and_true]
    decide +kernel
  have h2 : (PyData.tuple [.str "tree", .int n]).depth ≤ 64 := by
    simp only [PyData.depth, PyData.depthAll]
    decide
  unfold SeqAt.shaped
  rw [h1]
  exact decide_eq_true h2
theorem dp_tree {K : PySem.W.Frag} {H : Hp} {t : Addr} {n : Int} (h : H t = some (.tup [.str "tree", .int n])) : Dp K H (.ref t) (.tuple [.str "tree", .int n]) := .tup (SqT.of h) (.cons (.str _) (.cons (.int n) .nil))
theorem rne_tree {K : PySem.W.Frag} {H : Hp} {t t2 : Addr} {n : Int} {Q : VK} (h : H t = some (.tup [.str "tree", .int n])) (h2 : H t2 = some (.tup [.str "tree", .int n])) (q : Q (.bl false) H) : rNeD K (.ref t) (.ref t2) H Q :=
  ⟨_, _, dp_tree h, dp_tree h2, shaped_tree _, shaped_tree _, by
    rw [eqv_tree]
    exact q⟩
theorem req_tree {K : PySem.W.Frag} {H : Hp} {t t2 : Addr} {n : Int} {Q : VK} (h : H t = some (.tup [.str "tree", .int n])) (h2 : H t2 = some (.tup [.str "tree", .int n])) (q : Q (.bl true) H) : rEqD K (.ref t) (.ref t2) H Q :=
  ⟨_, _, dp_tree h, dp_tree h2, shaped_tree _, shaped_tree _, by
    rw [eqv_tree]
    exact q⟩
theorem mk_bad {K : PySem.W.Frag} {C CT x dx mo : Addr} {H1 : Hp} {xs rest ys : List V} {bv hv : V} {rows : List RowM} {Q : VK} {E : XK} {n : Int} (hx : H1 x = none) (hdx : H1 dx = none) (ne : dx ≠ x) (f : H1 mo = some (.lst ys)) (hy : ys = xs ++ bv :: rest) (hr : Paired (RowAt K H1) xs rows) (ok : RowsOk rows) (len : ys.length ≤ 200) (hb : BadIn K H1 rows bv) (hn : (xs.length : Int) = n) (z : Rz CT n H1 E) :
    spMake K C CT [.ref x, .ref mo, hv] (upd (upd H1 dx (.own x)) x (.ins C dx [])) Q E := by
  subst hn hy
  exact ⟨H1, x, dx, .ref mo, hv, rfl, (Same.new (Same.refl H1) hdx _).trans (Same.new (Same.refl _) ((upd_ne ne.symm).trans hx) _), hx, upd_same, .inr ⟨mo, xs, bv :: rest, rows, rfl, f, hr, ok, len, .inr ⟨bv, rest, rfl, hb, z⟩⟩⟩
theorem mk_odd {K : PySem.W.Frag} {C CT x dx mo : Addr} {H1 : Hp} {xs : List V} {hv : V} {t : String} {rows : List RowM} {Q : VK} {E : XK} (hx : H1 x = none) (hdx : H1 dx = none) (ne : dx ≠ x) (f : H1 mo = some (.lst xs)) (hr : Paired (RowAt K H1) xs rows) (ok : RowsOk rows) (len : xs.length ≤ 200) (ty : TyX K H1 hv (.type t)) (kt : kitB t "bool" = some false) (z : Rz CT xs.length H1 E) :
    spMake K C CT [.ref x, .ref mo, hv] (upd (upd H1 dx (.own x)) x (.ins C dx [])) Q E :=
  ⟨H1, x, dx, .ref mo, hv, rfl, (Same.new (Same.refl H1) hdx _).trans (Same.new (Same.refl _) ((upd_ne ne.symm).trans hx) _), hx, upd_same, .inr ⟨mo, xs, [], rows, rfl, by
    rw [List.append_nil]
    exact f, hr, ok, by
    rw [List.append_nil]
    exact len, .inl ⟨rfl, .inr ⟨⟨t, ty, kt⟩, z⟩⟩⟩⟩
theorem rz_said {K : PySem.W.Frag} {CE : Addr} {ec : Nat → Addr} (D0 : XD K CE ec 0) {n : Int} {H1 : Hp} {Q : VK} (q : ∀ t H'', Same H1 H'' → H'' t = some (.tup [.str "tree", .int n]) → Q (.ref t) H'') :
    Rz (ec 0) n H1 (fun cls d H' => ∃ (dd : Addr) (m : Int), cls = .ref (ec 0) ∧ d = some dd ∧ XD K CE ec 0 ∧ H' dd = some (.xd [("at", .int m)]) ∧ ∀ t H'', Same H' H'' → H'' t = some (.tup [.str "tree", .int m]) → Q (.ref t) H'') :=
  fun d G s0 _ e => ⟨d, n, rfl, rfl, D0, e, fun t H'' s1 e1 => q t H'' (s0.trans s1) e1⟩
def spPlaces (K : PySem.W.Frag) (T3 : List (Addr × Str)) : Sp := fun vs H Q _ => ∃ (s lp : Addr) (xs : List V) (rows : List RowM), vs = [.ref s, .ref lp] ∧ Src H s ∧ H lp = some (.lst xs) ∧ lp ≠ s ∧ Paired (RowAt K H) xs rows ∧ RowsOk rows ∧ rows.length ≤ 12 ∧ (∀ y ∈ nms rows, y ∈ menu) ∧ LamX.Tabs T3 H ∧
  ∀ H', Src H' s → KN s H H' → LamX.Tabs T3 H' → Q (.bl true) H'
section
variable {P : Program} {w : World} {K : PySem.W.Frag} {mg : Str → Option Value} {base : Heap} {C CE : Addr} {ec : Nat → Addr} {T3 : List (Addr × Str)}
theorem ok_places {f g i e f1 f2 c P1 : Addr} {fd gd di ed d1 d2 : FuncData} (F : Fun K "_law_places_right" "_law_places_right" sPlaces f fd) (hc : fd.code = .ref c) (hm : (P1, ("_law_places_right.<locals>.<lambda>" : Str)) ∈ T3) (hu : ∀ p ∈ T3, p.1 = P1 → p.2 = ("_law_places_right.<locals>.<lambda>" : Str)) (TB : LamX.TabB base mg c P1) (T : TA mg) (TCl : TC K mg C)
    (XS : XS mg CE ec) (XF : XfC K (ec 0)) (n_at : PySem.W.findIn K (.ref (ec 0)) "at" = some none) (D0 : XD K CE ec 0) (M : Mk K C i) (FM : FnOk P w K mg base (L2.CX P w) 7 i di ["self", "rows", "handing"] (spMake K C (ec 0))) (bI : Binds K di ["self", "rows", "handing"] []) (bI1 : Binds K di ["self", "rows", "handing"] [.bool false])
    (FS : Fun K "_law_said" "_law_said" sSaid g gd) (cS_mg : mg "_law_said" = some (.ref g)) (cS_kp : PySem.W.keepIn K (.ref g) = true) (bS : Binds K gd ["_law_ask"] [])
    (cO : Cal P w K mg base "_law_one" ["_law_source_here", "_law_things"] 3 (spOne K) e ed) (cN : Cal P w K mg base "_law_next" ["_law_source_here", "_law_many"] 2 spNext f1 d1) (cB : Cal P w K mg base "_law_bad_row" ["_law_source_here", "_law_ahead"] 5 (spBadR K) f2 d2) :
    FnOk P w K mg base CX0 11 f fd ["_law_source_here", "_law_lines"] (spPlaces K T3) := by
  refine fun_okC F hc scPlaces (fun vs H Q E h => ?_) (fun A outer s H vs Q E hr h => ?_)
  · obtain ⟨s, lp, xs, rows, rfl, _⟩ := h
    rfl
  obtain ⟨s, lp, xs, rows, rfl, src, el, nlp, hrows, ok, len, hmenu, hT, q⟩ := h
  refine ⟨_, (pss_cons (ps_asg (pe_tup (pa_cons (pe_call cN.ok (hr.mono (by decide)) rfl cN.mg cN.kp cN.bd .nil pass0 (pa_cons (pv 0) (pa_cons (pe_op op_add (pe_callB call_len_seq (by rfl) T.z_len PySem.boot_len (pa_cons (pv 1) pa_nil)) pe_int) pa_nil))) (pa_cons (pe_call cO.ok (hr.mono (by decide)) rfl cO.mg cO.kp cO.bd .nil pass0 (pa_cons (pv 0) (pa_cons (pe_lst (pa_cons pe_non (pa_cons pe_int (pa_cons pe_int (pa_cons pe_str (pa_cons (pe_lst pa_nil) (pa_cons (pe_tup (pa_cons pe_bl pa_nil)) pa_nil))))))) pa_nil))) pa_nil))) (pg_tup (by rfl) (pgs_cons (pg_name (i := 2) scPlaces.nd rfl (Or.inl rfl)) (pgs_cons (pg_name (i := 4) scPlaces.nd rfl (Or.inr rfl)) pgs_nil)))) (pss_cons (ps_set (i := 3) scPlaces.nd rfl (Or.inr rfl) (pe_op op_cat (pe_op op_cat (pe_slice sl_list (pv 1) po_none (po_some (pv 2))) (pe_lst (pa_cons (pe_call cB.ok (hr.mono (by decide)) rfl cB.mg cB.kp cB.bd .nil pass0 (pa_cons (pv 0) (pa_cons (pe_lc (own := [("_law_row", 6)]) (g := gName 6) (tt := tYes) (te := tOp (rIxT K) (tVar 6) (tC (.int 0))) rfl scPlaces.nd (pi_list (pe_slice sl_list (pv 1) po_none (po_some (pv 2)))) (blkOk_by (own := [("_law_row", 6)]) (N := ["_law_source_here", "_law_lines", "_law_at", "_law_more", "_law_odd", "_law_twice", "_law_row"]) (sc := defScope sPlaces) (by decide +kernel)) (fun _ _ _ _ _ => (pg_name (i := 6) scPlaces.nd rfl (Or.inl rfl))) (fun _ _ _ _ _ => pts_nil) (fun _ _ _ _ _ => (pe_ix ix_tup (pv 6) pe_int (fun _ _ => rfl)))) pa_nil))) pa_nil))) (pe_slice sl_list (pv 1) (po_some (pv 2)) po_none))) (pss_cons (ps_if (pt_cmpR (op_neD hr.units) (pe_lamcallT (T := T3) (hmT := hm) (hu := hu) (L := LamX.lamS_by (sc := defScope sPlaces) (by decide +kernel)) (t := fun E => tMake C (spMake K C (ec 0)) [.bl false] E (tCons (tVar 3) tNil)) FS XS XF n_at cS_mg cS_kp bS TB hr (fun A outer s H E f c1 hr2 => (pe_make (dvs := [.bl false]) M FM (hr2.mono (by decide)) rfl TCl.g_Tree bI1 (.cons rfl .nil) (passes_call (takes_of rfl rfl rfl rfl) fun _ _ _ _ h => h) (pa_cons (pv 3) pa_nil)))) (pe_tup (pa_cons pe_str (pa_cons (pv 2) pa_nil))) (nomark _)) (pss_one (ps_ret pe_bl)) pss_nil) (pss_cons (ps_if (pt_cmpR (op_neD hr.units) (pe_lamcallT (T := T3) (hmT := hm) (hu := hu) (L := LamX.lamS_by (sc := defScope sPlaces) (by decide +kernel)) (t := fun E => tMake C (spMake K C (ec 0)) [] E (tCons (tVar 3) (tCons (tVar 4) tNil))) FS XS XF n_at cS_mg cS_kp bS TB hr (fun A outer s H E f c1 hr2 => (pe_make M FM (hr2.mono (by decide)) rfl TCl.g_Tree bI .nil (passes_call (takes_of rfl rfl rfl rfl) fun _ _ _ _ h => h) (pa_cons (pv 3) (pa_cons (pv 4) pa_nil))))) (pe_tup (pa_cons pe_str (pa_cons (pv 2) pa_nil))) (nomark _)) (pss_one (ps_ret pe_bl)) pss_nil) (pss_cons (ps_set (i := 5) scPlaces.nd rfl (Or.inr rfl) (pe_op op_cat (pv 3) (pe_lst (pa_cons (pe_call cB.ok (hr.mono (by decide)) rfl cB.mg cB.kp cB.bd .nil pass0 (pa_cons (pv 0) (pa_cons (pe_lst pa_nil) pa_nil))) pa_nil)))) (pss_cons (ps_if (pt_cmpR (op_neD hr.units) (pe_lamcallT (T := T3) (hmT := hm) (hu := hu) (L := LamX.lamS_by (sc := defScope sPlaces) (by decide +kernel)) (t := fun E => tMake C (spMake K C (ec 0)) [] E (tCons (tVar 5) (tCons (tC (.bl true)) tNil))) FS XS XF n_at cS_mg cS_kp bS TB hr (fun A outer s H E f c1 hr2 => (pe_make M FM (hr2.mono (by decide)) rfl TCl.g_Tree bI .nil (passes_call (takes_of rfl rfl rfl rfl) fun _ _ _ _ h => h) (pa_cons (pv 5) (pa_cons pe_bl pa_nil))))) (pe_tup (pa_cons pe_str (pa_cons (pv 2) pa_nil))) (nomark _)) (pss_one (ps_ret pe_bl)) pss_nil) (pss_one (ps_ret (pe_cmpR (op_eqD hr.units) (pe_lamcallT (T := T3) (hmT := hm) (hu := hu) (L := LamX.lamS_by (sc := defScope sPlaces) (by decide +kernel)) (t := fun E => tMake C (spMake K C (ec 0)) [] E (tCons (tVar 1) (tCons (tVar 4) tNil))) FS XS XF n_at cS_mg cS_kp bS TB hr (fun A outer s H E f c1 hr2 => (pe_make M FM (hr2.mono (by decide)) rfl TCl.g_Tree bI .nil (passes_call (takes_of rfl rfl rfl rfl) fun _ _ _ _ h => h) (pa_cons (pv 1) (pa_cons (pv 4) pa_nil))))) (pe_tup (pa_cons pe_str (pa_cons (pe_callB call_len_seq (by rfl) T.z_len PySem.boot_len (pa_cons (pv 1) pa_nil)) pa_nil))) (nomark _)))))))))), ?_⟩
  have xl : xs.length = rows.length := Paired.length hrows
  -- the place, and what is no truth
  refine ⟨_, rfl, _, rfl, lp, xs, rfl, .inl (SqL.of el), _, _, rfl, rfl, s, xs.length + 1, by rw [Int.natCast_add]; rfl, src, by omega, by omega, fun at' H1 hat src1 k1 => ?_⟩
  refine ⟨_, rfl, Nat.zero_le _, fun a1 h1 => ?_⟩
  have s1 : Same H1 (upd H1 a1 (.lst [])) := Same.new (Same.refl _) h1 _
  have e1 : upd H1 a1 (.lst []) a1 = some (.lst []) := upd_same
  have r1 := src_new (o := .lst []) src1 h1
  have n1 := (src_ne src1 h1).symm
  generalize upd H1 a1 (.lst []) = Ha at s1 e1 r1 ⊢
  refine ⟨by show 1 ≤ sizeLine; decide, fun a2 h2 => ?_⟩
  have s2 : Same Ha (upd Ha a2 (.tup [.bl true])) := Same.new (Same.refl _) h2 _
  have e2 : upd Ha a2 (.tup [.bl true]) a2 = some (.tup [.bl true]) := upd_same
  have r2 := src_new (o := .tup [.bl true]) r1 h2
  have n2 := (src_ne r1 h2).symm
  generalize upd Ha a2 (.tup [.bl true]) = Hb at s2 e2 r2 ⊢
  refine ⟨by show 6 ≤ sizeLine; decide, fun l1 hl1 => ?_⟩
  have s3 : Same Hb (upd Hb l1 (.lst [.non, .int 0, .int 1, .str "", .ref a1, .ref a2])) := Same.new (Same.refl _) hl1 _
  have e3 : upd Hb l1 (.lst [.non, .int 0, .int 1, .str "", .ref a1, .ref a2]) l1 = some (.lst [.non, .int 0, .int 1, .str "", .ref a1, .ref a2]) := upd_same
  have r3 := src_new (o := .lst [.non, .int 0, .int 1, .str "", .ref a1, .ref a2]) r2 hl1
  have n3 := (src_ne r2 hl1).symm
  generalize upd Hb l1 (.lst [.non, .int 0, .int 1, .str "", .ref a1, .ref a2]) = Hc at s3 e3 r3 ⊢
  refine ⟨s, l1, _, rfl, r3, SqL.of e3, n3, (by simp), by show 6 ≤ 1000; decide, fun ov H2 hov src2 k2 => ?_⟩
  have f1 := k2 _ _ n1 (s3 _ _ (s2 _ _ e1))
  have f2 := k2 _ _ n2 (s3 _ _ e2)
  have oV : ∃ t : String, TyX K H2 ov (.type t) ∧ kitB t "bool" = some false := by
    simp only [List.mem_cons, List.not_mem_nil, or_false] at hov
    rcases hov with rfl | rfl | rfl | rfl | rfl | rfl
    · exact ⟨_, .base .non, by decide +kernel⟩
    · exact ⟨_, .base (.int _), by decide +kernel⟩
    · exact ⟨_, .base (.int _), by decide +kernel⟩
    · exact ⟨_, .base (.str _), by decide +kernel⟩
    · exact ⟨_, .base (.lst f1), by decide +kernel⟩
    · exact ⟨_, .base (.tup f2), by decide +kernel⟩
  have K2 : KN s H H2 := ((KN.of k1).trans (KN.same ((s1.trans s2).trans s3))).trans (KN.of k2)
  have T2 := tabs_kept r3 (tabs_same (tabs_kept src hT k1) ((s1.trans s2).trans s3)) k2
  refine ⟨by show 2 ≤ sizeLine; decide, fun tt htt => ?_⟩
  have s4 : Same H2 (upd H2 tt (.tup [.int (at' : Int), ov])) := Same.new (Same.refl _) htt _
  have e4 : upd H2 tt (.tup [.int (at' : Int), ov]) tt = some (.tup [.int (at' : Int), ov]) := upd_same
  have r4 := src_new (o := .tup [.int (at' : Int), ov]) src2 htt
  generalize upd H2 tt (.tup [.int (at' : Int), ov]) = H3 at s4 e4 r4 ⊢
  refine ⟨tt, _, rfl, SqT.of e4, rfl, ?_⟩
  refine ⟨_, _, rfl, _, _, rfl, rfl, ?_⟩
  have K3 : KN s H H3 := K2.trans (KN.same s4)
  have T3' := tabs_same T2 s4
  have el3 : H3 lp = some (.lst xs) := K3 _ _ nlp el (fun ps z => by cases z)
  have tk3 : TK H H3 := KN.tk src K3
  have hrows3 : Paired (RowAt K H3) xs rows := paired_monoM (fun v q hq z => tk3.row (rows_due ok q hq) z) hrows
  -- the rows ahead
  have al : at' ≤ xs.length := by omega
  refine ⟨_, rfl, _, rfl, _, rfl, lp, xs, rfl, SqL.of el3, fun b1 g1 => ?_⟩
  rw [cut_to al]
  have x1 : Same H3 (upd H3 b1 (.lst (xs.take at'))) := Same.new (Same.refl _) g1 _
  have y1 : upd H3 b1 (.lst (xs.take at')) b1 = some (.lst (xs.take at')) := upd_same
  have z1 := src_new (o := .lst (xs.take at')) r4 g1
  have m1 := (src_ne r4 g1).symm
  generalize upd H3 b1 (.lst (xs.take at')) = G1 at x1 y1 z1 ⊢
  refine ⟨_, rfl, _, rfl, _, rfl, _, rfl, lp, xs, rfl, SqL.of (x1 _ _ el3), fun b2 g2 => ?_⟩
  rw [cut_to al]
  have x2 : Same G1 (upd G1 b2 (.lst (xs.take at'))) := Same.new (Same.refl _) g2 _
  have y2 : upd G1 b2 (.lst (xs.take at')) b2 = some (.lst (xs.take at')) := upd_same
  have z2 := src_new (o := .lst (xs.take at')) z1 g2
  generalize upd G1 b2 (.lst (xs.take at')) = G2 at x2 y2 z2 ⊢
  have X2 := x1.trans x2
  have hrt : Paired (RowAt K G2) (xs.take at') (rows.take at') := rows_same X2 (paired_take hrows3 at')
  have okt : RowsOk (rows.take at') := fun i r h => by
    rw [List.getElem?_take] at h
    by_cases c : i < at'
    · rw [if_pos c] at h
      have := ok i r h
      rw [List.take_take, Nat.min_eq_left (by omega)]
      exact this
    · rw [if_neg c] at h
      cases h
  have lt : (rows.take at').length ≤ 12 := by
    rw [List.length_take]
    omega
  have ltx : (xs.take at').length = (rows.take at').length := Paired.length hrt
  refine ⟨b2, rfl, ⟨_, SqL.of y2⟩, fun D hD => ?_⟩
  have nD := (src_ne z2 hD).symm
  refine lc_list (K := K) (a := b2) (xs := xs.take at') (fun j G => G = upd G2 D (.lst ((nms ((rows.take at').take j)).map .str))) rfl ?_ ?_ ?_
  · rintro j _ _ rfl
    exact SqL.of ((upd_ne (ne_of_none y2 hD)).trans y2)
  · rintro j v _ hj rfl
    obtain ⟨r, hr1, hrow⟩ := paired_get hrt hj
    obtain ⟨ra, t0, rfl, hra, _⟩ := id hrow
    have jl : j < (rows.take at').length := (List.getElem?_eq_some_iff.mp hr1).1
    refine ⟨rfl, ?_⟩
    unfold tYes
    refine iteT ?_
    refine ⟨_, rfl, ra, _, _, _, rfl, rfl, Same.seqT (Same.new (Same.refl G2) hD _) hra, rfl, _, upd_same, ?_, ?_⟩
    · rw [List.length_map]
      unfold nms
      rw [List.length_map, List.length_take]
      exact small1000 (by omega)
    · rw [upd_upd, List.take_add_one, hr1, Option.toList_some]
      unfold nms
      rw [List.map_append, List.map_append]
      rfl
  rintro _ rfl
  rw [ltx, List.take_length]
  have x3 : Same G2 (upd G2 D (.lst ((nms (rows.take at')).map .str))) := Same.new (Same.refl _) hD _
  have y3 : upd G2 D (.lst ((nms (rows.take at')).map .str)) D = some (.lst ((nms (rows.take at')).map .str)) := upd_same
  have z3 := src_new (o := .lst ((nms (rows.take at')).map .str)) z2 hD
  generalize upd G2 D (.lst ((nms (rows.take at')).map .str)) = G3 at x3 y3 z3 ⊢
  have hmt : ∀ y ∈ nms (rows.take at'), y ∈ menu := fun y hy => by
    obtain ⟨r, hr, rfl⟩ := List.mem_map.mp hy
    exact hmenu _ (List.mem_map.mpr ⟨r, List.mem_of_mem_take hr, rfl⟩)
  refine ⟨s, D, rows.take at', rfl, z3, y3, nD, okt, lt, hmt, fun bv G4 hbad srcG kG => ⟨by show 1 ≤ sizeLine; decide, fun b3 g3 => ?_⟩⟩
  have x4 : Same G4 (upd G4 b3 (.lst [bv])) := Same.new (Same.refl _) g3 _
  have y4 : upd G4 b3 (.lst [bv]) b3 = some (.lst [bv]) := upd_same
  have z4 := src_new (o := .lst [bv]) srcG g3
  generalize upd G4 b3 (.lst [bv]) = G5 at x4 y4 z4 ⊢
  have f1b : G5 b1 = some (.lst (xs.take at')) := x4 _ _ (kG _ _ m1 (x3 _ _ (x2 _ _ y1)))
  have kX : KN s H G5 := (K3.trans (KN.same ((X2).trans x3))).trans ((KN.of kG).trans (KN.same x4))
  have el5 : G5 lp = some (.lst xs) := kX _ _ nlp el (fun ps z => by cases z)
  refine ⟨b1, b3, _, _, rfl, rfl, f1b, y4, Nat.le_of_lt (small1000 (by rw [ltx]; show _ + 1 ≤ 1000; omega)), fun b4 g4 => ?_⟩
  have x5 : Same G5 (upd G5 b4 (.lst (xs.take at' ++ [bv]))) := Same.new (Same.refl _) g4 _
  have y5 : upd G5 b4 (.lst (xs.take at' ++ [bv])) b4 = some (.lst (xs.take at' ++ [bv])) := upd_same
  have z5 := src_new (o := .lst (xs.take at' ++ [bv])) z4 g4
  generalize upd G5 b4 (.lst (xs.take at' ++ [bv])) = G6 at x5 y5 z5 ⊢
  refine ⟨_, rfl, _, rfl, _, rfl, lp, xs, rfl, SqL.of (x5 _ _ el5), fun b5 g5 => ?_⟩
  rw [cut_from al]
  have x6 : Same G6 (upd G6 b5 (.lst (xs.drop at'))) := Same.new (Same.refl _) g5 _
  have y6 : upd G6 b5 (.lst (xs.drop at')) b5 = some (.lst (xs.drop at')) := upd_same
  have z6 := src_new (o := .lst (xs.drop at')) z5 g5
  generalize upd G6 b5 (.lst (xs.drop at')) = G7 at x6 y6 z6 ⊢
  refine ⟨b4, b5, _, _, rfl, rfl, x6 _ _ y5, y6, ?_, fun mo hmo => ?_⟩
  · rw [List.length_append, ltx, List.length_drop]
    exact Nat.le_of_lt (small1000 (by show _ + 1 + _ ≤ 1000; omega))
  have x7 : Same G7 (upd G7 mo (.lst (xs.take at' ++ [bv] ++ xs.drop at'))) := Same.new (Same.refl _) hmo _
  have y7 : upd G7 mo (.lst (xs.take at' ++ [bv] ++ xs.drop at')) mo = some (.lst (xs.take at' ++ [bv] ++ xs.drop at')) := upd_same
  have z7 := src_new (o := .lst (xs.take at' ++ [bv] ++ xs.drop at')) z6 hmo
  have m7 := (src_ne z6 hmo).symm
  generalize upd G7 mo (.lst (xs.take at' ++ [bv] ++ xs.drop at')) = G8 at x7 y7 z7 ⊢
  have X8 := ((x4.trans x5).trans x6).trans x7
  have k8 : KN s H G8 := kX.trans (KN.same ((x5.trans x6).trans x7))
  have hb8 : BadIn K G8 (rows.take at') bv := badIn_kl (KL.same X8) hbad
  have T8 : LamX.Tabs T3 G8 := tabs_same (tabs_kept z3 (tabs_same T3' (X2.trans x3)) kG) X8
  have tk8 : TK H G8 := KN.tk src k8
  have hrt8 : Paired (RowAt K G8) (xs.take at') (rows.take at') := paired_take (paired_monoM (fun v q hq z => tk8.row (rows_due ok q hq) z) hrows) at'
  have lat : (xs.take at').length = at' := by
    rw [List.length_take]
    omega
  -- what is refused at that place
  have f8 : G8 mo = some (.lst (xs.take at' ++ [bv] ++ xs.drop at')) := y7
  have hsp : xs.take at' ++ [bv] ++ xs.drop at' = xs.take at' ++ bv :: xs.drop at' := by rw [List.append_assoc]; rfl
  have hln : (xs.take at' ++ [bv] ++ xs.drop at').length ≤ 100 := by
    rw [List.length_append, List.length_append, lat, List.length_drop]
    show at' + 1 + _ ≤ 100
    omega
  have ltI : ((xs.take at').length : Int) = (at' : Int) := by rw [lat]
  obtain ⟨ot, oT, oK⟩ := oV
  have kl8 : KL H2 G8 := KL.of src2 z7 ((KN.same ((s4.trans X2).trans x3)).trans ((KN.of kG).trans (KN.same X8)))
  have oT8 := ty_kl kl8 oT
  have rw8 : ∀ {G : Hp}, LamX.ExtN G8 G → Paired (RowAt K G) (xs.take at') (rows.take at') := fun e => paired_monoM (fun v q hq z => (ext_tk e).row (rows_due okt q hq) z) hrt8
  -- the first: the flag left out
  refine ⟨T8, fun H1 w1 t1 => ⟨_, rfl, fun x dx hx hdx ne => mk_bad hx hdx ne (w1 _ _ f8 (fun ps z => by cases z)) hsp (rw8 w1) okt (by omega) (badIn_kl (KL.ext w1) hb8) ltI (fun d Gd v0 _ ed => ⟨d, _, rfl, rfl, D0, ed, fun t Ga v1 et => ?_⟩)⟩⟩
  replace v1 := v0.trans v1
  refine ⟨_, rfl, by show 2 ≤ sizeLine; decide, fun t2 h2 => rne_tree (Same.new (Same.refl _) h2 _ _ _ et) upd_same ⟨false, rfl, iteF ?_⟩⟩
  have w2 : LamX.ExtN G8 (upd Ga t2 (.tup [.str "tree", .int (at' : Int)])) := w1.trans (LamX.ExtN.of (v1.trans (Same.new (Same.refl _) h2 _)))
  have t3 : LamX.Tabs T3 (upd Ga t2 (.tup [.str "tree", .int (at' : Int)])) := tabs_same t1 (v1.trans (Same.new (Same.refl _) h2 _))
  clear v1 v0 ed et w1 t1 hx hdx
  generalize upd Ga t2 (.tup [.str "tree", .int (at' : Int)]) = GA at w2 t3 ⊢
  -- the second: a flag that is none
  refine ⟨t3, fun H1 w1 t1 => ⟨_, rfl, _, rfl, fun x dx hx hdx ne => mk_bad hx hdx ne ((w2.trans w1) _ _ f8 (fun ps z => by cases z)) hsp (rw8 (w2.trans w1)) okt (by omega) (badIn_kl (KL.ext (w2.trans w1)) hb8) ltI (fun d Gd v0 _ ed => ⟨d, _, rfl, rfl, D0, ed, fun t Ga v1 et => ?_⟩)⟩⟩
  replace v1 := v0.trans v1
  refine ⟨_, rfl, by show 2 ≤ sizeLine; decide, fun t2 h2 => rne_tree (Same.new (Same.refl _) h2 _ _ _ et) upd_same ⟨false, rfl, iteF ?_⟩⟩
  have w4 : LamX.ExtN G8 (upd Ga t2 (.tup [.str "tree", .int (at' : Int)])) := (w2.trans w1).trans (LamX.ExtN.of (v1.trans (Same.new (Same.refl _) h2 _)))
  have t4 : LamX.Tabs T3 (upd Ga t2 (.tup [.str "tree", .int (at' : Int)])) := tabs_same t1 (v1.trans (Same.new (Same.refl _) h2 _))
  clear v1 v0 ed et w1 t1 hx hdx w2 t3
  generalize upd Ga t2 (.tup [.str "tree", .int (at' : Int)]) = GB at w4 t4 ⊢
  have zB : Src GB s := src_ext w4 z7
  -- one more at the end
  refine ⟨_, rfl, _, rfl, Nat.zero_le _, fun a5 h5 => ?_⟩
  have c1 : Same GB (upd GB a5 (.lst [])) := Same.new (Same.refl _) h5 _
  have d1' : upd GB a5 (.lst []) a5 = some (.lst []) := upd_same
  have zC := src_new (o := .lst []) zB h5
  have n5 := (src_ne zB h5).symm
  generalize upd GB a5 (.lst []) = GC at c1 d1' zC ⊢
  refine ⟨s, a5, [], rfl, zC, d1', n5, (fun i r h => by cases h), Nat.zero_le _, (fun y h => by cases h), fun bv2 GD hbad2 srcD kD => ⟨by show 1 ≤ sizeLine; decide, fun b6 g6 => ?_⟩⟩
  have c2 : Same GD (upd GD b6 (.lst [bv2])) := Same.new (Same.refl _) g6 _
  have d2' : upd GD b6 (.lst [bv2]) b6 = some (.lst [bv2]) := upd_same
  have zE := src_new (o := .lst [bv2]) srcD g6
  generalize upd GD b6 (.lst [bv2]) = GE at c2 d2' zE ⊢
  have fE : GE mo = some (.lst (xs.take at' ++ [bv] ++ xs.drop at')) := c2 _ _ (kD _ _ m7 (c1 _ _ (w4 _ _ f8 (fun ps z => by cases z))))
  refine ⟨mo, b6, _, _, rfl, rfl, fE, d2', Nat.le_of_lt (small1000 (by show _ + 1 ≤ 1000; omega)), fun tw htw => ?_⟩
  have c3 : Same GE (upd GE tw (.lst (xs.take at' ++ [bv] ++ xs.drop at' ++ [bv2]))) := Same.new (Same.refl _) htw _
  have d3' : upd GE tw (.lst (xs.take at' ++ [bv] ++ xs.drop at' ++ [bv2])) tw = some (.lst (xs.take at' ++ [bv] ++ xs.drop at' ++ [bv2])) := upd_same
  have zF := src_new (o := .lst (xs.take at' ++ [bv] ++ xs.drop at' ++ [bv2])) zE htw
  generalize upd GE tw (.lst (xs.take at' ++ [bv] ++ xs.drop at' ++ [bv2])) = GF at c3 d3' zF ⊢
  have kn8 : KN s G8 GF := ((KN.ext w4).trans (KN.same c1)).trans ((KN.of kD).trans (KN.same (c2.trans c3)))
  have klF : KL G8 GF := KL.of z7 zF kn8
  have knF : KN s H GF := k8.trans kn8
  have tF : LamX.Tabs T3 GF := tabs_same (tabs_kept zC (tabs_same t4 c1) kD) (c2.trans c3)
  have tkF : TK H GF := KN.tk src knF
  have hbF : BadIn K GF (rows.take at') bv := badIn_kl klF hb8
  have oTF := ty_kl klF oT8
  have hrF : Paired (RowAt K GF) xs rows := paired_monoM (fun v q hq z => tkF.row (rows_due ok q hq) z) hrows
  have elF : GF lp = some (.lst xs) := knF _ _ nlp el (fun ps z => by cases z)
  have hsp2 : xs.take at' ++ [bv] ++ xs.drop at' ++ [bv2] = xs.take at' ++ bv :: (xs.drop at' ++ [bv2]) := by rw [hsp, List.append_assoc]; rfl
  have hln2 : (xs.take at' ++ [bv] ++ xs.drop at' ++ [bv2]).length ≤ 200 := by
    rw [List.length_append]
    show _ + 1 ≤ 200
    omega
  have rwF : ∀ {G : Hp}, LamX.ExtN GF G → Paired (RowAt K G) xs rows := fun e => paired_monoM (fun v q hq z => (ext_tk e).row (rows_due ok q hq) z) hrF
  -- the third: two that are no rows
  refine ⟨tF, fun H1 w1 t1 => ⟨_, rfl, fun x dx hx hdx ne => mk_bad hx hdx ne (w1 _ _ d3' (fun ps z => by cases z)) hsp2 (paired_take (rwF w1) at') okt hln2 (badIn_kl (KL.ext w1) hbF) ltI (fun d Gd v0 _ ed => ⟨d, _, rfl, rfl, D0, ed, fun t Ga v1 et => ?_⟩)⟩⟩
  replace v1 := v0.trans v1
  refine ⟨_, rfl, by show 2 ≤ sizeLine; decide, fun t2 h2 => rne_tree (Same.new (Same.refl _) h2 _ _ _ et) upd_same ⟨false, rfl, iteF ?_⟩⟩
  have w5 : LamX.ExtN GF (upd Ga t2 (.tup [.str "tree", .int (at' : Int)])) := w1.trans (LamX.ExtN.of (v1.trans (Same.new (Same.refl _) h2 _)))
  have t5 : LamX.Tabs T3 (upd Ga t2 (.tup [.str "tree", .int (at' : Int)])) := tabs_same t1 (v1.trans (Same.new (Same.refl _) h2 _))
  clear v1 v0 ed et w1 t1 hx hdx
  generalize upd Ga t2 (.tup [.str "tree", .int (at' : Int)]) = GG at w5 t5 ⊢
  -- the fourth: all rows, a flag that is none
  refine ⟨t5, fun H1 w1 t1 => ⟨_, rfl, _, rfl, fun x dx hx hdx ne => mk_odd hx hdx ne ((w5.trans w1) _ _ elF (fun ps z => by cases z)) (rwF (w5.trans w1)) ok (by omega) (ty_kl (KL.ext (w5.trans w1)) oTF) oK (fun d Gd v0 _ ed => ⟨d, _, rfl, rfl, D0, ed, fun t Ga v1 et => ?_⟩)⟩⟩
  replace v1 := v0.trans v1
  refine ⟨_, rfl, lp, xs, rfl, .inl (SqL.of (v1 _ _ ((w5.trans w1) _ _ elF (fun ps z => by cases z)))), by show 2 ≤ sizeLine; decide, fun t2 h2 => req_tree (Same.new (Same.refl _) h2 _ _ _ et) upd_same ?_⟩
  have w6 : LamX.ExtN GF (upd Ga t2 (.tup [.str "tree", .int (xs.length : Int)])) := (w5.trans w1).trans (LamX.ExtN.of (v1.trans (Same.new (Same.refl _) h2 _)))
  exact q _ (src_ext w6 zF) (knF.trans (KN.ext w6)) (tabs_same t1 (v1.trans (Same.new (Same.refl _) h2 _)))
end
end Bd
end

section
namespace Bd
open PySem L2
abbrev sTopsR : Stmt := (top 55)
theorem scTopsR : FnScope ["_law_source_here", "_law_lines", "_law_topped"] ["_law_source_here", "_law_lines"] (defScope sTopsR) := ⟨rfl, rfl, rfl, by decide +kernel, rfl, by decide +kernel, by decide +kernel⟩

theorem rowsOk_snoc {rows : List RowM} {r : RowM} (h : RowsOk rows) (n : NameOk r.name) (d : DuesOk r.dues) (s : StandOk rows r) : RowsOk (rows ++ [r]) := by
  intro i q e
  by_cases c : i < rows.length
  · rw [List.getElem?_append_left c] at e
    rw [List.take_append_of_le_length (Nat.le_of_lt c)]
    exact h i q e
  · rw [List.getElem?_append_right (by omega)] at e
    have z : i = rows.length := by
      have := (List.getElem?_eq_some_iff.mp e).1
      simp at this
      omega
    subst z
    rw [Nat.sub_self] at e
    obtain rfl : r = q := Option.some.inj e
    rw [List.take_left]
    exact ⟨n, d, s⟩
theorem paired_app {α β : Type} {F : α → β → Prop} : ∀ {xs : List α} {ys : List β}, Paired F xs ys → ∀ {us : List α} {vs : List β}, Paired F us vs → Paired F (xs ++ us) (ys ++ vs)
  | _, _, .nil, _, _, h => h
  | _, _, .cons a b, _, _, h => .cons a (paired_app b h)
theorem mk_none {K : PySem.W.Frag} {C CT x dx mo : Addr} {H1 : Hp} {xs : List V} {b : Bool} {rows : List RowM} {Q : VK} {E : XK} (hx : H1 x = none) (hdx : H1 dx = none) (ne : dx ≠ x) (f : H1 mo = some (.lst xs)) (hr : Paired (RowAt K H1) xs rows) (ok : RowsOk rows) (len : xs.length ≤ 200) (q : ∀ H', Same H1 H' → Q .non H') :
    spMake K C CT [.ref x, .ref mo, .bl b] (upd (upd H1 dx (.own x)) x (.ins C dx [])) Q E :=
  ⟨H1, x, dx, .ref mo, .bl b, rfl, (Same.new (Same.refl H1) hdx _).trans (Same.new (Same.refl _) ((upd_ne ne.symm).trans hx) _), hx, upd_same, .inr ⟨mo, xs, [], rows, rfl, by
    rw [List.append_nil]
    exact f, hr, ok, by
    rw [List.append_nil]
    exact len, .inl ⟨rfl, .inl ⟨⟨b, rfl⟩, q⟩⟩⟩⟩
theorem name1 {x : Str} (h : x = "q" ∨ x = "r" ∨ x = "s") : NameOk x := by
  rcases h with rfl | rfl | rfl <;> exact ⟨by decide +kernel, by decide +kernel, by decide +kernel⟩
theorem menu1 {x : Str} (h : x = "q" ∨ x = "r" ∨ x = "s") : x ∉ menu := by
  rcases h with rfl | rfl | rfl <;> decide +kernel
theorem dues0 : DuesOk [] := ⟨.nil, fun du h => by cases h⟩
theorem dues1 {d : PyData} (h : ValOk "tops" d) : DuesOk [("tops", d)] := ⟨List.pairwise_singleton _ _, fun du z => by
  obtain rfl := List.mem_singleton.mp z
  exact ⟨(show ("tops" : Str) ∈ leftW by decide +kernel), h⟩⟩
theorem tops_full (d : PyData) : dueOf (fullD [("tops", d)]) "tops" = some d := by
  rfl
def qRow (d : PyData) : RowM := ⟨"q", "", [("tops", d)]⟩
def sRow : RowM := ⟨"s", "q", []⟩
def rRow : RowM := ⟨"r", "", []⟩
theorem far {rows : List RowM} (hm : ∀ y ∈ nms rows, y ∈ menu) {x : Str} (h : x = "q" ∨ x = "r" ∨ x = "s") : ∀ q ∈ rows, q.name ≠ x := fun q hq e => menu1 h (e ▸ hm _ (List.mem_map.mpr ⟨q, hq, rfl⟩))
theorem ok_q {rows : List RowM} {d : PyData} (ok : RowsOk rows) (hm : ∀ y ∈ nms rows, y ∈ menu) (h : ValOk "tops" d) : RowsOk (rows ++ [qRow d]) :=
  rowsOk_snoc ok (name1 (.inl rfl)) (dues1 h) ⟨far hm (.inl rfl), .inl rfl⟩
theorem ok_qr {rows : List RowM} {d : PyData} (ok : RowsOk rows) (hm : ∀ y ∈ nms rows, y ∈ menu) (h : ValOk "tops" d) : RowsOk (rows ++ [qRow d] ++ [rRow]) :=
  rowsOk_snoc (ok_q ok hm h) (name1 (.inr (.inl rfl))) dues0 ⟨fun q hq => by
    rcases List.mem_append.mp hq with z | z
    · exact far hm (.inr (.inl rfl)) q z
    · obtain rfl := List.mem_singleton.mp z
      exact (by decide +kernel : ("q" : Str) ≠ "r"), .inl rfl⟩
theorem ok_qs {rows : List RowM} (ok : RowsOk rows) (hm : ∀ y ∈ nms rows, y ∈ menu) : RowsOk (rows ++ [qRow (.str "endless")] ++ [sRow]) :=
  rowsOk_snoc (ok_q ok hm (.endl (by decide +kernel))) (name1 (.inr (.inr rfl))) dues0 ⟨fun q hq => by
    rcases List.mem_append.mp hq with z | z
    · exact far hm (.inr (.inr rfl)) q z
    · obtain rfl := List.mem_singleton.mp z
      exact (by decide +kernel : ("q" : Str) ≠ "s"), .inr ⟨_, List.mem_append.mpr (.inr (List.mem_singleton.mpr rfl)), rfl, tops_full _⟩⟩
theorem bad_s {rows : List RowM} {n d : Nat} (hm : ∀ y ∈ nms rows, y ∈ menu) : BadStand (rows ++ [qRow (.tuple [.int n, .int d])] ++ [rRow]) sRow :=
  .inr (.inr ⟨fun q hq => by
    rcases List.mem_append.mp hq with z | z
    · rcases List.mem_append.mp z with z | z
      · exact far hm (.inr (.inr rfl)) q z
      · obtain rfl := List.mem_singleton.mp z
        exact (by decide +kernel : ("q" : Str) ≠ "s")
    · obtain rfl := List.mem_singleton.mp z
      exact (by decide +kernel : ("r" : Str) ≠ "s"), (by decide +kernel : ("q" : Str) ≠ ""), _, List.mem_append.mpr (.inl (List.mem_append.mpr (.inr (List.mem_singleton.mpr rfl)))), rfl, n, d, tops_full _⟩)
def spTopsR (K : PySem.W.Frag) (T3 : List (Addr × Str)) : Sp := fun vs H Q _ => ∃ (s lp : Addr) (xs : List V) (rows : List RowM), vs = [.ref s, .ref lp] ∧ Src H s ∧ H lp = some (.lst xs) ∧ lp ≠ s ∧ Paired (RowAt K H) xs rows ∧ RowsOk rows ∧ rows.length ≤ 12 ∧ (∀ y ∈ nms rows, y ∈ menu) ∧ LamX.Tabs T3 H ∧
  ∀ H', Src H' s → KN s H H' → LamX.Tabs T3 H' → Q (.bl true) H'
section
variable {P : Program} {w : World} {K : PySem.W.Frag} {mg : Str → Option Value} {base : Heap} {C CE : Addr} {ec : Nat → Addr} {T3 : List (Addr × Str)}
theorem ok_topsR {f g i e c P1 : Addr} {fd gd di ed : FuncData} (F : Fun K "_law_tops_right" "_law_tops_right" sTopsR f fd) (hc : fd.code = .ref c) (hm : (P1, ("_law_tops_right.<locals>.<lambda>" : Str)) ∈ T3) (hu : ∀ p ∈ T3, p.1 = P1 → p.2 = ("_law_tops_right.<locals>.<lambda>" : Str)) (TB : LamX.TabB base mg c P1) (T : TA mg) (TCl : TC K mg C)
    (XS : XS mg CE ec) (XF : XfC K (ec 0)) (n_at : PySem.W.findIn K (.ref (ec 0)) "at" = some none) (D0 : XD K CE ec 0) (M : Mk K C i) (FM : FnOk P w K mg base (L2.CX P w) 7 i di ["self", "rows", "handing"] (spMake K C (ec 0))) (bI : Binds K di ["self", "rows", "handing"] []) (bI1 : Binds K di ["self", "rows", "handing"] [.bool false])
    (FS : Fun K "_law_said" "_law_said" sSaid g gd) (cS_mg : mg "_law_said" = some (.ref g)) (cS_kp : PySem.W.keepIn K (.ref g) = true) (bS : Binds K gd ["_law_ask"] [])
    (cA : Cal P w K mg base "_law_amount" ["_law_source_here"] 3 spAmount e ed) :
    FnOk P w K mg base CX0 11 f fd ["_law_source_here", "_law_lines"] (spTopsR K T3) := by
  refine fun_okC F hc scTopsR (fun vs H Q E h => ?_) (fun A outer s H vs Q E hr h => ?_)
  · obtain ⟨s, lp, xs, rows, rfl, _⟩ := h
    rfl
  obtain ⟨s, lp, xs, rows, rfl, src, el, nlp, hrows, ok, len, hmenu, hT, q⟩ := h
  refine ⟨_, (pss_cons (ps_set (i := 2) scTopsR.nd rfl (Or.inr rfl) (pe_op op_cat (pv 1) (pe_lst (pa_cons (pe_tup (pa_cons pe_str (pa_cons pe_str (pa_cons (pe_tupF (pa_cons (pe_tup (pa_cons pe_str (pa_cons (pe_call cA.ok (hr.mono (by decide)) rfl cA.mg cA.kp cA.bd .nil pass0 (pa_cons (pv 0) pa_nil)) pa_nil))) pa_nil)) pa_nil)))) pa_nil)))) (pss_cons (ps_if (pt_cmpR op_notN (pe_lamcallT (T := T3) (hmT := hm) (hu := hu) (L := LamX.lamS_by (sc := defScope sTopsR) (by decide +kernel)) (t := fun E => tMake C (spMake K C (ec 0)) [.bl false] E (tCons (tVar 2) tNil)) FS XS XF n_at cS_mg cS_kp bS TB hr (fun A outer s H E f c1 hr2 => (pe_make (dvs := [.bl false]) M FM (hr2.mono (by decide)) rfl TCl.g_Tree bI1 (.cons rfl .nil) (passes_call (takes_of rfl rfl rfl rfl) fun _ _ _ _ h => h) (pa_cons (pv 2) pa_nil)))) pe_non (nomark _)) (pss_one (ps_ret pe_bl)) pss_nil) (pss_cons (ps_if (pt_cmpR (op_neD hr.units) (pe_lamcallT (T := T3) (hmT := hm) (hu := hu) (L := LamX.lamS_by (sc := defScope sTopsR) (by decide +kernel)) (t := fun E => tMake C (spMake K C (ec 0)) [.bl false] E (tCons (tOp rCat (tVar 2) (tLst (tCons (tTup (tCons (tC (.str "r")) (tCons (tC (.str "")) (tCons (tTupF tNil) tNil)))) (tCons (tTup (tCons (tC (.str "s")) (tCons (tC (.str "q")) (tCons (tTupF tNil) tNil)))) tNil)))) tNil)) FS XS XF n_at cS_mg cS_kp bS TB hr (fun A outer s H E f c1 hr2 => (pe_make (dvs := [.bl false]) M FM (hr2.mono (by decide)) rfl TCl.g_Tree bI1 (.cons rfl .nil) (passes_call (takes_of rfl rfl rfl rfl) fun _ _ _ _ h => h) (pa_cons (pe_op op_cat (pv 2) (pe_lst (pa_cons (pe_tup (pa_cons pe_str (pa_cons pe_str (pa_cons (pe_tupF pa_nil) pa_nil)))) (pa_cons (pe_tup (pa_cons pe_str (pa_cons pe_str (pa_cons (pe_tupF pa_nil) pa_nil)))) pa_nil)))) pa_nil)))) (pe_tup (pa_cons pe_str (pa_cons (pe_op op_add (pe_callB call_len_seq (by rfl) T.z_len PySem.boot_len (pa_cons (pv 1) pa_nil)) pe_int) pa_nil))) (nomark _)) (pss_one (ps_ret pe_bl)) pss_nil) (pss_one (ps_ret (pe_cmpR op_isN (pe_lamcallT (T := T3) (hmT := hm) (hu := hu) (L := LamX.lamS_by (sc := defScope sTopsR) (by decide +kernel)) (t := fun E => tMake C (spMake K C (ec 0)) [.bl false] E (tCons (tOp rCat (tVar 1) (tLst (tCons (tTup (tCons (tC (.str "q")) (tCons (tC (.str "")) (tCons (tTupF (tCons (tTup (tCons (tC (.str "tops")) (tCons (tC (.str "endless")) tNil))) tNil)) tNil)))) (tCons (tTup (tCons (tC (.str "s")) (tCons (tC (.str "q")) (tCons (tTupF tNil) tNil)))) tNil)))) tNil)) FS XS XF n_at cS_mg cS_kp bS TB hr (fun A outer s H E f c1 hr2 => (pe_make (dvs := [.bl false]) M FM (hr2.mono (by decide)) rfl TCl.g_Tree bI1 (.cons rfl .nil) (passes_call (takes_of rfl rfl rfl rfl) fun _ _ _ _ h => h) (pa_cons (pe_op op_cat (pv 1) (pe_lst (pa_cons (pe_tup (pa_cons pe_str (pa_cons pe_str (pa_cons (pe_tupF (pa_cons (pe_tup (pa_cons pe_str (pa_cons pe_str pa_nil))) pa_nil)) pa_nil)))) (pa_cons (pe_tup (pa_cons pe_str (pa_cons pe_str (pa_cons (pe_tupF pa_nil) pa_nil)))) pa_nil)))) pa_nil)))) pe_non (nomark _))))))), ?_⟩
  have xl : xs.length = rows.length := Paired.length hrows
  -- the group with tops
  refine ⟨_, rfl, _, rfl, s, rfl, src, fun v n d H1 ho hv src1 k1 => ⟨by show 2 ≤ sizeLine; decide, fun p1 h1 => ?_⟩⟩
  have sa : Same H1 (upd H1 p1 (.tup [.str "tops", v])) := Same.new (Same.refl _) h1 _
  have ea : upd H1 p1 (.tup [.str "tops", v]) p1 = some (.tup [.str "tops", v]) := upd_same
  have ra := src_new (o := .tup [.str "tops", v]) src1 h1
  generalize upd H1 p1 (.tup [.str "tops", v]) = Ha at sa ea ra ⊢
  refine ⟨by show 1 ≤ sizeLine; decide, fun l1 o1 hl1 od1 => ?_⟩
  have sb : Same Ha (upd Ha l1 (.frz o1 (.tup [.ref p1]))) := Same.new (Same.refl _) hl1 _
  have eb : upd Ha l1 (.frz o1 (.tup [.ref p1])) l1 = some (.frz o1 (.tup [.ref p1])) := upd_same
  have rb := src_new (o := .frz o1 (.tup [.ref p1])) ra hl1
  generalize upd Ha l1 (.frz o1 (.tup [.ref p1])) = Hb at sb eb rb ⊢
  refine ⟨by show 3 ≤ sizeLine; decide, fun r1 hr1 => ?_⟩
  have sc : Same Hb (upd Hb r1 (.tup [.str "q", .str "", .ref l1])) := Same.new (Same.refl _) hr1 _
  have ecc : upd Hb r1 (.tup [.str "q", .str "", .ref l1]) r1 = some (.tup [.str "q", .str "", .ref l1]) := upd_same
  have rc := src_new (o := .tup [.str "q", .str "", .ref l1]) rb hr1
  generalize upd Hb r1 (.tup [.str "q", .str "", .ref l1]) = Hc at sc ecc rc ⊢
  refine ⟨by show 1 ≤ sizeLine; decide, fun b1 hb1 => ?_⟩
  have sd : Same Hc (upd Hc b1 (.lst [.ref r1])) := Same.new (Same.refl _) hb1 _
  have edd : upd Hc b1 (.lst [.ref r1]) b1 = some (.lst [.ref r1]) := upd_same
  have rd := src_new (o := .lst [.ref r1]) rc hb1
  generalize upd Hc b1 (.lst [.ref r1]) = Hd at sd edd rd ⊢
  have kD : KN s H Hd := (KN.of k1).trans (KN.same (((sa.trans sb).trans sc).trans sd))
  have eD : Hd lp = some (.lst xs) := kD _ _ nlp el (fun ps z => by cases z)
  refine ⟨lp, b1, _, _, rfl, rfl, eD, edd, Nat.le_of_lt (small1000 (by rw [xl]; show _ + 1 ≤ 1000; omega)), fun tp htp => ?_⟩
  have se : Same Hd (upd Hd tp (.lst (xs ++ [.ref r1]))) := Same.new (Same.refl _) htp _
  have ee : upd Hd tp (.lst (xs ++ [.ref r1])) tp = some (.lst (xs ++ [.ref r1])) := upd_same
  have re := src_new (o := .lst (xs ++ [.ref r1])) rd htp
  generalize upd Hd tp (.lst (xs ++ [.ref r1])) = He at se ee re ⊢
  have vt : ValOk "tops" (.tuple [.int n, .int d]) := .amt (by decide +kernel) (Nat.lt_of_le_of_lt ho.2.2.1 (Nat.lt_of_lt_of_le (by decide : 10 ^ 13 < 2 ^ 44) (Nat.pow_le_pow_right (by decide) (by decide)))) ho.1 (Nat.lt_of_le_of_lt ho.2.2.2 (Nat.lt_of_lt_of_le (by decide : 10 ^ 13 < 2 ^ 44) (Nat.pow_le_pow_right (by decide) (by decide)))) ho.2.1
  obtain ⟨pv1, rfl, hpv⟩ := hv
  have xe : Same Ha He := ((sb.trans sc).trans sd).trans se
  have hq : RowAt K He (.ref r1) (qRow (.tuple [.int n, .int d])) := ⟨r1, l1, rfl, SqT.of (se _ _ (sd _ _ ecc)), [p1], ⟨o1, od1, se _ _ (sd _ _ (sc _ _ eb))⟩, .cons ⟨_, SqT.of (xe _ _ ea), .tup (SqT.of (xe _ _ (sa _ _ hpv))) (.cons (.int _) (.cons (.int _) .nil))⟩ .nil⟩
  have kE : KN s H He := kD.trans (KN.same se)
  have tkE : TK H He := KN.tk src kE
  have tE : LamX.Tabs T3 He := tabs_same (tabs_kept src hT k1) (((sa.trans sb).trans (sc.trans sd)).trans se)
  have elE : He lp = some (.lst xs) := se _ _ eD
  have hrE : Paired (RowAt K He) xs rows := paired_monoM (fun v q hq z => tkE.row (rows_due ok q hq) z) hrows
  have okq := ok_q (d := .tuple [.int n, .int d]) ok hmenu vt
  have hrq : Paired (RowAt K He) (xs ++ [.ref r1]) (rows ++ [qRow (.tuple [.int n, .int d])]) := paired_app hrE (.cons hq .nil)
  have rwE : ∀ {G : Hp}, LamX.ExtN He G → Paired (RowAt K G) (xs ++ [.ref r1]) (rows ++ [qRow (.tuple [.int n, .int d])]) := fun e => paired_monoM (fun v q hq z => (ext_tk e).row (rows_due okq q hq) z) hrq
  have rwL : ∀ {G : Hp}, LamX.ExtN He G → Paired (RowAt K G) xs rows := fun e => paired_monoM (fun v q hq z => (ext_tk e).row (rows_due ok q hq) z) hrE
  have lq : (xs ++ [V.ref r1]).length ≤ 20 := by
    rw [List.length_append]
    show _ + 1 ≤ 20
    omega
  -- the first: it is taken
  refine ⟨tE, fun H1 w1 t1 => ⟨_, rfl, fun x dx hx hdx ne => mk_none hx hdx ne (w1 _ _ ee (fun ps z => by cases z)) (rwE w1) okq (by omega) fun Ga v1 => ⟨rfl, ?_⟩⟩⟩
  refine ⟨rfl, false, by simp, iteF ?_⟩
  have w2 : LamX.ExtN He Ga := w1.trans (LamX.ExtN.of v1)
  have t2 : LamX.Tabs T3 Ga := tabs_same t1 v1
  clear v1 w1 t1 hx hdx
  -- the second: a row below it is none
  refine ⟨t2, fun H1 w1 t1 => ?_⟩
  refine ⟨_, rfl, Nat.zero_le _, fun l2 o2 hl2 od2 => ?_⟩
  have i1 : Same H1 (upd H1 l2 (.frz o2 (.tup []))) := Same.new (Same.refl _) hl2 _
  have j1 : upd H1 l2 (.frz o2 (.tup [])) l2 = some (.frz o2 (.tup [])) := upd_same
  generalize upd H1 l2 (.frz o2 (.tup [])) = I1 at i1 j1  ⊢
  refine ⟨by show 3 ≤ sizeLine; decide, fun r2 hr2 => ?_⟩
  have i2 : Same I1 (upd I1 r2 (.tup [.str "r", .str "", .ref l2])) := Same.new (Same.refl _) hr2 _
  have j2 : upd I1 r2 (.tup [.str "r", .str "", .ref l2]) r2 = some (.tup [.str "r", .str "", .ref l2]) := upd_same
  generalize upd I1 r2 (.tup [.str "r", .str "", .ref l2]) = I2 at i2 j2  ⊢
  refine ⟨Nat.zero_le _, fun l3 o3 hl3 od3 => ?_⟩
  have i3 : Same I2 (upd I2 l3 (.frz o3 (.tup []))) := Same.new (Same.refl _) hl3 _
  have j3 : upd I2 l3 (.frz o3 (.tup [])) l3 = some (.frz o3 (.tup [])) := upd_same
  generalize upd I2 l3 (.frz o3 (.tup [])) = I3 at i3 j3  ⊢
  refine ⟨by show 3 ≤ sizeLine; decide, fun r3 hr3 => ?_⟩
  have i4 : Same I3 (upd I3 r3 (.tup [.str "s", .str "q", .ref l3])) := Same.new (Same.refl _) hr3 _
  have j4 : upd I3 r3 (.tup [.str "s", .str "q", .ref l3]) r3 = some (.tup [.str "s", .str "q", .ref l3]) := upd_same
  generalize upd I3 r3 (.tup [.str "s", .str "q", .ref l3]) = I4 at i4 j4  ⊢
  refine ⟨by show 2 ≤ sizeLine; decide, fun b2 hb2 => ?_⟩
  have i5 : Same I4 (upd I4 b2 (.lst [.ref r2, .ref r3])) := Same.new (Same.refl _) hb2 _
  have j5 : upd I4 b2 (.lst [.ref r2, .ref r3]) b2 = some (.lst [.ref r2, .ref r3]) := upd_same
  generalize upd I4 b2 (.lst [.ref r2, .ref r3]) = I5 at i5 j5  ⊢
  have i15 : Same H1 I5 := (((i1.trans i2).trans i3).trans i4).trans i5
  refine ⟨tp, b2, _, _, rfl, rfl, i15 _ _ ((w2.trans w1) _ _ ee (fun ps z => by cases z)), j5, Nat.le_of_lt (small1000 (by show _ + 2 ≤ 1000; omega)), fun tq htq => ?_⟩
  have i6 : Same I5 (upd I5 tq (.lst (xs ++ [.ref r1] ++ [.ref r2, .ref r3]))) := Same.new (Same.refl _) htq _
  have j6 : upd I5 tq (.lst (xs ++ [.ref r1] ++ [.ref r2, .ref r3])) tq = some (.lst (xs ++ [.ref r1] ++ [.ref r2, .ref r3])) := upd_same
  generalize upd I5 tq (.lst (xs ++ [.ref r1] ++ [.ref r2, .ref r3])) = I6 at i6 j6  ⊢
  have i16 : Same H1 I6 := i15.trans i6
  have w3 : LamX.ExtN He I6 := (w2.trans w1).trans (LamX.ExtN.of i16)
  have hr2' : RowAt K I6 (.ref r2) rRow := ⟨r2, l2, rfl, SqT.of (i6 _ _ (i5 _ _ (i4 _ _ (i3 _ _ j2)))), [], ⟨o2, od2, i6 _ _ (i5 _ _ (i4 _ _ (i3 _ _ (i2 _ _ j1))))⟩, .nil⟩
  have hr3' : RowAt K I6 (.ref r3) sRow := ⟨r3, l3, rfl, SqT.of (i6 _ _ (i5 _ _ j4)), [], ⟨o3, od3, i6 _ _ (i5 _ _ (i4 _ _ j3))⟩, .nil⟩
  refine fun x dx hx hdx ne => mk_bad (n := (xs.length : Int) + 2) (xs := xs ++ [.ref r1] ++ [.ref r2]) (rest := []) (bv := .ref r3) hx hdx ne j6 (by rw [List.append_assoc (xs ++ [V.ref r1])]; rfl) (paired_app (rwE w3) (.cons hr2' .nil)) (ok_qr ok hmenu vt) (by rw [List.length_append]; show _ + 2 ≤ 200; omega) (.inr ⟨sRow, hr3', name1 (.inr (.inr rfl)), dues0, bad_s hmenu⟩) (by simp) (fun d Gd v0 _ ed => ⟨d, _, rfl, rfl, D0, ed, fun t Ga v1 et => ?_⟩)
  replace v1 := v0.trans v1
  have el5 : Ga lp = some (.lst xs) := v1 _ _ (w3 _ _ elE (fun ps z => by cases z))
  refine ⟨_, rfl, lp, xs, rfl, .inl (SqL.of el5), _, _, rfl, rfl, by show 2 ≤ sizeLine; decide, fun t2 h2 => rne_tree (Same.new (Same.refl _) h2 _ _ _ et) upd_same ⟨false, rfl, iteF ?_⟩⟩
  have w4 : LamX.ExtN He (upd Ga t2 (.tup [.str "tree", .int ((xs.length : Int) + 2)])) := w3.trans (LamX.ExtN.of (v1.trans (Same.new (Same.refl _) h2 _)))
  have t4 : LamX.Tabs T3 (upd Ga t2 (.tup [.str "tree", .int ((xs.length : Int) + 2)])) := tabs_same t1 ((i16.trans v1).trans (Same.new (Same.refl _) h2 _))
  generalize upd Ga t2 (.tup [.str "tree", .int ((xs.length : Int) + 2)]) = GB at w4 t4 ⊢
  -- the third: below endless tops it is taken
  refine ⟨t4, fun H1 w1 t1 => ?_⟩
  refine ⟨_, rfl, by show 2 ≤ sizeLine; decide, fun p5 h5 => ?_⟩
  have i1 : Same H1 (upd H1 p5 (.tup [.str "tops", .str "endless"])) := Same.new (Same.refl _) h5 _
  have j1 : upd H1 p5 (.tup [.str "tops", .str "endless"]) p5 = some (.tup [.str "tops", .str "endless"]) := upd_same
  generalize upd H1 p5 (.tup [.str "tops", .str "endless"]) = J1 at i1 j1  ⊢
  refine ⟨by show 1 ≤ sizeLine; decide, fun l5 o5 hl5 od5 => ?_⟩
  have i2 : Same J1 (upd J1 l5 (.frz o5 (.tup [.ref p5]))) := Same.new (Same.refl _) hl5 _
  have j2 : upd J1 l5 (.frz o5 (.tup [.ref p5])) l5 = some (.frz o5 (.tup [.ref p5])) := upd_same
  generalize upd J1 l5 (.frz o5 (.tup [.ref p5])) = J2 at i2 j2  ⊢
  refine ⟨by show 3 ≤ sizeLine; decide, fun r5 hr5 => ?_⟩
  have i3 : Same J2 (upd J2 r5 (.tup [.str "q", .str "", .ref l5])) := Same.new (Same.refl _) hr5 _
  have j3 : upd J2 r5 (.tup [.str "q", .str "", .ref l5]) r5 = some (.tup [.str "q", .str "", .ref l5]) := upd_same
  generalize upd J2 r5 (.tup [.str "q", .str "", .ref l5]) = J3 at i3 j3  ⊢
  refine ⟨Nat.zero_le _, fun l6 o6 hl6 od6 => ?_⟩
  have i4 : Same J3 (upd J3 l6 (.frz o6 (.tup []))) := Same.new (Same.refl _) hl6 _
  have j4 : upd J3 l6 (.frz o6 (.tup [])) l6 = some (.frz o6 (.tup [])) := upd_same
  generalize upd J3 l6 (.frz o6 (.tup [])) = J4 at i4 j4  ⊢
  refine ⟨by show 3 ≤ sizeLine; decide, fun r6 hr6 => ?_⟩
  have i5 : Same J4 (upd J4 r6 (.tup [.str "s", .str "q", .ref l6])) := Same.new (Same.refl _) hr6 _
  have j5 : upd J4 r6 (.tup [.str "s", .str "q", .ref l6]) r6 = some (.tup [.str "s", .str "q", .ref l6]) := upd_same
  generalize upd J4 r6 (.tup [.str "s", .str "q", .ref l6]) = J5 at i5 j5  ⊢
  refine ⟨by show 2 ≤ sizeLine; decide, fun b5 hb5 => ?_⟩
  have i6 : Same J5 (upd J5 b5 (.lst [.ref r5, .ref r6])) := Same.new (Same.refl _) hb5 _
  have j6 : upd J5 b5 (.lst [.ref r5, .ref r6]) b5 = some (.lst [.ref r5, .ref r6]) := upd_same
  generalize upd J5 b5 (.lst [.ref r5, .ref r6]) = J6 at i6 j6  ⊢
  have i17 : Same H1 J6 := ((((i1.trans i2).trans i3).trans i4).trans i5).trans i6
  refine ⟨lp, b5, _, _, rfl, rfl, i17 _ _ ((w4.trans w1) _ _ elE (fun ps z => by cases z)), j6, Nat.le_of_lt (small1000 (by show _ + 2 ≤ 1000; omega)), fun t5 ht5 => ?_⟩
  have i7 : Same J6 (upd J6 t5 (.lst (xs ++ [.ref r5, .ref r6]))) := Same.new (Same.refl _) ht5 _
  have j7 : upd J6 t5 (.lst (xs ++ [.ref r5, .ref r6])) t5 = some (.lst (xs ++ [.ref r5, .ref r6])) := upd_same
  generalize upd J6 t5 (.lst (xs ++ [.ref r5, .ref r6])) = J7 at i7 j7  ⊢
  have i18 : Same H1 J7 := i17.trans i7
  have w5 : LamX.ExtN He J7 := (w4.trans w1).trans (LamX.ExtN.of i18)
  have i37 : Same J3 J7 := ((i4.trans i5).trans i6).trans i7
  have hr5' : RowAt K J7 (.ref r5) (qRow (.str "endless")) := ⟨r5, l5, rfl, SqT.of (i37 _ _ j3), [p5], ⟨o5, od5, i37 _ _ (i3 _ _ j2)⟩, .cons ⟨_, SqT.of (i37 _ _ (i3 _ _ (i2 _ _ j1))), .str _⟩ .nil⟩
  have hr6' : RowAt K J7 (.ref r6) sRow := ⟨r6, l6, rfl, SqT.of (i7 _ _ (i6 _ _ j5)), [], ⟨o6, od6, i7 _ _ (i6 _ _ (i5 _ _ j4))⟩, .nil⟩
  have hr7 : Paired (RowAt K J7) (xs ++ [.ref r5, .ref r6]) (rows ++ [qRow (.str "endless")] ++ [sRow]) := by
    rw [List.append_assoc]
    exact paired_app (rwL w5) (.cons hr5' (.cons hr6' .nil))
  refine fun x dx hx hdx ne => mk_none hx hdx ne j7 hr7 (ok_qs ok hmenu) (by rw [List.length_append]; show _ + 2 ≤ 200; omega) fun Ga v1 => ⟨rfl, ?_⟩
  have w6 : LamX.ExtN He Ga := w5.trans (LamX.ExtN.of v1)
  have qq := q Ga (src_ext w6 re) (kE.trans (KN.ext w6)) (tabs_same t1 (i18.trans v1))
  exact ⟨rfl, by simpa using qq⟩
end
end Bd
end

section
namespace Bd
open PySem L2
abbrev sLaw : Stmt := (top 56)
theorem scLaw : FnScope ["_law_script", "_law_k", "_law_source_here", "_law_turn", "_law_flag", "_law_lines", "_law_thing"] ["_law_script"] (defScope sLaw) := ⟨rfl, rfl, rfl, by decide +kernel, rfl, by decide +kernel, by decide +kernel⟩

structure TN (K : PySem.W.Frag) (mg : Str → Option Value) : Prop where
  z_max : mg "max" = none
  z_min : mg "min" = none
theorem mk_thing {K : PySem.W.Frag} {C CT x dx : Addr} {H1 : Hp} {rv hv : V} {t : String} {Q : VK} {E : XK} (hx : H1 x = none) (hdx : H1 dx = none) (ne : dx ≠ x) (ty : TyX K H1 rv (.type t)) (kt : kitB t "list" = some false) (z : Rz CT (-1) H1 E) :
    spMake K C CT [.ref x, rv, hv] (upd (upd H1 dx (.own x)) x (.ins C dx [])) Q E :=
  have S : Same H1 (upd (upd H1 dx (.own x)) x (.ins C dx [])) := (Same.new (Same.refl H1) hdx _).trans (Same.new (Same.refl _) ((upd_ne ne.symm).trans hx) _)
  ⟨H1, x, dx, rv, hv, rfl, S, hx, upd_same, .inl ⟨⟨t, ty_kl (KL.same S) ty, kt⟩, z⟩⟩
def spLaw (K : PySem.W.Frag) (Tb : List (Addr × Str)) : Sp := fun vs H Q _ => ∃ (a : Addr) (ns : List Int), vs = [.ref a] ∧ SqL K H a (ns.map V.int) ∧ ns.length ≤ 63 ∧ LamX.Tabs Tb H ∧ ∀ H', Q (.bl true) H'
/-- rows that the law looks at -/
structure LS (K : PySem.W.Frag) (Tb : List (Addr × Str)) (s lp : Addr) (xs : List V) (rows : List RowM) (H2 G : Hp) : Prop where
  src : Src G s
  lst : G lp = some (.lst xs)
  prow : Paired (RowAt K G) xs rows
  base : LamX.ExtN H2 G
  tabs : LamX.Tabs Tb G
theorem LS.kn {K : PySem.W.Frag} {T : List (Addr × Str)} {s lp : Addr} {xs : List V} {rows : List RowM} {H2 G G' : Hp} (ok : RowsOk rows) (n : lp ≠ s) (hs : H2 s = none) (S : LS K T s lp xs rows H2 G) (s' : Src G' s) (e : KN s G G') (t : LamX.Tabs T G') : LS K T s lp xs rows H2 G' := by
  have tk : TK G G' := KN.tk S.src e
  exact ⟨s', e _ _ n S.lst (fun ps z => by cases z), paired_monoM (fun v q hq z => tk.row (rows_due ok q hq) z) S.prow, fun b o h z => e b o (ne_of_none h hs) (S.base b o h z) z, t⟩
theorem LS.ext {K : PySem.W.Frag} {T : List (Addr × Str)} {s lp : Addr} {xs : List V} {rows : List RowM} {H2 G G' : Hp} (ok : RowsOk rows) (n : lp ≠ s) (hs : H2 s = none) (S : LS K T s lp xs rows H2 G) (e : LamX.ExtN G G') (t : LamX.Tabs T G') : LS K T s lp xs rows H2 G' := S.kn ok n hs (src_ext e S.src) (KN.ext e) t
theorem LS.kept {K : PySem.W.Frag} {T : List (Addr × Str)} {s lp : Addr} {xs : List V} {rows : List RowM} {H2 G G' : Hp} (ok : RowsOk rows) (n : lp ≠ s) (hs : H2 s = none) (S : LS K T s lp xs rows H2 G) (s' : Src G' s) (e : Kept s G G') : LS K T s lp xs rows H2 G' := S.kn ok n hs s' (KN.of e) (tabs_kept S.src S.tabs e)
section
variable {P : Program} {w : World} {K : PySem.W.Frag} {mg : Str → Option Value} {base : Heap} {C CE : Addr} {ec : Nat → Addr} {T3 : List (Addr × Str)}
theorem ok_law {f g i c P1 fS fN0 fF fO fP fT : Addr} {fd gd di dS dN0 dF dO dP dT : FuncData} (F : Fun K "law" "law" sLaw f fd) (hc : fd.code = .ref c) (hm : (P1, ("law.<locals>.<lambda>" : Str)) ∈ T3) (hu : ∀ p ∈ T3, p.1 = P1 → p.2 = ("law.<locals>.<lambda>" : Str)) (TB : LamX.TabB base mg c P1) (T : TA mg) (Tn : TN K mg) (TCl : TC K mg C)
    (XS : XS mg CE ec) (XF : XfC K (ec 0)) (n_at : PySem.W.findIn K (.ref (ec 0)) "at" = some none) (D0 : XD K CE ec 0) (M : Mk K C i) (FM : FnOk P w K mg base (L2.CX P w) 7 i di ["self", "rows", "handing"] (spMake K C (ec 0))) (bI : Binds K di ["self", "rows", "handing"] []) (bI1 : Binds K di ["self", "rows", "handing"] [.bool false])
    (FS : Fun K "_law_said" "_law_said" sSaid g gd) (cS_mg : mg "_law_said" = some (.ref g)) (cS_kp : PySem.W.keepIn K (.ref g) = true) (bS : Binds K gd ["_law_ask"] [])
    (cSo : Cal P w K mg base "_law_source" ["_law_script", "_law_k"] 2 (spSource K) fS dS) (cN : Cal P w K mg base "_law_next" ["_law_source_here", "_law_many"] 2 spNext fN0 dN0) (cF : Cal P w K mg base "_law_full_rows" ["_law_source_here", "_law_many"] 5 (spFull K) fF dF)
    (cO : Cal P w K mg base "_law_one" ["_law_source_here", "_law_things"] 3 (spOne K) fO dO) (cP : Cal P w K mg base "_law_places_right" ["_law_source_here", "_law_lines"] 11 (spPlaces K T3) fP dP) (cT : Cal P w K mg base "_law_tops_right" ["_law_source_here", "_law_lines"] 11 (spTopsR K T3) fT dT) :
    FnOk P w K mg base CX0 12 f fd ["_law_script"] (spLaw K T3) := by
  refine fun_okC F hc scLaw (fun vs H Q E h => ?_) (fun A outer s H vs Q E hr h => ?_)
  · obtain ⟨a, ns, rfl, _⟩ := h
    rfl
  obtain ⟨a, ns, rfl, hS, hlen, hT, q⟩ := h
  refine ⟨_, (pss_cons (ps_for PassesOwn.never rfl (pi_range1 rfl T.z_range (pa_cons (pe_callB (call_max2 rfl) (by rfl) Tn.z_max (by decide +kernel) (pa_cons pe_int (pa_cons (pe_callB (call_min2 rfl) (by rfl) Tn.z_min (by decide +kernel) (pa_cons pe_int (pa_cons (pe_callB call_len_seq (by rfl) T.z_len PySem.boot_len (pa_cons (pv 0) pa_nil)) pa_nil))) pa_nil))) pa_nil)) (pg_name (i := 1) scLaw.nd rfl (Or.inl rfl)) (pss_cons (ps_set (i := 2) scLaw.nd rfl (Or.inl rfl) (pe_call cSo.ok (hr.mono (by decide)) rfl cSo.mg cSo.kp cSo.bd .nil pass0 (pa_cons (pv 0) (pa_cons (pv 1) pa_nil)))) (pss_cons (ps_set (i := 5) scLaw.nd rfl (Or.inr rfl) (pe_call cF.ok (hr.mono (by decide)) rfl cF.mg cF.kp cF.bd .nil pass0 (pa_cons (pv 2) (pa_cons (pe_call cN.ok (hr.mono (by decide)) rfl cN.mg cN.kp cN.bd .nil pass0 (pa_cons (pv 2) (pa_cons pe_int pa_nil))) pa_nil)))) (pss_cons (ps_set (i := 4) scLaw.nd rfl (Or.inr rfl) (pe_cmpR op_eq (pe_call cN.ok (hr.mono (by decide)) rfl cN.mg cN.kp cN.bd .nil pass0 (pa_cons (pv 2) (pa_cons pe_int pa_nil))) pe_int (nomark _))) (pss_cons (ps_if (pt_cmpR op_notN (pe_lamcallT (T := T3) (hmT := hm) (hu := hu) (L := LamX.lamS_by (sc := defScope sLaw) (by decide +kernel)) (t := fun E => tMake C (spMake K C (ec 0)) [] E (tCons (tVar 5) (tCons (tVar 4) tNil))) FS XS XF n_at cS_mg cS_kp bS TB hr (fun A outer s H E f c1 hr2 => (pe_make M FM (hr2.mono (by decide)) rfl TCl.g_Tree bI .nil (passes_call (takes_of rfl rfl rfl rfl) fun _ _ _ _ h => h) (pa_cons (pv 5) (pa_cons (pv 4) pa_nil))))) pe_non (nomark _)) (pss_one (ps_ret pe_bl)) pss_nil) (pss_cons (ps_if (pt_cmpR op_notN (pe_lamcallT (T := T3) (hmT := hm) (hu := hu) (L := LamX.lamS_by (sc := defScope sLaw) (by decide +kernel)) (t := fun E => tMake C (spMake K C (ec 0)) [.bl false] E (tCons (tVar 5) tNil)) FS XS XF n_at cS_mg cS_kp bS TB hr (fun A outer s H E f c1 hr2 => (pe_make (dvs := [.bl false]) M FM (hr2.mono (by decide)) rfl TCl.g_Tree bI1 (.cons rfl .nil) (passes_call (takes_of rfl rfl rfl rfl) fun _ _ _ _ h => h) (pa_cons (pv 5) pa_nil)))) pe_non (nomark _)) (pss_one (ps_ret pe_bl)) pss_nil) (pss_cons (ps_for PassesOwn.never rfl (pi_range1 rfl T.z_range (pa_cons pe_int pa_nil)) (pg_name (i := 3) scLaw.nd rfl (Or.inl rfl)) (pss_one (ps_if (pt_not (pt_val (pe_call cP.ok (hr.mono (by decide)) rfl cP.mg cP.kp cP.bd .nil pass0 (pa_cons (pv 2) (pa_cons (pv 5) pa_nil))))) (pss_one (ps_ret pe_bl)) pss_nil))) (pss_cons (ps_set (i := 6) scLaw.nd rfl (Or.inr rfl) (pe_call cO.ok (hr.mono (by decide)) rfl cO.mg cO.kp cO.bd .nil pass0 (pa_cons (pv 2) (pa_cons (pe_lst (pa_cons pe_non (pa_cons (pe_callTy call_tuple_of (by rfl) T.z_tuple (by decide +kernel) (pa_cons (pv 5) pa_nil)) (pa_cons pe_dnewK (pa_cons pe_str (pa_cons pe_int (pa_cons pe_bl pa_nil))))))) pa_nil)))) (pss_cons (ps_if (pt_cmpR (op_neD hr.units) (pe_lamcallT (T := T3) (hmT := hm) (hu := hu) (L := LamX.lamS_by (sc := defScope sLaw) (by decide +kernel)) (t := fun E => tMake C (spMake K C (ec 0)) [.bl false] E (tCons (tVar 6) tNil)) FS XS XF n_at cS_mg cS_kp bS TB hr (fun A outer s H E f c1 hr2 => (pe_make (dvs := [.bl false]) M FM (hr2.mono (by decide)) rfl TCl.g_Tree bI1 (.cons rfl .nil) (passes_call (takes_of rfl rfl rfl rfl) fun _ _ _ _ h => h) (pa_cons (pv 6) pa_nil)))) (pe_tup (pa_cons pe_str (pa_cons (pe_un un_neg pe_int) pa_nil))) (nomark _)) (pss_one (ps_ret pe_bl)) pss_nil) (pss_cons (ps_if (pt_cmpR (op_neD hr.units) (pe_lamcallT (T := T3) (hmT := hm) (hu := hu) (L := LamX.lamS_by (sc := defScope sLaw) (by decide +kernel)) (t := fun E => tMake C (spMake K C (ec 0)) [] E (tCons (tVar 6) (tCons (tC (.int 5)) tNil))) FS XS XF n_at cS_mg cS_kp bS TB hr (fun A outer s H E f c1 hr2 => (pe_make M FM (hr2.mono (by decide)) rfl TCl.g_Tree bI .nil (passes_call (takes_of rfl rfl rfl rfl) fun _ _ _ _ h => h) (pa_cons (pv 6) (pa_cons pe_int pa_nil))))) (pe_tup (pa_cons pe_str (pa_cons (pe_un un_neg pe_int) pa_nil))) (nomark _)) (pss_one (ps_ret pe_bl)) pss_nil) (pss_one (ps_if (pt_not (pt_val (pe_call cT.ok (hr.mono (by decide)) rfl cT.mg cT.kp cT.bd .nil pass0 (pa_cons (pv 2) (pa_cons (pv 5) pa_nil))))) (pss_one (ps_ret pe_bl)) pss_nil)))))))))))) (pss_one (ps_ret pe_bl))), ?_⟩
  refine ⟨_, rfl, a, _, rfl, .inl hS, _, _, rfl, _, _, rfl, _, rfl, ?_, ?_, for_range (fun i σ H' => ∃ o1 o2 o3 o4 o5 o6 : Option V, σ = [some (.ref a), o1, o2, o3, o4, o5, o6] ∧ LamX.ExtN H H' ∧ LamX.Tabs T3 H')
    ⟨none, none, none, none, none, none, rfl, LamX.ExtN.refl H, hT⟩ ?_ ?_⟩
  · show -(2 ^ 62) ≤ (if (if ((ns.map V.int).length : Int) < 5 then ((ns.map V.int).length : Int) else 5) > 1 then (if ((ns.map V.int).length : Int) < 5 then ((ns.map V.int).length : Int) else 5) else 1)
    split <;> split <;> omega
  · show (if (if ((ns.map V.int).length : Int) < 5 then ((ns.map V.int).length : Int) else 5) > 1 then (if ((ns.map V.int).length : Int) < 5 then ((ns.map V.int).length : Int) else 5) else 1) < 2 ^ 62
    split <;> split <;> omega
  · rintro i σ H2 hi ⟨o1, o2, o3, o4, o5, o6, rfl, eH, T2⟩
    refine ⟨_, rfl, _, rfl, a, ns, i, by rw [Int.zero_add]; rfl, ext_l eH hS, fun sp H3 hsp s3 src3 => ?_⟩
    refine ⟨_, rfl, _, rfl, sp, 10, rfl, src3, by decide, by decide, fun v9 H4 hv9 src4 k4 => ?_⟩
    refine ⟨sp, v9, rfl, src4, by omega, fun lp H5 xs rows hlp el hrows hlaw hlen2 src5 k5 => ?_⟩
    have nlp : lp ≠ sp := fun e => by
      rw [e] at hlp
      obtain ⟨_, _, _, z⟩ := src4
      rw [hlp] at z
      cases z
    have b5 : Same H2 H5 := fun b o z => k5 b o (ne_of_none z hsp) (k4 b o (ne_of_none z hsp) (s3 b o z))
    have S5 : LS K T3 sp lp xs rows H2 H5 := ⟨src5, el, hrows, LamX.ExtN.of b5, tabs_same T2 b5⟩
    have ok := hlaw.1
    have xl : xs.length = rows.length := Paired.length hrows
    refine ⟨_, rfl, sp, 2, rfl, src5, by decide, by decide, fun v2 H6 hv2 src6 k6 => ⟨rfl, ?_⟩⟩
    have S6 := S5.kept ok nlp hsp src6 k6
    generalize hF : decide (V.int (v2 : Int) = V.int 0) = flag
    -- taken, with the flag and without it
    refine ⟨S6.tabs, fun G1 w1 t1 => ⟨_, rfl, _, rfl, fun x dx hx hdx ne => mk_none hx hdx ne (w1 _ _ S6.lst (fun ps z => by cases z)) (S6.ext ok nlp hsp w1 t1).prow ok (by omega) fun Ga v1 => ⟨rfl, ?_⟩⟩⟩
    refine ⟨rfl, false, by simp, iteF ?_⟩
    have S7 := (S6.ext ok nlp hsp w1 t1).ext ok nlp hsp (LamX.ExtN.of v1) (tabs_same t1 v1)
    refine ⟨S7.tabs, fun G2 w2 t2 => ⟨_, rfl, fun x dx hx hdx ne => mk_none hx hdx ne (w2 _ _ S7.lst (fun ps z => by cases z)) (S7.ext ok nlp hsp w2 t2).prow ok (by omega) fun Gb v2' => ⟨rfl, ?_⟩⟩⟩
    refine ⟨rfl, false, by simp, iteF ?_⟩
    have S8 := (S7.ext ok nlp hsp w2 t2).ext ok nlp hsp (LamX.ExtN.of v2') (tabs_same t2 v2')
    clear v1 v2' w1 w2 t1 t2 S7
    -- six places
    refine ⟨_, rfl, by decide, by decide, for_range (fun j σ' G => ∃ (o3 o6 : Option V), σ' = [some (.ref a), some (.int (0 + (i : Int))), some (.ref sp), o3, some (.bl flag), some (.ref lp), o6] ∧ LS K T3 sp lp xs rows H2 G) ⟨_, _, rfl, S8⟩ ?_ ?_⟩
    · rintro j σ' G hj ⟨o3, o6, rfl, S⟩
      refine ⟨_, rfl, _, rfl, sp, lp, xs, rows, rfl, S.src, S.lst, nlp, S.prow, ok, by omega, hlaw.2.2, S.tabs, fun G1 src1 kn1 T1 => ⟨true, rfl, iteF ?_⟩⟩
      exact ⟨_, _, rfl, S.kn ok nlp hsp src1 kn1 T1⟩
    · rintro σ' G ⟨o3, o6, rfl, S⟩
      -- what is no list
      refine ⟨_, rfl, _, rfl, lp, xs, rfl, .inl ⟨SqL.of S.lst, fun a1 h1 => ?_⟩⟩
      have sa : Same G (upd G a1 (.tup xs)) := Same.new (Same.refl _) h1 _
      have ea : upd G a1 (.tup xs) a1 = some (.tup xs) := upd_same
      have ra := src_new (o := .tup xs) S.src h1
      have na1 := (src_ne S.src h1).symm
      generalize upd G a1 (.tup xs) = Ga at sa ea ra ⊢
      refine fun a2 h2 => ?_
      have sb : Same Ga (upd Ga a2 (.dK [])) := Same.new (Same.refl _) h2 _
      have eb : upd Ga a2 (.dK []) a2 = some (.dK []) := upd_same
      have rb := src_new (o := .dK []) ra h2
      have na2 := (src_ne ra h2).symm
      generalize upd Ga a2 (.dK []) = Gb at sb eb rb ⊢
      refine ⟨by show 6 ≤ sizeLine; decide, fun l1 hl1 => ?_⟩
      have sc : Same Gb (upd Gb l1 (.lst [.non, .ref a1, .ref a2, .str "rows", .int 5, .bl true])) := Same.new (Same.refl _) hl1 _
      have ecc : upd Gb l1 (.lst [.non, .ref a1, .ref a2, .str "rows", .int 5, .bl true]) l1 = some (.lst [.non, .ref a1, .ref a2, .str "rows", .int 5, .bl true]) := upd_same
      have rc := src_new (o := .lst [.non, .ref a1, .ref a2, .str "rows", .int 5, .bl true]) rb hl1
      have nl1 := (src_ne rb hl1).symm
      generalize upd Gb l1 (.lst [.non, .ref a1, .ref a2, .str "rows", .int 5, .bl true]) = Gc at sc ecc rc ⊢
      refine ⟨sp, l1, _, rfl, rc, SqL.of ecc, nl1, (by simp), by show 6 ≤ 1000; decide, fun ov H7 hov src7 k7 => ?_⟩
      have f1 := k7 _ _ na1 (sc _ _ (sb _ _ ea))
      have f2 := k7 _ _ na2 (sc _ _ eb)
      have oV : ∃ t : String, TyX K H7 ov (.type t) ∧ kitB t "list" = some false := by
        simp only [List.mem_cons, List.not_mem_nil, or_false] at hov
        rcases hov with rfl | rfl | rfl | rfl | rfl | rfl
        · exact ⟨_, .base .non, by decide +kernel⟩
        · exact ⟨_, .base (.tup f1), by decide +kernel⟩
        · exact ⟨_, .base (.dK f2), by decide +kernel⟩
        · exact ⟨_, .base (.str _), by decide +kernel⟩
        · exact ⟨_, .base (.int _), by decide +kernel⟩
        · exact ⟨_, .base (.bl _), by decide +kernel⟩
      obtain ⟨ot, oT, oK⟩ := oV
      have S9 := S.kn ok nlp hsp src7 ((KN.same ((sa.trans sb).trans sc)).trans (KN.of k7)) (tabs_kept rc (tabs_same S.tabs ((sa.trans sb).trans sc)) k7)
      refine ⟨S9.tabs, fun G1 w1 t1 => ⟨_, rfl, fun x dx hx hdx ne => mk_thing hx hdx ne (ty_kl (KL.ext w1) oT) oK (fun d Gd v0 _ ed => ⟨d, _, rfl, rfl, D0, ed, fun t Ge v1 et => ?_⟩)⟩⟩
      replace v1 := v0.trans v1
      refine ⟨_, rfl, by show 2 ≤ sizeLine; decide, fun t2 h2 => rne_tree (n := -1) (Same.new (Same.refl _) h2 _ _ _ et) upd_same ⟨false, rfl, iteF ?_⟩⟩
      have w2 : LamX.ExtN H7 (upd Ge t2 (.tup [.str "tree", .int (-1)])) := w1.trans (LamX.ExtN.of (v1.trans (Same.new (Same.refl _) h2 _)))
      have t3 : LamX.Tabs T3 (upd Ge t2 (.tup [.str "tree", .int (-1)])) := tabs_same t1 (v1.trans (Same.new (Same.refl _) h2 _))
      clear v1 v0 ed et w1 t1 hx hdx
      generalize upd Ge t2 (.tup [.str "tree", .int (-1)]) = GA at w2 t3 ⊢
      refine ⟨t3, fun G1 w1 t1 => ⟨_, rfl, fun x dx hx hdx ne => mk_thing hx hdx ne (ty_kl (KL.ext (w2.trans w1)) oT) oK (fun d Gd v0 _ ed => ⟨d, _, rfl, rfl, D0, ed, fun t Ge v1 et => ?_⟩)⟩⟩
      replace v1 := v0.trans v1
      refine ⟨_, rfl, by show 2 ≤ sizeLine; decide, fun t2 h2 => rne_tree (n := -1) (Same.new (Same.refl _) h2 _ _ _ et) upd_same ⟨false, rfl, iteF ?_⟩⟩
      have w4 : LamX.ExtN H7 (upd Ge t2 (.tup [.str "tree", .int (-1)])) := (w2.trans w1).trans (LamX.ExtN.of (v1.trans (Same.new (Same.refl _) h2 _)))
      have t4 : LamX.Tabs T3 (upd Ge t2 (.tup [.str "tree", .int (-1)])) := tabs_same t1 (v1.trans (Same.new (Same.refl _) h2 _))
      clear v1 v0 ed et w1 t1 hx hdx w2 t3
      generalize upd Ge t2 (.tup [.str "tree", .int (-1)]) = GB at w4 t4 ⊢
      have S10 := S9.ext ok nlp hsp w4 t4
      -- tops
      refine ⟨_, rfl, _, rfl, sp, lp, xs, rows, rfl, S10.src, S10.lst, nlp, S10.prow, ok, by omega, hlaw.2.2, S10.tabs, fun G1 src1 kn1 T1 => ⟨true, rfl, iteF ?_⟩⟩
      have S11 := S10.kn ok nlp hsp src1 kn1 T1
      exact ⟨_, _, _, _, _, _, rfl, eH.trans S11.base, S11.tabs⟩
  · rintro σ H2 ⟨o1, o2, o3, o4, o5, o6, rfl, eH, T2⟩
    exact q _
end
end Bd
end

section
namespace Bd
open PySem L2
/-- a def of the text as the top has written it -/
structure DK (K : PySem.W.Frag) (x : Str) (st : Stmt) (f : Addr) : Prop where
  at_ : PySem.W.nsIn K mainGlobals x = some (some (.ref f))
  fn : ∃ fd, Fun K x x st f fd
theorem dk_mk {K : PySem.W.Frag} {x : Str} {st : Stmt} {f : Addr} {oc : Value} {od an : Option Addr} {osl : Array (Option Value)} {kV doc pm cdv ct : Value} (a : PySem.W.nsIn K mainGlobals x = some (some (.ref f)))
    (l : K.lookup f = some ⟨oc, od, .func (PySem.W.fnOf x x (defArgs st) (defBody st) (defScope st) .none kV doc pm an cdv ct), osl⟩) (c : PySem.W.codeIn K cdv x = true) (k : PySem.W.keepIn K (.ref f) = true) : DK K x st f := ⟨a, _, fun_mk l c k⟩
/-- a method of the class -/
structure MK (K : PySem.W.Frag) (C : Addr) (m qual : Str) (st : Stmt) (f : Addr) : Prop where
  me : Meth K C m f
  fn : ∃ fd, Fun K m qual st f fd
theorem mk_mk {K : PySem.W.Frag} {C : Addr} {m qual : Str} {st : Stmt} {f : Addr} {oc : Value} {od an : Option Addr} {osl : Array (Option Value)} {kV doc pm cdv ct : Value} (a : PySem.W.findIn K (.ref C) m = some (some (.ref f))) (i : PySem.W.isFn K (.ref f) = true)
    (l : K.lookup f = some ⟨oc, od, .func (PySem.W.fnOf m qual (defArgs st) (defBody st) (defScope st) .none kV doc pm an cdv ct), osl⟩) (c : PySem.W.codeIn K cdv qual = true) (k : PySem.W.keepIn K (.ref f) = true) : MK K C m qual st f := ⟨⟨a, i, k⟩, _, fun_mk l c k⟩
/-- the maker, with its default -/
structure IK (K : PySem.W.Frag) (C f : Addr) : Prop where
  me : Meth K C "__init__" f
  fn : ∃ fd, FunD K "__init__" "Tree.__init__" (defArgs sInit) (defBody sInit) (defScope sInit) [.bl false] [] f fd
theorem ik_mk {K : PySem.W.Frag} {C f D : Addr} {oc dc : Value} {od an dd : Option Addr} {osl dsl : Array (Option Value)} {kV doc pm cdv ct : Value} {n : Nat} (a : PySem.W.findIn K (.ref C) "__init__" = some (some (.ref f))) (i : PySem.W.isFn K (.ref f) = true)
    (l : K.lookup f = some ⟨oc, od, .func (PySem.W.fnOf "__init__" "Tree.__init__" (defArgs sInit) (defBody sInit) (defScope sInit) (.ref D) kV doc pm an cdv ct), osl⟩) (c : PySem.W.codeIn K cdv "Tree.__init__" = true) (k : PySem.W.keepIn K (.ref f) = true)
    (d : K.lookup D = some ⟨dc, dd, .seq #[.bool false] n, dsl⟩) : IK K C f :=
  ⟨⟨a, i, k⟩, _, ⟨oc, od, .ref D, kV, doc, pm, an, cdv, ct, osl, rfl, l, c, .inr ⟨by simp, D, _, [.bool false], n, rfl, d, rfl, .cons rfl .nil⟩, .inl rfl⟩, k⟩
theorem init_binds2 {K : PySem.W.Frag} {f : Addr} {fd : FuncData} (F : FunD K "__init__" "Tree.__init__" (defArgs sInit) (defBody sInit) (defScope sInit) [.bl false] [] f fd) : Binds K fd ["self", "rows", "handing"] [] := by
  obtain ⟨ds, v, b⟩ := F.binds1 (ps := ["self", "rows", "handing"]) 3 1 (by simp) rfl fun T kV doc pm an cdv ct us its hl hi => match us, its, hl, hi with | [_, _, _], [_], _, _ => ⟨_, rfl, rfl⟩
  cases v
  exact b
theorem init_binds1 {K : PySem.W.Frag} {f : Addr} {fd : FuncData} (F : FunD K "__init__" "Tree.__init__" (defArgs sInit) (defBody sInit) (defScope sInit) [.bl false] [] f fd) : Binds K fd ["self", "rows", "handing"] [.bool false] := by
  obtain ⟨ds, v, b⟩ := F.binds1 (ps := ["self", "rows", "handing"]) 2 0 (by simp) rfl fun T kV doc pm an cdv ct us its hl hi => match us, its, hl, hi with | [_, _], [_], _, _ => ⟨_, rfl, rfl⟩
  cases v with
  | cons a r =>
    cases r
    cases a
    exact b
theorem cod_mk {K : PySem.W.Frag} {x : Str} {st : Stmt} {f c : Addr} {oc : Value} {od an : Option Addr} {osl : Array (Option Value)} {kV doc pm ct : Value} (a : PySem.W.nsIn K mainGlobals x = some (some (.ref f)))
    (l : K.lookup f = some ⟨oc, od, .func (PySem.W.fnOf x x (defArgs st) (defBody st) (defScope st) .none kV doc pm an (.ref c) ct), osl⟩) (cc : PySem.W.codeIn K (.ref c) x = true) (k : PySem.W.keepIn K (.ref f) = true) :
    PySem.W.nsIn K mainGlobals x = some (some (.ref f)) ∧ ∃ fd, Fun K x x st f fd ∧ fd.code = .ref c := ⟨a, _, fun_mk l cc k, rfl⟩
/-- an own class asks what an own class is -/
theorem kit_own {K : PySem.W.Frag} {C D : Addr} {cd : PySem.ClassData} {b : Bool} (n : (D == C) = false) (c : PySem.W.clsIn K C = some cd) (t : PySem.W.typeIn K (.ref C) = some (.type "type")) (s : PySem.W.subIn K (.ref D) (.ref C) = some b) : PySem.W.kitOne K (.ref D) (.ref C) = some b := by
  unfold PySem.W.kitOne
  rw [if_neg (by
    intro z
    cases eq_of_beq z
    rw [beq_self_eq_true] at n
    cases n)]
  unfold PySem.W.kitCls
  simp only [c, t, s, Option.isSome_some, Bool.true_and]
  rw [if_pos (by rfl)]
theorem kit_val {K : PySem.W.Frag} {D : Addr} (s : PySem.W.subIn K (.ref D) (.type "ValueError") = some true) : PySem.W.kitOne K (.ref D) (.type "ValueError") = some true := by
  unfold PySem.W.kitOne
  rw [if_neg (by intro z; cases (eq_of_beq z))]
  unfold PySem.W.kitCls
  simp only [s]
  rw [if_pos (by decide +kernel)]
def ecOf (c0 c1 c2 c3 c4 c5 c6 : Addr) : Nat → Addr
  | 0 => c0
  | 1 => c1
  | 2 => c2
  | 3 => c3
  | 4 => c4
  | 5 => c5
  | _ => c6
def leftOf (a1 a2 a3 : Addr) : List (Key × V) := [((Sum.inr "min" : Key), (.ref a1 : V)), ((Sum.inr "low" : Key), (.ref a2 : V)), ((Sum.inr "max" : Key), (.str "endless" : V)), ((Sum.inr "quota" : Key), (.str "endless" : V)), ((Sum.inr "burst" : Key), (.ref a3 : V)), ((Sum.inr "tops" : Key), (.str "endless" : V)), ((Sum.inr "sets" : Key), (.non : V)), ((Sum.inr "alone" : Key), (.int 0 : V))]
/-- the facts of the top -/
structure Tops (P : Program) (w : World) (K : PySem.W.Frag) (mg : Str → Option Value) (C aL CE fI : Addr) (ec : Nat → Addr) (left : List (Key × V)) : Prop where
  tp : TP P w K mg aL left
  lv : ∀ H, Paired (PV K H) left leftD
  tc : TC K mg C
  tn : TN K mg
  ta : TA mg
  xs : XS mg CE ec
  xf : XfC K (ec 0)
  d0 : XD K CE ec 0
  de : DE K mg CE (.type "type")
  nt : NT K mg (ec 0) fI
/-- what the top has written -/
theorem tops_mk {P : Program} {w : World} {K : PySem.W.Frag} {h : Heap} {mg : Str → Option Value} {C aL CE fI a1 a2 a3 q0 q1 q2 q3 q4 q5 q6 : Addr} (X : K.In h) (G : h.Ns mainGlobals mg)
    {tl te tg u3 u4 u6 u8 t1 t2 t3 t4 t5 t6 t7 t8 : Tok} {h1 h2 h3 h4 h5 h6 h7 h8 : Int} {k0 k1 k2 k3 k4 k5 k6 : PySem.ClassData} {ep n1 n2 n3 : Nat} {x1 x2 x3 : Option Addr} {y1 y2 y3 : Array (Option Value)} {p1 p2 p3 p4 p5 p6 : Tok}
    (cz_len : PySem.W.nsIn K mainGlobals "len" = some none)
    (cz_int : PySem.W.nsIn K mainGlobals "int" = some none)
    (cz_bool : PySem.W.nsIn K mainGlobals "bool" = some none)
    (cz_str : PySem.W.nsIn K mainGlobals "str" = some none)
    (cz_tuple : PySem.W.nsIn K mainGlobals "tuple" = some none)
    (cz_list : PySem.W.nsIn K mainGlobals "list" = some none)
    (cz_dict : PySem.W.nsIn K mainGlobals "dict" = some none)
    (cz_all : PySem.W.nsIn K mainGlobals "all" = some none)
    (cz_enumerate : PySem.W.nsIn K mainGlobals "enumerate" = some none)
    (cz_isinstance : PySem.W.nsIn K mainGlobals "isinstance" = some none)
    (cz_range : PySem.W.nsIn K mainGlobals "range" = some none)
    (cz_abs : PySem.W.nsIn K mainGlobals "abs" = some none)
    (cz_max : PySem.W.nsIn K mainGlobals "max" = some none)
    (cz_min : PySem.W.nsIn K mainGlobals "min" = some none)
    (cz_ValueError : PySem.W.nsIn K mainGlobals "ValueError" = some none)
    (cgL : PySem.W.nsIn K mainGlobals "LONG" = some (some (.int 3000 tl)))
    (cgE : PySem.W.nsIn K mainGlobals "ENDLESS" = some (some (.str "endless" te)))
    (cgG : PySem.W.nsIn K mainGlobals "GREATEST_PROCESSOR" = some (some (.int 63 tg)))
    (cgO : PySem.W.nsIn K mainGlobals "LEFT_OUT" = some (some (.ref aL)))
    (ckO : K.lookup aL = some ⟨.type "dict", none, .dict #[⟨h1, .str "min" t1, .ref a1⟩, ⟨h2, .str "low" t2, .ref a2⟩, ⟨h3, .str "max" t3, .str "endless" u3⟩, ⟨h4, .str "quota" t4, .str "endless" u4⟩, ⟨h5, .str "burst" t5, .ref a3⟩, ⟨h6, .str "tops" t6, .str "endless" u6⟩, ⟨h7, .str "sets" t7, .none⟩, ⟨h8, .str "alone" t8, .int 0 u8⟩] ep, #[]⟩)
    (cl1 : K.lookup a1 = some ⟨.type "tuple", x1, .seq #[.int 0 p1, .int 1 p2] n1, y1⟩)
    (cl2 : K.lookup a2 = some ⟨.type "tuple", x2, .seq #[.int 0 p3, .int 1 p4] n2, y2⟩)
    (cl3 : K.lookup a3 = some ⟨.type "tuple", x3, .seq #[.int 0 p5, .int 1 p6] n3, y3⟩)
    (cgC : PySem.W.nsIn K mainGlobals "Tree" = some (some (.ref C)))
    (cpg : PySem.W.plainGet K C Str.empty = true)
    (chd : PySem.W.hasDictIn K C = true)
    (cpo : PySem.W.plainOver K C = true)
    (csa : PySem.W.findIn K (.ref C) "__setattr__" = some (some (.builtin "object.__setattr__")))
    (cnO : PySem.W.findIn K (.ref C) "order" = some none)
    (cnP : PySem.W.findIn K (.ref C) "parents" = some none)
    (cnK : PySem.W.findIn K (.ref C) "kids" = some none)
    (cnT : PySem.W.findIn K (.ref C) "table" = some none)
    (cnH : PySem.W.findIn K (.ref C) "hands" = some none)
    (cE : PySem.W.nsIn K mainGlobals "DueError" = some (some (.ref CE)))
    (ce0g : PySem.W.nsIn K mainGlobals "NoTree" = some (some (.ref q0)))
    (ce1g : PySem.W.nsIn K mainGlobals "NoName" = some (some (.ref q1)))
    (ce2g : PySem.W.nsIn K mainGlobals "NoWord" = some (some (.ref q2)))
    (ce3g : PySem.W.nsIn K mainGlobals "NoDue" = some (some (.ref q3)))
    (ce4g : PySem.W.nsIn K mainGlobals "NoUses" = some (some (.ref q4)))
    (ce5g : PySem.W.nsIn K mainGlobals "NoKind" = some (some (.ref q5)))
    (ce6g : PySem.W.nsIn K mainGlobals "NoAmount" = some (some (.ref q6)))
    (cEb : PySem.W.subIn K (.ref CE) (.type "BaseException") = some true)
    (cEh : PySem.W.hasDictIn K CE = true)
    (cEt : PySem.W.typeIn K (.ref CE) = some (.type "type"))
    (ce0c : PySem.W.clsIn K q0 = some k0)
    (ce0t : PySem.W.typeIn K (.ref q0) = some (.type "type"))
    (ce1c : PySem.W.clsIn K q1 = some k1)
    (ce1t : PySem.W.typeIn K (.ref q1) = some (.type "type"))
    (ce2c : PySem.W.clsIn K q2 = some k2)
    (ce2t : PySem.W.typeIn K (.ref q2) = some (.type "type"))
    (ce3c : PySem.W.clsIn K q3 = some k3)
    (ce3t : PySem.W.typeIn K (.ref q3) = some (.type "type"))
    (ce4c : PySem.W.clsIn K q4 = some k4)
    (ce4t : PySem.W.typeIn K (.ref q4) = some (.type "type"))
    (ce5c : PySem.W.clsIn K q5 = some k5)
    (ce5t : PySem.W.typeIn K (.ref q5) = some (.type "type"))
    (ce6c : PySem.W.clsIn K q6 = some k6)
    (ce6t : PySem.W.typeIn K (.ref q6) = some (.type "type"))
    (cr1 : PySem.W.readsIn K CE (.type "type") = true)
    (cr2 : PySem.W.specialIn K (.ref CE) "__getattribute__" = some (some (.builtin "type.__getattribute__")))
    (cr3 : PySem.W.findCls K (.ref CE) (.type "type") "__init__" = some (.val (.builtin "ValueError.__init__")))
    (co0 : PySem.W.findIn K (.ref q0) "__init__" = some (some (.ref fI)))
    (co1 : ∃ nm q N bs bm sn sub ab col dd k0 k1 k2 k3 k5, K.lookup q0 = some (excClassObj nm q q0 N bs bm true sn sub ab col dd k0 k1 k2 k3 k5 "ValueError.__new__") ∧ PySem.HandSPX.refsVE bm = true)
    (co2 : PySem.W.findIn K (.ref q0) "__setattr__" = some (some (.builtin "object.__setattr__")))
    (co3 : PySem.W.findIn K (.ref q0) "at" = some none)
    (co4 : PySem.W.typeIn K (.ref fI) = some (.type "function"))
    (cin : PySem.W.specialIn K (.builtin "object.__class__") "__get__" = some (some (.builtin "getset_descriptor.__get__")))
    (cit : PySem.W.takesIn K (.builtin "object.__class__") = some true)
    (cx0k : PySem.W.keepIn K (.ref q0) = true)
    (cx0b : PySem.W.subIn K (.ref q0) (.type "BaseException") = some true)
    (cx0g : PySem.W.findIn K (.ref q0) "__getattribute__" = some (some (.builtin "BaseException.__getattribute__")))
    (cx0a : PySem.W.findIn K (.ref q0) "__getattr__" = some none)
    (cx0h : PySem.W.hasDictIn K q0 = true)
    (cx0c : PySem.W.findIn K (.ref q0) "__class__" = some (some (.builtin "object.__class__")))
    (cx0m : PySem.W.mroIn K q0 (.type "object") = some true)
    (cx0e : PySem.W.subIn K (.ref q0) (.ref CE) = some true)
    (cx0v : PySem.W.subIn K (.ref q0) (.type "ValueError") = some true)
    (cx0s1 : PySem.W.subIn K (.ref q0) (.ref q1) = some false)
    (cx0s2 : PySem.W.subIn K (.ref q0) (.ref q2) = some false)
    (cx0s3 : PySem.W.subIn K (.ref q0) (.ref q3) = some false)
    (cx0s4 : PySem.W.subIn K (.ref q0) (.ref q4) = some false)
    (cx0s5 : PySem.W.subIn K (.ref q0) (.ref q5) = some false)
    (cx0s6 : PySem.W.subIn K (.ref q0) (.ref q6) = some false)
    (clo : (aL == sysModules) = false)
    (ch1 : h1 = hashStr w "min")
    (ch2 : h2 = hashStr w "low")
    (ch3 : h3 = hashStr w "max")
    (ch4 : h4 = hashStr w "quota")
    (ch5 : h5 = hashStr w "burst")
    (ch6 : h6 = hashStr w "tops")
    (ch7 : h7 = hashStr w "sets")
    (ch8 : h8 = hashStr w "alone")
    (cy0n1 : (q0 == q1) = false)
    (cy0n2 : (q0 == q2) = false)
    (cy0n3 : (q0 == q3) = false)
    (cy0n4 : (q0 == q4) = false)
    (cy0n5 : (q0 == q5) = false)
    (cy0n6 : (q0 == q6) = false)
    : Tops P w K mg C aL CE fI (ecOf q0 q1 q2 q3 q4 q5 q6) (leftOf a1 a2 a3) := by
  have L : ∀ {a : Addr} {x : Option Addr} {n : Nat} {y : Array (Option Value)} {p q : Tok}, K.lookup a = some ⟨.type "tuple", x, .seq #[.int 0 p, .int 1 q] n, y⟩ → ∀ H, Dp K H (.ref a) (.tuple [.int 0, .int 1]) := fun e H =>
    .tup (xs := [V.int 0, V.int 1]) (.inr ⟨_, _, _, e, rfl, rfl, by show 2 ≤ sizeLine; decide, .cons ⟨_, rfl⟩ (.cons ⟨_, rfl⟩ .nil)⟩) (.cons (.int _) (.cons (.int _) .nil))
  refine ⟨⟨PySem.W.mg_none_of X G cz_len, PySem.W.mg_none_of X G cz_int, PySem.W.mg_none_of X G cz_bool, PySem.W.mg_none_of X G cz_str, PySem.W.mg_none_of X G cz_tuple, PySem.W.mg_none_of X G cz_list, PySem.W.mg_none_of X G cz_dict, PySem.W.mg_none_of X G cz_all, PySem.W.mg_none_of X G cz_enumerate, PySem.W.mg_none_of X G cz_isinstance, ⟨_, PySem.W.mg_of X G cgL⟩, ⟨_, PySem.W.mg_of X G cgE⟩, ⟨_, PySem.W.mg_of X G cgG⟩, PySem.W.mg_of X G cgO, ⟨clo, ?_, by show 8 ≤ 1000; decide⟩, rfl⟩, fun H => ?_,
    ⟨⟨cpg, chd, cpo, csa⟩, cnO, cnP, cnK, cnT, cnH, PySem.W.mg_of X G cgC⟩, ⟨PySem.W.mg_none_of X G cz_max, PySem.W.mg_none_of X G cz_min⟩,
    ⟨PySem.W.mg_none_of X G cz_len, PySem.W.mg_none_of X G cz_int, PySem.W.mg_none_of X G cz_range, PySem.W.mg_none_of X G cz_abs, PySem.W.mg_none_of X G cz_tuple, PySem.W.mg_none_of X G cz_list, PySem.W.mg_none_of X G cz_enumerate⟩, ⟨PySem.W.mg_of X G cE, PySem.W.mg_none_of X G cz_ValueError, PySem.W.mg_none_of X G cz_isinstance, PySem.W.mg_of X G ce0g, PySem.W.mg_of X G ce1g, PySem.W.mg_of X G ce2g, PySem.W.mg_of X G ce3g, PySem.W.mg_of X G ce4g, PySem.W.mg_of X G ce5g, PySem.W.mg_of X G ce6g⟩,
    ⟨cx0g, cx0a, cx0b, cx0h⟩, ⟨⟨cx0g, cx0a, cx0b, cx0h, cx0c, cin, cit, cx0m⟩, PySem.W.exm_ref cEb cEh cEt cx0e, fun j hj => ?_, kit_val cx0v⟩, ⟨PySem.W.mg_of X G cE, ⟨cr1, cr2⟩, cr3⟩, ⟨⟨co1, co2, cx0b, ce0t, cx0k⟩, co3, PySem.W.mg_of X G ce0g, co0, co4⟩⟩
  · refine ⟨[((Sum.inr "min" : Key), (.ref a1 : Value)), ((Sum.inr "low" : Key), (.ref a2 : Value)), ((Sum.inr "max" : Key), (.str "endless" u3 : Value)), ((Sum.inr "quota" : Key), (.str "endless" u4 : Value)), ((Sum.inr "burst" : Key), (.ref a3 : Value)), ((Sum.inr "tops" : Key), (.str "endless" u6 : Value)), ((Sum.inr "sets" : Key), (.none : Value)), ((Sum.inr "alone" : Key), (.int 0 u8 : Value))], .cons ⟨rfl, rfl⟩ (.cons ⟨rfl, rfl⟩ (.cons ⟨rfl, ⟨_, rfl⟩⟩ (.cons ⟨rfl, ⟨_, rfl⟩⟩ (.cons ⟨rfl, rfl⟩ (.cons ⟨rfl, ⟨_, rfl⟩⟩ (.cons ⟨rfl, rfl⟩ (.cons ⟨rfl, ⟨_, rfl⟩⟩ (.nil)))))))), fun h2 X2 => ⟨_, _, _, X2 _ _ ckO, ⟨rfl, rfl, rfl⟩, rfl, fun e he => ?_, .cons (by simp [mixKind, keyIs, Value.isStrOf]) rfl (.cons (by simp [mixKind, keyIs, Value.isStrOf]) rfl (.cons (by simp [mixKind, keyIs, Value.isStrOf]) rfl (.cons (by simp [mixKind, keyIs, Value.isStrOf]) rfl (.cons (by simp [mixKind, keyIs, Value.isStrOf]) rfl (.cons (by simp [mixKind, keyIs, Value.isStrOf]) rfl (.cons (by simp [mixKind, keyIs, Value.isStrOf]) rfl (.cons (by simp [mixKind, keyIs, Value.isStrOf]) rfl (.nil)))))))), ?_⟩⟩
    · simp only [List.mem_toArray, List.mem_cons, List.not_mem_nil, or_false] at he
      rcases he with rfl | rfl | rfl | rfl | rfl | rfl | rfl | rfl
      · exact ⟨Sum.inr "min", by simp [mixKind, keyIs, Value.isStrOf], ch1⟩
      · exact ⟨Sum.inr "low", by simp [mixKind, keyIs, Value.isStrOf], ch2⟩
      · exact ⟨Sum.inr "max", by simp [mixKind, keyIs, Value.isStrOf], ch3⟩
      · exact ⟨Sum.inr "quota", by simp [mixKind, keyIs, Value.isStrOf], ch4⟩
      · exact ⟨Sum.inr "burst", by simp [mixKind, keyIs, Value.isStrOf], ch5⟩
      · exact ⟨Sum.inr "tops", by simp [mixKind, keyIs, Value.isStrOf], ch6⟩
      · exact ⟨Sum.inr "sets", by simp [mixKind, keyIs, Value.isStrOf], ch7⟩
      · exact ⟨Sum.inr "alone", by simp [mixKind, keyIs, Value.isStrOf], ch8⟩
    · show ([Sum.inr "min", Sum.inr "low", Sum.inr "max", Sum.inr "quota", Sum.inr "burst", Sum.inr "tops", Sum.inr "sets", Sum.inr "alone"] : List Key).Nodup
      decide
  · exact .cons ⟨rfl, L cl1 H⟩ (.cons ⟨rfl, L cl2 H⟩ (.cons ⟨rfl, .str _⟩ (.cons ⟨rfl, .str _⟩ (.cons ⟨rfl, L cl3 H⟩ (.cons ⟨rfl, .str _⟩ (.cons ⟨rfl, .non⟩ (.cons ⟨rfl, .int _⟩ (.nil))))))))
  · rcases (show j = 0 ∨ j = 1 ∨ j = 2 ∨ j = 3 ∨ j = 4 ∨ j = 5 ∨ j = 6 by omega) with rfl | rfl | rfl | rfl | rfl | rfl | rfl
    · show PySem.W.kitOne K (.ref q0) (.ref q0) = some true
      unfold PySem.W.kitOne
      exact if_pos (beq_self_eq_true _)
    · exact kit_own cy0n1 ce1c ce1t cx0s1
    · exact kit_own cy0n2 ce2c ce2t cx0s2
    · exact kit_own cy0n3 ce3c ce3t cx0s3
    · exact kit_own cy0n4 ce4c ce4t cx0s4
    · exact kit_own cy0n5 ce5c ce5t cx0s5
    · exact kit_own cy0n6 ce6c ce6t cx0s6
theorem all_mk {l : PySem.W.OpenLaw} {w : World} {K : PySem.W.Frag} {h : Heap} {mg : Str → Option Value} {fa C aL CE fI c1 P1 c2 P2 c3 P3 : Addr} {ec : Nat → Addr} {left : List (Key × V)} { i : Addr} {f0 f1 f2 f3 f4 f5 f6 f7 f8 f9 f10 f11 f12 f13 f14 f15 f16 f17 f18 f19 f20 f21 f22 f23 f24 f25 f26 f27 f28 f29 f30 f31 : Addr} (X : K.In h) (G : h.Ns mainGlobals mg) (hfa : mg "law" = some (.ref fa)) (TT : Tops l.prog w K mg C aL CE fI ec left)
    (D0 : DK K "is_integer" sIsInteger f0)
    (D1 : DK K "is_amount" sIsAmount f1)
    (D2 : DK K "divisor" sDivisor f2)
    (D3 : DK K "is_name" sIsName f3)
    (D4 : DK K "is_word" sIsWord f4)
    (D5 : DK K "is_endless" sIsEndless f5)
    (D6 : DK K "is_set" sIsSet f6)
    (D7 : DK K "may_have" sMayHave f7)
    (D8 : DK K "is_due" sIsDue f8)
    (D9 : DK K "is_dues" sIsDues f9)
    (D10 : DK K "is_group_row" sIsGroupRow f10)
    (D11 : DK K "may_stand" sMayStand f11)
    (D12 : DK K "_law_cell_at" sCellAt f12)
    (D13 : DK K "_law_mixed" sMixed f13)
    (D14 : DK K "_law_source" sSource f14)
    (D15 : DK K "_law_next" sNext f15)
    (D16 : DK K "_law_one" sOne f16)
    (D17 : DK K "_law_common" sCommon f17)
    (D18 : DK K "_law_fraction" sFraction f18)
    (D19 : DK K "_law_amount" sAmount f19)
    (D20 : DK K "_law_names" sNames2 f20)
    (D21 : DK K "_law_rows" sRows2 f21)
    (D22 : DK K "_law_leaves" sLeaves2 f22)
    (D23 : DK K "_law_words" sWords f23)
    (D24 : DK K "_law_value" sValue2 f24)
    (D25 : DK K "_law_full_rows" sFull f25)
    (D26 : DK K "_law_said" sSaid f26)
    (D27 : DK K "_law_bad_value" sBad f27)
    (D28 : DK K "_law_bad_row" sBadR f28)
    (D29 : PySem.W.nsIn K mainGlobals "_law_places_right" = some (some (.ref f29)) ∧ ∃ fd, Fun K "_law_places_right" "_law_places_right" sPlaces f29 fd ∧ fd.code = .ref c2)
    (D30 : PySem.W.nsIn K mainGlobals "_law_tops_right" = some (some (.ref f30)) ∧ ∃ fd, Fun K "_law_tops_right" "_law_tops_right" sTopsR f30 fd ∧ fd.code = .ref c3)
    (D31 : PySem.W.nsIn K mainGlobals "law" = some (some (.ref f31)) ∧ ∃ fd, Fun K "law" "law" sLaw f31 fd ∧ fd.code = .ref c1)
    (DI : IK K C i) (mk : PySem.W.makesIn K C = true) (kc : PySem.W.keepIn K (.ref C) = true)
    (MN : MK K (ec 0) "__init__" "NoTree.__init__" sNTI fI)
    (p12 : (P1 == P2) = false) (p13 : (P1 == P3) = false) (p23 : (P2 == P3) = false) {k1c : Value} {k1d : Option Addr} {k1v : Array Value} {k1s : Array (Option Value)} (lk1 : K.lookup c1 = some ⟨k1c, k1d, .fields k1v, k1s⟩) (lv1 : (k1v[11]? : Option Value) = some (.ref P1)) (tk1 : PySem.W.codeHdIn K c1 P1 = true) (tn1 : K.lookup P1 = none) (th1 : h.get? P1 = some (PySem.W.tabObj #[])) {k2c : Value} {k2d : Option Addr} {k2v : Array Value} {k2s : Array (Option Value)} (lk2 : K.lookup c2 = some ⟨k2c, k2d, .fields k2v, k2s⟩) (lv2 : (k2v[11]? : Option Value) = some (.ref P2)) (tk2 : PySem.W.codeHdIn K c2 P2 = true) (tn2 : K.lookup P2 = none) (th2 : h.get? P2 = some (PySem.W.tabObj #[])) {k3c : Value} {k3d : Option Addr} {k3v : Array Value} {k3s : Array (Option Value)} (lk3 : K.lookup c3 = some ⟨k3c, k3d, .fields k3v, k3s⟩) (lv3 : (k3v[11]? : Option Value) = some (.ref P3)) (tk3 : PySem.W.codeHdIn K c3 P3 = true) (tn3 : K.lookup P3 = none) (th3 : h.get? P3 = some (PySem.W.tabObj #[])) :
    LamX.LawAtS l w K CX0 12 63 "_law_script" mg fa h := by
  have e1 := hfa.symm.trans (PySem.W.mg_of X G D31.1)
  cases e1
  obtain ⟨d0, F0⟩ := D0.fn
  obtain ⟨d1, F1⟩ := D1.fn
  obtain ⟨d2, F2⟩ := D2.fn
  obtain ⟨d3, F3⟩ := D3.fn
  obtain ⟨d4, F4⟩ := D4.fn
  obtain ⟨d5, F5⟩ := D5.fn
  obtain ⟨d6, F6⟩ := D6.fn
  obtain ⟨d7, F7⟩ := D7.fn
  obtain ⟨d8, F8⟩ := D8.fn
  obtain ⟨d9, F9⟩ := D9.fn
  obtain ⟨d10, F10⟩ := D10.fn
  obtain ⟨d11, F11⟩ := D11.fn
  obtain ⟨d12, F12⟩ := D12.fn
  obtain ⟨d13, F13⟩ := D13.fn
  obtain ⟨d14, F14⟩ := D14.fn
  obtain ⟨d15, F15⟩ := D15.fn
  obtain ⟨d16, F16⟩ := D16.fn
  obtain ⟨d17, F17⟩ := D17.fn
  obtain ⟨d18, F18⟩ := D18.fn
  obtain ⟨d19, F19⟩ := D19.fn
  obtain ⟨d20, F20⟩ := D20.fn
  obtain ⟨d21, F21⟩ := D21.fn
  obtain ⟨d22, F22⟩ := D22.fn
  obtain ⟨d23, F23⟩ := D23.fn
  obtain ⟨d24, F24⟩ := D24.fn
  obtain ⟨d25, F25⟩ := D25.fn
  obtain ⟨d26, F26⟩ := D26.fn
  obtain ⟨d27, F27⟩ := D27.fn
  obtain ⟨d28, F28⟩ := D28.fn
  obtain ⟨g29, d29, F29, hc2⟩ := D29
  obtain ⟨g30, d30, F30, hc3⟩ := D30
  obtain ⟨g31, d31, F31, hc1⟩ := D31
  obtain ⟨di, FIn⟩ := DI.fn
  obtain ⟨dn, FNt⟩ := MN.fn
  have bN : Binds K dn ["self", "at"] [] := FNt.binds fun _ _ _ _ _ _ us hl => match us, hl with | [_, _], _ => rfl
  have T := TT.tp
  have TCl := TT.tc
  have TA1 := TT.ta
  have b0 : Binds K d0 ["thing"] [] := F0.binds fun _ _ _ _ _ _ us hl => match us, hl with | [_], _ => rfl
  have b1 : Binds K d1 ["thing"] [] := F1.binds fun _ _ _ _ _ _ us hl => match us, hl with | [_], _ => rfl
  have b2 : Binds K d2 ["one", "other"] [] := F2.binds fun _ _ _ _ _ _ us hl => match us, hl with | [_, _], _ => rfl
  have b3 : Binds K d3 ["thing"] [] := F3.binds fun _ _ _ _ _ _ us hl => match us, hl with | [_], _ => rfl
  have b4 : Binds K d4 ["thing"] [] := F4.binds fun _ _ _ _ _ _ us hl => match us, hl with | [_], _ => rfl
  have b5 : Binds K d5 ["thing"] [] := F5.binds fun _ _ _ _ _ _ us hl => match us, hl with | [_], _ => rfl
  have b6 : Binds K d6 ["thing"] [] := F6.binds fun _ _ _ _ _ _ us hl => match us, hl with | [_], _ => rfl
  have b7 : Binds K d7 ["word", "value"] [] := F7.binds fun _ _ _ _ _ _ us hl => match us, hl with | [_, _], _ => rfl
  have b8 : Binds K d8 ["thing"] [] := F8.binds fun _ _ _ _ _ _ us hl => match us, hl with | [_], _ => rfl
  have b9 : Binds K d9 ["thing"] [] := F9.binds fun _ _ _ _ _ _ us hl => match us, hl with | [_], _ => rfl
  have b10 : Binds K d10 ["thing"] [] := F10.binds fun _ _ _ _ _ _ us hl => match us, hl with | [_], _ => rfl
  have b11 : Binds K d11 ["tree", "row"] [] := F11.binds fun _ _ _ _ _ _ us hl => match us, hl with | [_, _], _ => rfl
  have b12 : Binds K d12 ["_law_script", "_law_k"] [] := F12.binds fun _ _ _ _ _ _ us hl => match us, hl with | [_, _], _ => rfl
  have b13 : Binds K d13 ["_law_cell", "_law_k"] [] := F13.binds fun _ _ _ _ _ _ us hl => match us, hl with | [_, _], _ => rfl
  have b14 : Binds K d14 ["_law_script", "_law_k"] [] := F14.binds fun _ _ _ _ _ _ us hl => match us, hl with | [_, _], _ => rfl
  have b15 : Binds K d15 ["_law_source_here", "_law_many"] [] := F15.binds fun _ _ _ _ _ _ us hl => match us, hl with | [_, _], _ => rfl
  have b16 : Binds K d16 ["_law_source_here", "_law_things"] [] := F16.binds fun _ _ _ _ _ _ us hl => match us, hl with | [_, _], _ => rfl
  have b17 : Binds K d17 ["_law_one_here", "_law_other"] [] := F17.binds fun _ _ _ _ _ _ us hl => match us, hl with | [_, _], _ => rfl
  have b18 : Binds K d18 ["_law_top", "_law_bottom"] [] := F18.binds fun _ _ _ _ _ _ us hl => match us, hl with | [_, _], _ => rfl
  have b19 : Binds K d19 ["_law_source_here"] [] := F19.binds fun _ _ _ _ _ _ us hl => match us, hl with | [_], _ => rfl
  have b20 : Binds K d20 ["_law_source_here", "_law_many"] [] := F20.binds fun _ _ _ _ _ _ us hl => match us, hl with | [_, _], _ => rfl
  have b21 : Binds K d21 ["_law_source_here", "_law_many", "_law_words_here"] [] := F21.binds fun _ _ _ _ _ _ us hl => match us, hl with | [_, _, _], _ => rfl
  have b22 : Binds K d22 ["_law_rows_here"] [] := F22.binds fun _ _ _ _ _ _ us hl => match us, hl with | [_], _ => rfl
  have b23 : Binds K d23 [] [] := F23.binds fun _ _ _ _ _ _ us hl => match us, hl with | [], _ => rfl
  have b24 : Binds K d24 ["_law_source_here", "_law_word"] [] := F24.binds fun _ _ _ _ _ _ us hl => match us, hl with | [_, _], _ => rfl
  have b25 : Binds K d25 ["_law_source_here", "_law_many"] [] := F25.binds fun _ _ _ _ _ _ us hl => match us, hl with | [_, _], _ => rfl
  have b26 : Binds K d26 ["_law_ask"] [] := F26.binds fun _ _ _ _ _ _ us hl => match us, hl with | [_], _ => rfl
  have b27 : Binds K d27 ["_law_source_here", "_law_word"] [] := F27.binds fun _ _ _ _ _ _ us hl => match us, hl with | [_, _], _ => rfl
  have b28 : Binds K d28 ["_law_source_here", "_law_ahead"] [] := F28.binds fun _ _ _ _ _ _ us hl => match us, hl with | [_, _], _ => rfl
  have b29 : Binds K d29 ["_law_source_here", "_law_lines"] [] := F29.binds fun _ _ _ _ _ _ us hl => match us, hl with | [_, _], _ => rfl
  have b30 : Binds K d30 ["_law_source_here", "_law_lines"] [] := F30.binds fun _ _ _ _ _ _ us hl => match us, hl with | [_, _], _ => rfl
  obtain ⟨oc, od, kV, doc, pm, an, cdv, ct, osl, rfl, lk, hcd⟩ := id F31.ex
  refine ⟨PySem.W.fnOf "law" "law" (defArgs sLaw) (defBody sLaw) (defScope sLaw) .none kV doc pm an cdv ct, [(c1, P1), (c2, P2), (c3, P3)], spLaw K [(P1, ("law.<locals>.<lambda>" : Str)), (P2, ("_law_places_right.<locals>.<lambda>" : Str)), (P3, ("_law_tops_right.<locals>.<lambda>" : Str))], fun p hp => ?_, fun p hp => ?_, fun p hp => ?_, fun s v => .of_eq rfl, fun H a ns hl _ hT hS => ?_, fun base _ _ hB => ?_⟩
  · simp only [List.mem_cons, List.not_mem_nil, or_false] at hp
    rcases hp with rfl | rfl | rfl
    · exact th1
    · exact th2
    · exact th3
  · simp only [List.mem_cons, List.not_mem_nil, or_false] at hp
    rcases hp with rfl | rfl | rfl
    · exact tn1
    · exact tn2
    · exact tn3
  · simp only [List.mem_cons, List.not_mem_nil, or_false] at hp
    rcases hp with rfl | rfl | rfl
    · exact PySem.W.codeHd_of_K X tk1
    · exact PySem.W.codeHd_of_K X tk2
    · exact PySem.W.codeHd_of_K X tk3
  · refine ⟨a, ns, rfl, hS, hl, fun p hp => ?_, fun _ => rfl⟩
    simp only [List.mem_cons, List.not_mem_nil, or_false] at hp
    rcases hp with rfl | rfl | rfl
    · exact .nil (hT (c1, P1) (by simp))
    · exact .nil (hT (c2, P2) (by simp))
    · exact .nil (hT (c3, P3) (by simp))
  have TB1 : LamX.TabB base mg c1 P1 := hB (c1, P1) (by simp)
  have TB2 : LamX.TabB base mg c2 P2 := hB (c2, P2) (by simp)
  have TB3 : LamX.TabB base mg c3 P3 := hB (c3, P3) (by simp)
  have ne : ∀ {a b : Addr}, (a == b) = false → a ≠ b := fun h z => by
    rw [z, beq_self_eq_true] at h
    cases h
  have n12 := ne p12
  have n13 := ne p13
  have n23 := ne p23
  have hu1 : ∀ p ∈ ([(P1, ("law.<locals>.<lambda>" : Str)), (P2, ("_law_places_right.<locals>.<lambda>" : Str)), (P3, ("_law_tops_right.<locals>.<lambda>" : Str))] : List (Addr × Str)), p.1 = P1 → p.2 = ("law.<locals>.<lambda>" : Str) := fun p hp e => by
    simp only [List.mem_cons, List.not_mem_nil, or_false] at hp
    rcases hp with rfl | rfl | rfl
    · rfl
    · exact absurd e.symm n12
    · exact absurd e.symm n13
  have hu2 : ∀ p ∈ ([(P1, ("law.<locals>.<lambda>" : Str)), (P2, ("_law_places_right.<locals>.<lambda>" : Str)), (P3, ("_law_tops_right.<locals>.<lambda>" : Str))] : List (Addr × Str)), p.1 = P2 → p.2 = ("_law_places_right.<locals>.<lambda>" : Str) := fun p hp e => by
    simp only [List.mem_cons, List.not_mem_nil, or_false] at hp
    rcases hp with rfl | rfl | rfl
    · exact absurd e n12
    · rfl
    · exact absurd e.symm n23
  have hu3 : ∀ p ∈ ([(P1, ("law.<locals>.<lambda>" : Str)), (P2, ("_law_places_right.<locals>.<lambda>" : Str)), (P3, ("_law_tops_right.<locals>.<lambda>" : Str))] : List (Addr × Str)), p.1 = P3 → p.2 = ("_law_tops_right.<locals>.<lambda>" : Str) := fun p hp e => by
    simp only [List.mem_cons, List.not_mem_nil, or_false] at hp
    rcases hp with rfl | rfl | rfl
    · exact absurd e n13
    · exact absurd e n23
    · rfl
  have c0 : Cal l.prog w K mg base "is_integer" ["thing"] 1 spIsInteger f0 d0 := ⟨ok_isInteger F0 T, PySem.W.mg_of X G D0.at_, F0.kp, b0⟩
  have c2 : Cal l.prog w K mg base "divisor" ["one", "other"] 1 spDivisor f2 d2 := ⟨ok_divisor F2 T, PySem.W.mg_of X G D2.at_, F2.kp, b2⟩
  have c1 : Cal l.prog w K mg base "is_amount" ["thing"] 2 (spIsAmount K) f1 d1 := ⟨ok_isAmount F1 T c0 c2, PySem.W.mg_of X G D1.at_, F1.kp, b1⟩
  have c5 : Cal l.prog w K mg base "is_endless" ["thing"] 1 (spIsEndless K) f5 d5 := ⟨ok_isEndless F5 T, PySem.W.mg_of X G D5.at_, F5.kp, b5⟩
  have c4 : Cal l.prog w K mg base "is_word" ["thing"] 1 spIsWord f4 d4 := ⟨ok_isWord F4 T, PySem.W.mg_of X G D4.at_, F4.kp, b4⟩
  have c6 : Cal l.prog w K mg base "is_set" ["thing"] 2 (spIsSet K) f6 d6 := ⟨ok_isSet F6 T c0, PySem.W.mg_of X G D6.at_, F6.kp, b6⟩
  have c7 : Cal l.prog w K mg base "may_have" ["word", "value"] 3 (spMayHave K) f7 d7 := ⟨ok_mayHave F7 T c1 c0 c6 c5, PySem.W.mg_of X G D7.at_, F7.kp, b7⟩
  have c8 : Cal l.prog w K mg base "is_due" ["thing"] 4 (spIsDue K) f8 d8 := ⟨ok_isDue F8 T c4 c7, PySem.W.mg_of X G D8.at_, F8.kp, b8⟩
  have c3 : Cal l.prog w K mg base "is_name" ["thing"] 1 spIsName f3 d3 := ⟨ok_isName F3 T, PySem.W.mg_of X G D3.at_, F3.kp, b3⟩
  have c9 : Cal l.prog w K mg base "is_dues" ["thing"] 5 (spIsDues K) f9 d9 := ⟨ok_isDues F9 T c8, PySem.W.mg_of X G D9.at_, F9.kp, b9⟩
  have c10 : Cal l.prog w K mg base "is_group_row" ["thing"] 6 (spIsGroupRow K) f10 d10 := ⟨ok_isGroupRow F10 T c3 c9, PySem.W.mg_of X G D10.at_, F10.kp, b10⟩
  have c11 : Cal l.prog w K mg base "may_stand" ["tree", "row"] 2 (spMayStand K C) f11 d11 := ⟨ok_mayStand F11 T TCl c5, PySem.W.mg_of X G D11.at_, F11.kp, b11⟩
  have c12 : Cal l.prog w K mg base "_law_cell_at" ["_law_script", "_law_k"] 1 (spCellAt K) f12 d12 := ⟨ok_cellAt F12 TA1, PySem.W.mg_of X G D12.at_, F12.kp, b12⟩
  have c13 : Cal l.prog w K mg base "_law_mixed" ["_law_cell", "_law_k"] 1 spMixed f13 d13 := ⟨ok_mixed F13 TA1, PySem.W.mg_of X G D13.at_, F13.kp, b13⟩
  have c15 : Cal l.prog w K mg base "_law_next" ["_law_source_here", "_law_many"] 2 spNext f15 d15 := ⟨ok_next F15 TA1 c13, PySem.W.mg_of X G D15.at_, F15.kp, b15⟩
  have c14 : Cal l.prog w K mg base "_law_source" ["_law_script", "_law_k"] 2 (spSource K) f14 d14 := ⟨ok_source F14 TA1 c13 c12, PySem.W.mg_of X G D14.at_, F14.kp, b14⟩
  have c16 : Cal l.prog w K mg base "_law_one" ["_law_source_here", "_law_things"] 3 (spOne K) f16 d16 := ⟨ok_one F16 TA1 c15, PySem.W.mg_of X G D16.at_, F16.kp, b16⟩
  have c17 : Cal l.prog w K mg base "_law_common" ["_law_one_here", "_law_other"] 1 spCommon f17 d17 := ⟨ok_common F17 TA1, PySem.W.mg_of X G D17.at_, F17.kp, b17⟩
  have c18 : Cal l.prog w K mg base "_law_fraction" ["_law_top", "_law_bottom"] 2 spFraction f18 d18 := ⟨ok_fraction F18 TA1 c17, PySem.W.mg_of X G D18.at_, F18.kp, b18⟩
  have c19 : Cal l.prog w K mg base "_law_amount" ["_law_source_here"] 3 spAmount f19 d19 := ⟨ok_amount F19 TA1 c15 c18, PySem.W.mg_of X G D19.at_, F19.kp, b19⟩
  have c23 : Cal l.prog w K mg base "_law_words" [] 1 spWords f23 d23 := ⟨ok_words F23 , PySem.W.mg_of X G D23.at_, F23.kp, b23⟩
  have c20 : Cal l.prog w K mg base "_law_names" ["_law_source_here", "_law_many"] 3 spNames2 f20 d20 := ⟨ok_names2 F20 TA1 c15, PySem.W.mg_of X G D20.at_, F20.kp, b20⟩
  have c24 : Cal l.prog w K mg base "_law_value" ["_law_source_here", "_law_word"] 4 (spValue K) f24 d24 := ⟨ok_value F24 c15 c19 c16, PySem.W.mg_of X G D24.at_, F24.kp, b24⟩
  have c21 : Cal l.prog w K mg base "_law_rows" ["_law_source_here", "_law_many", "_law_words_here"] 4 (spRows2 K) f21 d21 := ⟨ok_rows2 F21 TA1 c15 c20, PySem.W.mg_of X G D21.at_, F21.kp, b21⟩
  have c22 : Cal l.prog w K mg base "_law_leaves" ["_law_rows_here"] 1 (spLeaves K) f22 d22 := ⟨ok_leaves F22 , PySem.W.mg_of X G D22.at_, F22.kp, b22⟩
  have c25 : Cal l.prog w K mg base "_law_full_rows" ["_law_source_here", "_law_many"] 5 (spFull K) f25 d25 := ⟨ok_full F25 TA1 c15 c21 c22 c23 c24, PySem.W.mg_of X G D25.at_, F25.kp, b25⟩
  have z4 : Cal l.prog w K mg base "is_word" ["thing"] 1 (spIsWord2 K) f4 d4 := ⟨ok_isWord2 F4 T, PySem.W.mg_of X G D4.at_, F4.kp, b4⟩
  have u0 : Cal l.prog w K mg base "is_integer" ["thing"] 1 (spIntU K) f0 d0 := ⟨ok_intU F0 T, PySem.W.mg_of X G D0.at_, F0.kp, b0⟩
  have u1 : Cal l.prog w K mg base "is_amount" ["thing"] 2 (spNoAmt K) f1 d1 := ⟨ok_noAmt F1 T u0 c2, PySem.W.mg_of X G D1.at_, F1.kp, b1⟩
  have u6 : Cal l.prog w K mg base "is_set" ["thing"] 2 (spNoSet K) f6 d6 := ⟨ok_noSet F6 T u0, PySem.W.mg_of X G D6.at_, F6.kp, b6⟩
  have u5 : Cal l.prog w K mg base "is_endless" ["thing"] 1 (spNoEnd K) f5 d5 := ⟨ok_noEnd F5 T, PySem.W.mg_of X G D5.at_, F5.kp, b5⟩
  have u7 : Cal l.prog w K mg base "may_have" ["word", "value"] 3 (spBadV K) f7 d7 := ⟨ok_badV F7 T u1 u0 u6 u5, PySem.W.mg_of X G D7.at_, F7.kp, b7⟩
  have y3 : Cal l.prog w K mg base "is_name" ["thing"] 1 (fun vs H Q E => spIsName vs H Q E ∨ spBadName K vs H Q E) f3 d3 := ⟨fn_or (c3.ok) (ok_badName F3 T), PySem.W.mg_of X G D3.at_, F3.kp, b3⟩
  have y8 : Cal l.prog w K mg base "is_due" ["thing"] 4 (fun vs H Q E => spIsDue K vs H Q E ∨ spBadDue K vs H Q E) f8 d8 := ⟨fn_or (c8.ok) (ok_badDue F8 T z4 u7), PySem.W.mg_of X G D8.at_, F8.kp, b8⟩
  have u9 : Cal l.prog w K mg base "is_dues" ["thing"] 5 (spBadDues K) f9 d9 := ⟨ok_badDues F9 T y8, PySem.W.mg_of X G D9.at_, F9.kp, b9⟩
  have y10 : Cal l.prog w K mg base "is_group_row" ["thing"] 6 (fun vs H Q E => spIsGroupRow K vs H Q E ∨ spBadRow K vs H Q E) f10 d10 := ⟨fn_or (c10.ok) (ok_badRow F10 T y3 u9), PySem.W.mg_of X G D10.at_, F10.kp, b10⟩
  have y11 : Cal l.prog w K mg base "may_stand" ["tree", "row"] 2 (fun vs H Q E => spMayStand K C vs H Q E ∨ spBadStand K C vs H Q E) f11 d11 := ⟨fn_or (c11.ok) (ok_badStand F11 T TCl c5), PySem.W.mg_of X G D11.at_, F11.kp, b11⟩
  have FN : FnOk l.prog w K mg base CX0 1 fI dn ["self", "at"] (spNT K (ec 0)) := ok_nti FNt TT.de TT.nt
  have FI : FnOk l.prog w K mg base (L2.CX l.prog w) 7 i di ["self", "rows", "handing"] (spMake K C (ec 0)) := ok_make FIn T TCl TT.lv y10 y11 TT.nt FN bN
  have MK : Mk K C i := ⟨mk, DI.me.at_, DI.me.fn, kc⟩
  have c27 : Cal l.prog w K mg base "_law_bad_value" ["_law_source_here", "_law_word"] 4 (spBad K) f27 d27 := ⟨ok_bad F27 TA1 c16, PySem.W.mg_of X G D27.at_, F27.kp, b27⟩
  have c28 : Cal l.prog w K mg base "_law_bad_row" ["_law_source_here", "_law_ahead"] 5 (spBadR K) f28 d28 := ⟨ok_badR F28 TA1 c16 c23 c15 c27, PySem.W.mg_of X G D28.at_, F28.kp, b28⟩
  have c29 : Cal l.prog w K mg base "_law_places_right" ["_law_source_here", "_law_lines"] 11 (spPlaces K [(P1, ("law.<locals>.<lambda>" : Str)), (P2, ("_law_places_right.<locals>.<lambda>" : Str)), (P3, ("_law_tops_right.<locals>.<lambda>" : Str))]) f29 d29 := ⟨ok_places F29 hc2 (by simp) hu2 TB2 TA1 TCl TT.xs TT.xf TT.nt.n_at TT.d0 MK FI (init_binds2 FIn) (init_binds1 FIn) F26 (PySem.W.mg_of X G D26.at_) F26.kp b26 c16 c15 c28, PySem.W.mg_of X G g29, F29.kp, b29⟩
  have c30 : Cal l.prog w K mg base "_law_tops_right" ["_law_source_here", "_law_lines"] 11 (spTopsR K [(P1, ("law.<locals>.<lambda>" : Str)), (P2, ("_law_places_right.<locals>.<lambda>" : Str)), (P3, ("_law_tops_right.<locals>.<lambda>" : Str))]) f30 d30 := ⟨ok_topsR F30 hc3 (by simp) hu3 TB3 TA1 TCl TT.xs TT.xf TT.nt.n_at TT.d0 MK FI (init_binds2 FIn) (init_binds1 FIn) F26 (PySem.W.mg_of X G D26.at_) F26.kp b26 c19, PySem.W.mg_of X G g30, F30.kp, b30⟩
  exact ok_law F31 hc1 (by simp) hu1 TB1 TA1 TT.tn TCl TT.xs TT.xf TT.nt.n_at TT.d0 MK FI (init_binds2 FIn) (init_binds1 FIn) F26 (PySem.W.mg_of X G D26.at_) F26.kp b26 c14 c15 c25 c16 c29 c30
theorem walk {l : PySem.W.OpenLaw} {q : Program} {loose : List Str} {XP : (Str → Option Value) → Heap → Prop} {YP : World → Heap → Prop} {d : DefRec} {K : Params → PySem.W.Frag} (hn : l.most = some 63) (hdf : d.params.defaults = [])
    (hY : ∀ (w : World) (h : Heap), YP w h → (K w.params).In h)
    (F : ∀ (w : World) (mg : Str → Option Value) (fa : Addr) (h : Heap), YP w h → (K w.params).In h → h.Ns mainGlobals mg → mg d.name = some (.ref fa) → LamX.LawAtS l w (K w.params) CX0 12 63 "_law_script" mg fa h) :
    PySem.W.WalkO q loose XP YP l.row.toRowW d [] (fun f vs => PySem.call f vs) :=
  LamX.walk_ofTs (n := 63) (k := 12) (x := "_law_script") (CX := fun _ => CX0) hn (by decide) hdf ⟨rfl, by decide, by decide⟩ hY F fun _ _ _ _ _ z => z
end Bd
end
open PySem PySem.W PyProof.Rows
set_option maxRecDepth 100000 in
set_option maxHeartbeats 0 in
theorem PySem.Challenge.cw_branchdues_k01_what_is_no_tree_holds : PySem.Challenge.rw_branchdues_k01_what_is_no_tree.Holds := by
  w_on; o_law; k_head; (case hw => w_witness2)
  k_fill
  refine Bd.walk (l := PySem.Challenge.rw_branchdues_k01_what_is_no_tree) rfl rfl (fun w h Y => PySem.W.km_in_of Y) ?F
  case F =>
    intro w mg fa h Y KX G hmg
    refine' Bd.all_mk KX G hmg (Bd.tops_mk KX G ?zzcz_len ?zzcz_int ?zzcz_bool ?zzcz_str ?zzcz_tuple ?zzcz_list ?zzcz_dict ?zzcz_all ?zzcz_enumerate ?zzcz_isinstance ?zzcz_range ?zzcz_abs ?zzcz_max ?zzcz_min ?zzcz_ValueError ?zzcgL ?zzcgE ?zzcgG ?zzcgO ?zzckO ?zzcl1 ?zzcl2 ?zzcl3 ?zzcgC ?zzcpg ?zzchd ?zzcpo ?zzcsa ?zzcnO ?zzcnP ?zzcnK ?zzcnT ?zzcnH ?zzcE ?zzce0g ?zzce1g ?zzce2g ?zzce3g ?zzce4g ?zzce5g ?zzce6g ?zzcEb ?zzcEh ?zzcEt ?zzce0c ?zzce0t ?zzce1c ?zzce1t ?zzce2c ?zzce2t ?zzce3c ?zzce3t ?zzce4c ?zzce4t ?zzce5c ?zzce5t ?zzce6c ?zzce6t ?zzcr1 ?zzcr2 ?zzcr3 ?zzco0 ?zzco1 ?zzco2 ?zzco3 ?zzco4 ?zzcin ?zzcit ?zzcx0k ?zzcx0b ?zzcx0g ?zzcx0a ?zzcx0h ?zzcx0c ?zzcx0m ?zzcx0e ?zzcx0v ?zzcx0s1 ?zzcx0s2 ?zzcx0s3 ?zzcx0s4 ?zzcx0s5 ?zzcx0s6 ?zzclo ?zzch1 ?zzch2 ?zzch3 ?zzch4 ?zzch5 ?zzch6 ?zzch7 ?zzch8 ?zzcy0n1 ?zzcy0n2 ?zzcy0n3 ?zzcy0n4 ?zzcy0n5 ?zzcy0n6) (Bd.dk_mk ?zza0 ?zzb0 ?zzd0 ?zzg0) (Bd.dk_mk ?zza1 ?zzb1 ?zzd1 ?zzg1) (Bd.dk_mk ?zza2 ?zzb2 ?zzd2 ?zzg2) (Bd.dk_mk ?zza3 ?zzb3 ?zzd3 ?zzg3) (Bd.dk_mk ?zza4 ?zzb4 ?zzd4 ?zzg4) (Bd.dk_mk ?zza5 ?zzb5 ?zzd5 ?zzg5) (Bd.dk_mk ?zza6 ?zzb6 ?zzd6 ?zzg6) (Bd.dk_mk ?zza7 ?zzb7 ?zzd7 ?zzg7) (Bd.dk_mk ?zza8 ?zzb8 ?zzd8 ?zzg8) (Bd.dk_mk ?zza9 ?zzb9 ?zzd9 ?zzg9) (Bd.dk_mk ?zza10 ?zzb10 ?zzd10 ?zzg10) (Bd.dk_mk ?zza11 ?zzb11 ?zzd11 ?zzg11) (Bd.dk_mk ?zza12 ?zzb12 ?zzd12 ?zzg12) (Bd.dk_mk ?zza13 ?zzb13 ?zzd13 ?zzg13) (Bd.dk_mk ?zza14 ?zzb14 ?zzd14 ?zzg14) (Bd.dk_mk ?zza15 ?zzb15 ?zzd15 ?zzg15) (Bd.dk_mk ?zza16 ?zzb16 ?zzd16 ?zzg16) (Bd.dk_mk ?zza17 ?zzb17 ?zzd17 ?zzg17) (Bd.dk_mk ?zza18 ?zzb18 ?zzd18 ?zzg18) (Bd.dk_mk ?zza19 ?zzb19 ?zzd19 ?zzg19) (Bd.dk_mk ?zza20 ?zzb20 ?zzd20 ?zzg20) (Bd.dk_mk ?zza21 ?zzb21 ?zzd21 ?zzg21) (Bd.dk_mk ?zza22 ?zzb22 ?zzd22 ?zzg22) (Bd.dk_mk ?zza23 ?zzb23 ?zzd23 ?zzg23) (Bd.dk_mk ?zza24 ?zzb24 ?zzd24 ?zzg24) (Bd.dk_mk ?zza25 ?zzb25 ?zzd25 ?zzg25) (Bd.dk_mk ?zza26 ?zzb26 ?zzd26 ?zzg26) (Bd.dk_mk ?zza27 ?zzb27 ?zzd27 ?zzg27) (Bd.dk_mk ?zza28 ?zzb28 ?zzd28 ?zzg28) (Bd.cod_mk ?zza29 ?zzb29 ?zzd29 ?zzg29) (Bd.cod_mk ?zza30 ?zzb30 ?zzd30 ?zzg30) (Bd.cod_mk ?zza31 ?zzb31 ?zzd31 ?zzg31) (Bd.ik_mk ?zzs1 ?zzs2 ?zzs3 ?zzs4 ?zzs5 ?zzs6) ?zzmk ?zzkc (Bd.mk_mk ?zzm0a ?zzm0b ?zzm0c ?zzm0d ?zzm0e) ?zzp12 ?zzp13 ?zzp23 ?zzlk1 ?zzlv1 ?zztk1 ?zztn1 ?zzth1 ?zzlk2 ?zzlv2 ?zztk2 ?zztn2 ?zzth2 ?zzlk3 ?zzlv3 ?zztk3 ?zztn3 ?zzth3
    (case zzcz_len => k_is)
    (case zzcz_int => k_is)
    (case zzcz_bool => k_is)
    (case zzcz_str => k_is)
    (case zzcz_tuple => k_is)
    (case zzcz_list => k_is)
    (case zzcz_dict => k_is)
    (case zzcz_all => k_is)
    (case zzcz_enumerate => k_is)
    (case zzcz_isinstance => k_is)
    (case zzcz_range => k_is)
    (case zzcz_abs => k_is)
    (case zzcz_max => k_is)
    (case zzcz_min => k_is)
    (case zzcz_ValueError => k_is)
    (case zzcgL => k_is)
    (case zzcgE => k_is)
    (case zzcgG => k_is)
    (case zzcgO => k_is)
    (case zzckO => k_is)
    (case zzcl1 => k_is)
    (case zzcl2 => k_is)
    (case zzcl3 => k_is)
    (case zzcgC => k_is)
    (case zzcpg => k_is)
    (case zzchd => k_is)
    (case zzcpo => k_is)
    (case zzcsa => k_is)
    (case zzcnO => k_is)
    (case zzcnP => k_is)
    (case zzcnK => k_is)
    (case zzcnT => k_is)
    (case zzcnH => k_is)
    (case zzcE => k_is)
    (case zzce0g => k_is)
    (case zzce1g => k_is)
    (case zzce2g => k_is)
    (case zzce3g => k_is)
    (case zzce4g => k_is)
    (case zzce5g => k_is)
    (case zzce6g => k_is)
    (case zzcEb => k_is)
    (case zzcEh => k_is)
    (case zzcEt => k_is)
    (case zzce0c => k_is)
    (case zzce0t => k_is)
    (case zzce1c => k_is)
    (case zzce1t => k_is)
    (case zzce2c => k_is)
    (case zzce2t => k_is)
    (case zzce3c => k_is)
    (case zzce3t => k_is)
    (case zzce4c => k_is)
    (case zzce4t => k_is)
    (case zzce5c => k_is)
    (case zzce5t => k_is)
    (case zzce6c => k_is)
    (case zzce6t => k_is)
    (case zzcr1 => k_is)
    (case zzcr2 => k_is)
    (case zzcr3 => k_is)
    (case zzco0 => k_is)
    (case zzco1 => exact ⟨_, _, _, _, _, _, _, _, _, _, _, _, _, _, _, by k_is, by decide⟩)
    (case zzco2 => k_is)
    (case zzco3 => k_is)
    (case zzco4 => k_is)
    (case zzcin => k_is)
    (case zzcit => k_is)
    (case zzcx0k => k_is)
    (case zzcx0b => k_is)
    (case zzcx0g => k_is)
    (case zzcx0a => k_is)
    (case zzcx0h => k_is)
    (case zzcx0c => k_is)
    (case zzcx0m => k_is)
    (case zzcx0e => k_is)
    (case zzcx0v => k_is)
    (case zzcx0s1 => k_is)
    (case zzcx0s2 => k_is)
    (case zzcx0s3 => k_is)
    (case zzcx0s4 => k_is)
    (case zzcx0s5 => k_is)
    (case zzcx0s6 => k_is)
    (case zzclo => first | rfl | kernel_rfl | decide)
    (case zzch1 => first | rfl | kernel_rfl | decide)
    (case zzch2 => first | rfl | kernel_rfl | decide)
    (case zzch3 => first | rfl | kernel_rfl | decide)
    (case zzch4 => first | rfl | kernel_rfl | decide)
    (case zzch5 => first | rfl | kernel_rfl | decide)
    (case zzch6 => first | rfl | kernel_rfl | decide)
    (case zzch7 => first | rfl | kernel_rfl | decide)
    (case zzch8 => first | rfl | kernel_rfl | decide)
    (case zzcy0n1 => first | rfl | kernel_rfl | decide)
    (case zzcy0n2 => first | rfl | kernel_rfl | decide)
    (case zzcy0n3 => first | rfl | kernel_rfl | decide)
    (case zzcy0n4 => first | rfl | kernel_rfl | decide)
    (case zzcy0n5 => first | rfl | kernel_rfl | decide)
    (case zzcy0n6 => first | rfl | kernel_rfl | decide)
    (case zza0 => k_is)
    (case zzb0 => k_is)
    (case zzd0 => k_is)
    (case zzg0 => k_is)
    (case zza1 => k_is)
    (case zzb1 => k_is)
    (case zzd1 => k_is)
    (case zzg1 => k_is)
    (case zza2 => k_is)
    (case zzb2 => k_is)
    (case zzd2 => k_is)
    (case zzg2 => k_is)
    (case zza3 => k_is)
    (case zzb3 => k_is)
    (case zzd3 => k_is)
    (case zzg3 => k_is)
    (case zza4 => k_is)
    (case zzb4 => k_is)
    (case zzd4 => k_is)
    (case zzg4 => k_is)
    (case zza5 => k_is)
    (case zzb5 => k_is)
    (case zzd5 => k_is)
    (case zzg5 => k_is)
    (case zza6 => k_is)
    (case zzb6 => k_is)
    (case zzd6 => k_is)
    (case zzg6 => k_is)
    (case zza7 => k_is)
    (case zzb7 => k_is)
    (case zzd7 => k_is)
    (case zzg7 => k_is)
    (case zza8 => k_is)
    (case zzb8 => k_is)
    (case zzd8 => k_is)
    (case zzg8 => k_is)
    (case zza9 => k_is)
    (case zzb9 => k_is)
    (case zzd9 => k_is)
    (case zzg9 => k_is)
    (case zza10 => k_is)
    (case zzb10 => k_is)
    (case zzd10 => k_is)
    (case zzg10 => k_is)
    (case zza11 => k_is)
    (case zzb11 => k_is)
    (case zzd11 => k_is)
    (case zzg11 => k_is)
    (case zza12 => k_is)
    (case zzb12 => k_is)
    (case zzd12 => k_is)
    (case zzg12 => k_is)
    (case zza13 => k_is)
    (case zzb13 => k_is)
    (case zzd13 => k_is)
    (case zzg13 => k_is)
    (case zza14 => k_is)
    (case zzb14 => k_is)
    (case zzd14 => k_is)
    (case zzg14 => k_is)
    (case zza15 => k_is)
    (case zzb15 => k_is)
    (case zzd15 => k_is)
    (case zzg15 => k_is)
    (case zza16 => k_is)
    (case zzb16 => k_is)
    (case zzd16 => k_is)
    (case zzg16 => k_is)
    (case zza17 => k_is)
    (case zzb17 => k_is)
    (case zzd17 => k_is)
    (case zzg17 => k_is)
    (case zza18 => k_is)
    (case zzb18 => k_is)
    (case zzd18 => k_is)
    (case zzg18 => k_is)
    (case zza19 => k_is)
    (case zzb19 => k_is)
    (case zzd19 => k_is)
    (case zzg19 => k_is)
    (case zza20 => k_is)
    (case zzb20 => k_is)
    (case zzd20 => k_is)
    (case zzg20 => k_is)
    (case zza21 => k_is)
    (case zzb21 => k_is)
    (case zzd21 => k_is)
    (case zzg21 => k_is)
    (case zza22 => k_is)
    (case zzb22 => k_is)
    (case zzd22 => k_is)
    (case zzg22 => k_is)
    (case zza23 => k_is)
    (case zzb23 => k_is)
    (case zzd23 => k_is)
    (case zzg23 => k_is)
    (case zza24 => k_is)
    (case zzb24 => k_is)
    (case zzd24 => k_is)
    (case zzg24 => k_is)
    (case zza25 => k_is)
    (case zzb25 => k_is)
    (case zzd25 => k_is)
    (case zzg25 => k_is)
    (case zza26 => k_is)
    (case zzb26 => k_is)
    (case zzd26 => k_is)
    (case zzg26 => k_is)
    (case zza27 => k_is)
    (case zzb27 => k_is)
    (case zzd27 => k_is)
    (case zzg27 => k_is)
    (case zza28 => k_is)
    (case zzb28 => k_is)
    (case zzd28 => k_is)
    (case zzg28 => k_is)
    (case zza29 => k_is)
    (case zzb29 => k_is)
    (case zzd29 => k_is)
    (case zzg29 => k_is)
    (case zza30 => k_is)
    (case zzb30 => k_is)
    (case zzd30 => k_is)
    (case zzg30 => k_is)
    (case zza31 => k_is)
    (case zzb31 => k_is)
    (case zzd31 => k_is)
    (case zzg31 => k_is)
    (case zzm0a => k_is)
    (case zzm0b => k_is)
    (case zzm0c => k_is)
    (case zzm0d => k_is)
    (case zzm0e => k_is)
    (case zzs1 => k_is)
    (case zzs2 => k_is)
    (case zzs3 => k_is)
    (case zzs4 => k_is)
    (case zzs5 => k_is)
    (case zzs6 => k_is)
    (case zzmk => k_is)
    (case zzkc => k_is)
    (case zzlk1 => k_is)
    (case zzlv1 => rfl)
    (case zzlk2 => k_is)
    (case zzlv2 => rfl)
    (case zzlk3 => k_is)
    (case zzlv3 => rfl)
    (case zzp12 => first | rfl | decide)
    (case zzp13 => first | rfl | decide)
    (case zzp23 => first | rfl | decide)
    (case zzth1 => exact PySem.W.km_tabs_of Y _ (by first | k_mem | decide | simp))
    (case zztk1 => kernel_rfl)
    (case zztn1 => kernel_rfl)
    (case zzth2 => exact PySem.W.km_tabs_of Y _ (by first | k_mem | decide | simp))
    (case zztk2 => kernel_rfl)
    (case zztn2 => kernel_rfl)
    (case zzth3 => exact PySem.W.km_tabs_of Y _ (by first | k_mem | decide | simp))
    (case zztk3 => kernel_rfl)
    (case zztn3 => kernel_rfl)
