import PyProof.Rows.All
import Wide.All
import OpenK.AllK
import Wide.FinOn
import HandS.ForMost
import HandS.Wide
import HandS.WideBits
import HandS.IsInst
import HandS.Flow
import HandS.Defaults
import HandS.OwnEq
import HandS.MakeKw
import HandS.DictEq
import HandS.Deep
import PySem.Challenge.RW_branchdues_k68_whole_sets
import KE.KDictPairs
import HandS.Walk
import HandS.ForExc
import HandS.WordsExc
import HandS.DeepEq
import HandS.SlotsOwn
import PyProof.InstNe
import PyProof.Rows.EqNone
import HandS.DictComp
import HandS.SetFor
import HandS.Strs
import HandS.TupAny
import HandS.Codes
import KE.KEqDict
import HandS.Evl
import HandS.Conv
set_option Elab.async false
set_option linter.unusedVariables false
set_option linter.unusedSectionVars false
set_option maxRecDepth 100000
set_option maxHeartbeats 1000000
section
namespace Bd
open PySem L2
def top (i : Nat) : Stmt := PySem.Challenge.pw_branchdues_k68_whole_sets.main.body.getD i (.Pass ⟨0, 0, 0, 0⟩)
/-- a def as its callers see it -/
structure Cal (P : Program) (w : World) (K : PySem.W.Frag) (mg : Str → Option Value) (base : Heap) (x : Str) (ps : List Str) (k : Nat) (sp : Sp) (f : Addr) (fd : FuncData) : Prop where
  ok : FnOk P w K mg base CX0 k f fd ps sp
  mg : mg x = some (.ref f)
  kp : PySem.W.keepIn K (.ref f) = true
  bd : Binds K fd ps []
/-- all but p stays as it was -/
def Kept (p : Addr) (H H' : Hp) : Prop := ∀ b o, b ≠ p → H b = some o → H' b = some o
theorem Kept.refl (p : Addr) (H : Hp) : Kept p H H := fun _ _ _ h => h
theorem Kept.trans {p : Addr} {H H1 H2 : Hp} (a : Kept p H H1) (b : Kept p H1 H2) : Kept p H H2 := fun c o h e => b c o h (a c o h e)
theorem Kept.of {p : Addr} {H H1 : Hp} (a : Same H H1) : Kept p H H1 := fun c o _ e => a c o e
theorem Kept.upd {p : Addr} {H H1 : Hp} (a : Kept p H H1) (o : HO) : Kept p H (L2.upd H1 p o) := fun c u h e => by rw [upd_ne h]; exact a c u h e
theorem Kept.new {p q : Addr} {H H1 : Hp} (a : Kept p H H1) (h : H1 q = none) (o : HO) : Kept p H (L2.upd H1 q o) := fun c u hc e => by
  have := a c u hc e
  rw [upd_ne (ne_of_none this h)]; exact this
theorem Kept.free {p l : Addr} {H H' : Hp} (e : Kept p H H') (hl : l ≠ p) (h : H' l = none) : H l = none := by
  cases q : H l with
  | none => rfl
  | some o => rw [e l o hl q] at h; cases h
theorem Same.new {H H1 : Hp} {q : Addr} (a : Same H H1) (h : H1 q = none) (o : HO) : Same H (upd H1 q o) := fun c u e => by
  have := a c u e
  rw [upd_ne (ne_of_none this h)]; exact this
theorem Kept.seq {K : PySem.W.Frag} {p : Addr} {H H' : Hp} {a : Addr} {xs : List V} (e : Kept p H H') (hp : a ≠ p) (h : SqL K H a xs) : SqL K H' a xs := by
  rcases h with (h | ⟨o, h⟩) | h
  · exact .inl (.inl (e _ _ hp h))
  · exact .inl (.inr ⟨o, e _ _ hp h⟩)
  · exact .inr h
theorem fm0 {x m : Int} (h : 0 < m) : 0 ≤ x.fmod m := Int.fmod_nonneg_of_pos x h
theorem fm1 {x m : Int} (h : 0 < m) : x.fmod m < m := Int.fmod_lt_of_pos x h
theorem fm_in {x m : Int} (h : 0 < m) (h2 : m ≤ 2 ^ 63) : -(2 ^ 64) < x.fmod m ∧ x.fmod m < 2 ^ 64 := by
  have := fm0 (x := x) h
  have := fm1 (x := x) h
  omega
theorem fm_nat {x : Int} {m : Nat} (h : 0 < m) : ∃ v : Nat, x.fmod (m : Int) = (v : Int) ∧ v < m := by
  have h1 := fm0 (x := x) (m := (m : Int)) (by omega)
  have h2 := fm1 (x := x) (m := (m : Int)) (by omega)
  exact ⟨(x.fmod (m : Int)).toNat, by omega, by omega⟩
theorem small {n : Nat} (h : n ≤ 1000) : n ≤ sizeLine := Nat.le_of_lt (small1000 h)
/-- an amount as the law draws it: in lowest terms, not too long -/
def AmtOk (n d : Nat) : Prop := 0 < d ∧ Nat.gcd n d = 1 ∧ n ≤ 10 ^ 13 ∧ d ≤ 10 ^ 13

/-- what the text needs of the top, one built-in name each -/
structure TA (mg : Str → Option Value) : Prop where
  z_len : mg "len" = none
  z_int : mg "int" = none
  z_range : mg "range" = none
  z_abs : mg "abs" = none
  z_tuple : mg "tuple" = none
  z_list : mg "list" = none
  z_enumerate : mg "enumerate" = none
abbrev sCellAt : Stmt := (top 43)
theorem scCellAt : FnScope ["_law_script", "_law_k"] ["_law_script", "_law_k"] (defScope sCellAt) := ⟨rfl, rfl, rfl, by decide +kernel, rfl, by decide +kernel, by decide +kernel⟩
abbrev sMixed : Stmt := (top 44)
theorem scMixed : FnScope ["_law_cell", "_law_k", "_law_low"] ["_law_cell", "_law_k"] (defScope sMixed) := ⟨rfl, rfl, rfl, by decide +kernel, rfl, by decide +kernel, by decide +kernel⟩
abbrev sSource : Stmt := (top 45)
theorem scSource : FnScope ["_law_script", "_law_k", "_law_cell"] ["_law_script", "_law_k"] (defScope sSource) := ⟨rfl, rfl, rfl, by decide +kernel, rfl, by decide +kernel, by decide +kernel⟩
abbrev sNext : Stmt := (top 46)
theorem scNext : FnScope ["_law_source_here", "_law_many", "_law_found"] ["_law_source_here", "_law_many"] (defScope sNext) := ⟨rfl, rfl, rfl, by decide +kernel, rfl, by decide +kernel, by decide +kernel⟩
abbrev sOne : Stmt := (top 47)
theorem scOne : FnScope ["_law_source_here", "_law_things"] ["_law_source_here", "_law_things"] (defScope sOne) := ⟨rfl, rfl, rfl, by decide +kernel, rfl, by decide +kernel, by decide +kernel⟩

/-- a source of draws -/
def Src (H : Hp) (p : Addr) : Prop := ∃ x y z : Int, H p = some (.lst [.int x, .int y, .int z])
def spCellAt (K : PySem.W.Frag) : Sp := fun vs H Q _ => ∃ (a : Addr) (ns : List Int) (k : Nat), vs = [.ref a, .int (k : Int)] ∧ SqL K H a (ns.map V.int) ∧ ∀ v : Int, Q (.int v) H
def spMixed : Sp := fun vs H Q _ => ∃ (c k : Int), vs = [.int c, .int k] ∧ ∀ v : Int, 0 ≤ v → Q (.int v) H
def spSource (K : PySem.W.Frag) : Sp := fun vs H Q _ => ∃ (a : Addr) (ns : List Int) (k : Nat), vs = [.ref a, .int (k : Int)] ∧ SqL K H a (ns.map V.int) ∧ ∀ p H', H p = none → Same H H' → Src H' p → Q (.ref p) H'
def spNext : Sp := fun vs H Q _ => ∃ (p : Addr) (m : Nat), vs = [.ref p, .int (m : Int)] ∧ Src H p ∧ 0 < m ∧ m ≤ 1000000 ∧ ∀ (v : Nat) H', v < m → Src H' p → Kept p H H' → Q (.int (v : Int)) H'
/-- one of some things: a list or a tuple that is not the source -/
def spOne (K : PySem.W.Frag) : Sp := fun vs H Q _ => ∃ (p a : Addr) (xs : List V), vs = [.ref p, .ref a] ∧ Src H p ∧ SqL K H a xs ∧ a ≠ p ∧ xs ≠ [] ∧ xs.length ≤ 1000 ∧ ∀ (v : V) H', v ∈ xs → Src H' p → Kept p H H' → Q v H'
section
variable {P : Program} {w : World} {K : PySem.W.Frag} {mg : Str → Option Value} {base : Heap}
theorem cell_at {ns : List Int} {k : Nat} (h : k < ns.length) : ∃ v : Int, atI (ns.map V.int) (k : Int) = some (.int v) :=
  ⟨ns[k], atI_nat (by rw [List.getElem?_map, List.getElem?_eq_getElem h]; rfl)⟩
theorem ok_cellAt {f : Addr} {fd : FuncData} (F : Fun K "_law_cell_at" "_law_cell_at" sCellAt f fd) (T : TA mg) : FnOk P w K mg base CX0 1 f fd ["_law_script", "_law_k"] (spCellAt K) := by
  refine F.ok scCellAt (fun vs H Q E h => ?_) (fun cdv A outer s H vs Q E hr h => ?_)
  · obtain ⟨a, ns, k, rfl, _⟩ := h
    rfl
  obtain ⟨a, ns, k, rfl, hS, q⟩ := h
  refine ⟨_, (pss_cons (ps_if (pt_cmpR op_lt (pv 1) (pe_callB call_len_seq (by rfl) T.z_len PySem.boot_len (pa_cons (pv 0) pa_nil)) (nomark _)) (pss_one (ps_ret (pe_ix ix_list (pv 0) (pv 1) (fun _ _ => rfl)))) pss_nil) (pss_one (ps_ret pe_int))), ?_⟩
  refine ⟨_, rfl, _, rfl, a, _, rfl, .inl hS, _, _, rfl, rfl, _, rfl, ?_⟩
  refine ite2 (fun c => ?_) (fun c => ?_)
  · have c' := of_decide_eq_true c
    rw [List.length_map] at c'
    obtain ⟨v, hv⟩ := cell_at (ns := ns) (k := k) (by omega)
    refine ⟨_, rfl, _, rfl, a, _, _, _, rfl, rfl, hS, hv, ?_⟩
    exact q v
  · exact q 0

theorem ok_mixed {f : Addr} {fd : FuncData} (F : Fun K "_law_mixed" "_law_mixed" sMixed f fd) (T : TA mg) : FnOk P w K mg base CX0 1 f fd ["_law_cell", "_law_k"] spMixed := by
  refine F.ok scMixed (fun vs H Q E h => ?_) (fun cdv A outer s H vs Q E hr h => ?_)
  · obtain ⟨c, k, rfl, _⟩ := h
    rfl
  obtain ⟨c, k, rfl, q⟩ := h
  refine ⟨_, (pss_cons (ps_set (i := 2) scMixed.nd rfl (Or.inl rfl) (pe_op op_add (pe_op op_modN (pe_callTy call_int1 (by rfl) T.z_int (by decide +kernel) (pa_cons (pv 0) pa_nil)) pe_int) (pe_op op_mul (pe_op op_fdivW (pv 0) pe_int) pe_int))) (pss_cons (ps_set (i := 2) scMixed.nd rfl (Or.inl rfl) (pe_op op_modN (pe_callTy call_int1 (by rfl) T.z_int (by decide +kernel) (pa_cons (pe_op op_mul (pe_op op_add (pe_op op_add (pv 2) (pe_op op_mul pe_int (pv 1))) pe_int) pe_int) pa_nil)) pe_int)) (pss_cons (ps_set (i := 2) scMixed.nd rfl (Or.inl rfl) (pe_op op_modN (pe_callTy call_int1 (by rfl) T.z_int (by decide +kernel) (pa_cons (pe_op op_mul (pv 2) (pe_op op_add (pe_op op_add (pe_op op_fdivN (pv 2) pe_int) pe_int) (pv 1))) pa_nil)) pe_int)) (pss_one (ps_ret (pe_op op_modN (pe_callTy call_int1 (by rfl) T.z_int (by decide +kernel) (pa_cons (pe_op op_mul (pv 2) (pe_op op_add (pe_op op_fdivN (pv 2) pe_int) pe_int)) pa_nil)) pe_int)))))), ?_⟩
  refine ⟨_, rfl, .inl ⟨_, rfl, _, _, rfl, rfl, by show (2147483629 : Int) ≠ 0; decide, _, rfl, _, _, rfl, rfl, ⟨by decide, by decide +kernel⟩, _, _, rfl, rfl, .inr ⟨by decide, by decide⟩, _, _, rfl, rfl, ?_⟩⟩
  refine ⟨_, rfl, _, rfl, _, _, rfl, rfl, .inl ⟨by decide, by decide⟩, _, _, rfl, rfl, _, _, rfl, rfl, _, _, rfl, rfl, .inr ⟨by decide, by decide⟩, .inl ⟨_, rfl, _, _, rfl, rfl, by show (2147483629 : Int) ≠ 0; decide, ?_⟩⟩
  refine ⟨_, rfl, _, rfl, _, _, rfl, rfl, ⟨by decide, by decide⟩, _, _, rfl, rfl, _, rfl, _, _, rfl, rfl, _, _, rfl, rfl, .inl (fm_in (by decide) (by decide)), .inl ⟨_, rfl, _, _, rfl, rfl, by show (2147483587 : Int) ≠ 0; decide, ?_⟩⟩
  refine ⟨_, rfl, _, rfl, _, _, rfl, rfl, ⟨by decide, by decide⟩, _, _, rfl, rfl, _, _, rfl, rfl, .inl (fm_in (by decide) (by decide)), .inl ⟨_, rfl, _, _, rfl, rfl, by show (2147483563 : Int) ≠ 0; decide, ?_⟩⟩
  exact q _ (fm0 (by decide))

theorem ok_next {f g : Addr} {fd gd : FuncData} (F : Fun K "_law_next" "_law_next" sNext f fd) (T : TA mg) (cM : Cal P w K mg base "_law_mixed" ["_law_cell", "_law_k"] 1 spMixed g gd) : FnOk P w K mg base CX0 2 f fd ["_law_source_here", "_law_many"] spNext := by
  refine F.ok scNext (fun vs H Q E h => ?_) (fun cdv A outer s H vs Q E hr h => ?_)
  · obtain ⟨p, m, rfl, _⟩ := h
    rfl
  obtain ⟨p, m, rfl, ⟨x, y, z, hp⟩, h0, h1, q⟩ := h
  refine ⟨_, (pss_cons (ps_if (pt_cmpR op_ge (pe_ix ix_list (pv 0) pe_int (fun _ _ => rfl)) (pe_op op_pow pe_int pe_int) (nomark _)) (pss_cons (ps_set (i := 2) scNext.nd rfl (Or.inl rfl) (pe_op op_modN (pe_callTy call_int1 (by rfl) T.z_int (by decide +kernel) (pa_cons (pe_ix ix_list (pv 0) pe_int (fun _ _ => rfl)) pa_nil)) (pv 1))) (pss_cons (ps_asg (pe_op op_fdivN (pe_ix ix_list (pv 0) pe_int (fun _ _ => rfl)) (pv 1)) (pg_sub (pv 0) pe_int set_list)) (pss_one (ps_ret (pv 2))))) pss_nil) (pss_cons (ps_asg (pe_op op_add (pe_ix ix_list (pv 0) pe_int (fun _ _ => rfl)) pe_int) (pg_sub (pv 0) pe_int set_list)) (pss_one (ps_ret (pe_op op_modN (pe_callTy call_int1 (by rfl) T.z_int (by decide +kernel) (pa_cons (pe_call cM.ok (hr.mono (by decide)) rfl cM.mg cM.kp cM.bd .nil pass0 (pa_cons (pe_ix ix_list (pv 0) pe_int (fun _ _ => rfl)) (pa_cons (pe_ix ix_list (pv 0) pe_int (fun _ _ => rfl)) pa_nil))) pa_nil)) (pv 1)))))), ?_⟩
  refine ⟨_, rfl, p, _, _, _, rfl, rfl, SqL.of hp, rfl, _, _, rfl, rfl, ⟨by decide, by decide, by decide⟩, _, _, rfl, rfl, _, rfl, ?_⟩
  refine ite2 (fun c => ?_) (fun c => ?_)
  · obtain ⟨v, ev, hv⟩ := fm_nat (x := x) (m := m) h0
    refine ⟨_, rfl, p, _, _, _, rfl, rfl, SqL.of hp, rfl, .inl ⟨_, rfl, _, rfl, _, _, rfl, rfl, by show (m : Int) ≠ 0; omega, ?_⟩⟩
    refine ⟨_, rfl, p, _, _, _, rfl, rfl, SqL.of hp, rfl, _, rfl, _, _, rfl, rfl, ⟨by show (m : Int) ≠ 0; omega, by omega⟩, _, rfl, p, _, _, _, rfl, rfl, hp, rfl, ?_⟩
    refine ⟨_, rfl, ?_⟩
    show Q (.int (x.fmod (m : Int))) _
    rw [ev]
    exact q v _ hv ⟨_, _, _, upd_same⟩ ((Kept.refl p H).upd _)
  · refine ⟨_, rfl, p, _, _, _, rfl, rfl, SqL.of hp, rfl, _, _, rfl, rfl, _, rfl, p, _, _, _, rfl, rfl, hp, rfl, ?_⟩
    refine ⟨_, rfl, p, _, _, _, rfl, rfl, SqL.of upd_same, rfl, _, rfl, p, _, _, _, rfl, rfl, SqL.of upd_same, rfl, _, _, rfl, fun u hu => .inl ⟨_, rfl, _, rfl, _, _, rfl, rfl, by show (m : Int) ≠ 0; omega, ?_⟩⟩
    obtain ⟨v, ev, hv⟩ := fm_nat (x := u) (m := m) h0
    show Q (.int (u.fmod (m : Int))) _
    rw [ev]
    exact q v _ hv ⟨_, _, _, upd_same⟩ ((Kept.refl p H).upd _)

theorem ok_source {f g e : Addr} {fd gd ed : FuncData} (F : Fun K "_law_source" "_law_source" sSource f fd) (T : TA mg) (cM : Cal P w K mg base "_law_mixed" ["_law_cell", "_law_k"] 1 spMixed g gd) (cC : Cal P w K mg base "_law_cell_at" ["_law_script", "_law_k"] 1 (spCellAt K) e ed) : FnOk P w K mg base CX0 2 f fd ["_law_script", "_law_k"] (spSource K) := by
  refine F.ok scSource (fun vs H Q E h => ?_) (fun cdv A outer s H vs Q E hr h => ?_)
  · obtain ⟨a, ns, k, rfl, _⟩ := h
    rfl
  obtain ⟨a, ns, k, rfl, hS, q⟩ := h
  refine ⟨_, (pss_cons (ps_if (pt_cmpR op_lt (pv 1) (pe_callB call_len_seq (by rfl) T.z_len PySem.boot_len (pa_cons (pv 0) pa_nil)) (nomark _)) (pss_one (ps_ret (pe_lst (pa_cons (pe_ix ix_list (pv 0) (pv 1) (fun _ _ => rfl)) (pa_cons (pe_ix ix_list (pv 0) (pv 1) (fun _ _ => rfl)) (pa_cons pe_int pa_nil)))))) pss_nil) (pss_cons (ps_set (i := 2) scSource.nd rfl (Or.inl rfl) (pe_call cM.ok (hr.mono (by decide)) rfl cM.mg cM.kp cM.bd .nil pass0 (pa_cons (pe_call cC.ok (hr.mono (by decide)) rfl cC.mg cC.kp cC.bd .nil pass0 (pa_cons (pv 0) (pa_cons pe_int pa_nil))) (pa_cons (pe_op op_add pe_int (pv 1)) pa_nil)))) (pss_one (ps_ret (pe_lst (pa_cons (pv 2) (pa_cons (pv 2) (pa_cons pe_int pa_nil)))))))), ?_⟩
  refine ⟨_, rfl, _, rfl, a, _, rfl, .inl hS, _, _, rfl, rfl, _, rfl, ?_⟩
  refine ite2 (fun c => ?_) (fun c => ?_)
  · have c' := of_decide_eq_true c
    rw [List.length_map] at c'
    obtain ⟨v, hv⟩ := cell_at (ns := ns) (k := k) (by omega)
    refine ⟨_, rfl, _, rfl, a, _, _, _, rfl, rfl, hS, hv, _, rfl, _, rfl, a, _, _, _, rfl, rfl, hS, hv, by show 3 ≤ sizeLine; decide, fun p hp => ?_⟩
    exact q p _ hp (Same.new (Same.refl H) hp _) ⟨_, _, _, upd_same⟩
  · refine ⟨_, rfl, a, ns, 0, rfl, hS, fun v => ?_⟩
    refine ⟨_, rfl, _, _, rfl, rfl, _, _, rfl, fun u hu => ?_⟩
    refine ⟨_, rfl, _, rfl, by show 3 ≤ sizeLine; decide, fun p hp => ?_⟩
    exact q p _ hp (Same.new (Same.refl H) hp _) ⟨_, _, _, upd_same⟩

theorem ok_one {f g : Addr} {fd gd : FuncData} (F : Fun K "_law_one" "_law_one" sOne f fd) (T : TA mg) (cN : Cal P w K mg base "_law_next" ["_law_source_here", "_law_many"] 2 spNext g gd) : FnOk P w K mg base CX0 3 f fd ["_law_source_here", "_law_things"] (spOne K) := by
  refine F.ok scOne (fun vs H Q E h => ?_) (fun cdv A outer s H vs Q E hr h => ?_)
  · obtain ⟨p, a, xs, rfl, _⟩ := h
    rfl
  obtain ⟨p, a, xs, rfl, hp, hS, hne, h0, h1, q⟩ := h
  refine ⟨_, (pss_one (ps_ret (pe_ix ix_list (pv 1) (pe_call cN.ok (hr.mono (by decide)) rfl cN.mg cN.kp cN.bd .nil pass0 (pa_cons (pv 0) (pa_cons (pe_callB call_len_seq (by rfl) T.z_len PySem.boot_len (pa_cons (pv 1) pa_nil)) pa_nil))) (fun _ _ => rfl)))), ?_⟩
  refine ⟨_, rfl, _, rfl, _, rfl, a, _, rfl, .inl hS, p, xs.length, rfl, hp, List.length_pos_iff.mpr h0, by omega, fun v H1 hv hp1 k1 => ?_⟩
  refine ⟨a, _, _, _, rfl, rfl, k1.seq hne hS, atI_nat (List.getElem?_eq_getElem hv), ?_⟩
  exact q _ H1 (List.getElem_mem hv) hp1 k1

end
end Bd
end

section
namespace Bd
open PySem L2 PySem.Spec PyProof.Rows
section
variable {prog : Program} {w : World} {K : Type} [DecidableEq K] {knd : KeyKind prog w K} {A : Around} {E : Value → Shared → Prop} {s : Shared}
theorem put_pairs {d : Addr} {kvs : List (K × Value)} {k : K} {key v : Value} {Q : Unit → Shared → Prop} (hkey : knd.is k key = true) (hm : s.heap.DictOf knd d kvs) (hsz : kvs.length ≤ sizeLine)
    (hQ : ∀ h', h'.DictOf knd d (stored kvs k v) → Heap.SameBut d s.heap h' → Q () { s with heap := h' }) :
    wpAny (model prog w) A (dictPut d (knd.hash k) key v) Q E s := by
  obtain ⟨o, es, ep, ho, hc, hd, hk, hp, hn⟩ := hm
  have hes : es.size ≤ sizeLine := by
    have e1 := hp.length
    have e2 : es.toList.length = es.size := by simp
    omega
  unfold dictPut
  refine wpAny_bind (wpAny_dictFind_of hkey ho hd hk ?_)
  have hidx : (es.findIdx? fun e => knd.is k e.key) = kvs.findIdx? fun kv => decide (kv.1 = k) := by
    rw [← hp.findIdx k]; obtain ⟨l⟩ := es
    simp
  cases hi : es.findIdx? fun e => knd.is k e.key with
  | some i =>
    have ha := any_of_findIdx_some (hidx ▸ hi)
    refine wpAny_updateDict ho hd ?_
    refine hQ _ ⟨_, _, ep, Heap.get?_update_self _ ho (Obj.isFreed_of_dict (Obj.data_mapDict hd _)), hc.mapDict _, Obj.data_mapDict hd _, hk.modify _ _, ?_, ?_⟩ (Heap.SameBut.update ..)
    · rw [stored, if_pos ha]
      have hl : (es.toList.findIdx? fun e => knd.is k e.key) = some i := by
        rw [← hi]; obtain ⟨l⟩ := es
        simp
      have := hp.modify hn hl v
      obtain ⟨l⟩ := es
      simpa using this
    · rw [stored, if_pos ha, keys_map_store]; exact hn
  | none =>
    have hnot : k ∉ kvs.map (·.1) := not_mem_of_findIdx_none (hidx ▸ hi)
    have hany : ¬ (kvs.any fun kv => decide (kv.1 = k)) = true := by
      rw [List.any_eq_true]
      rintro ⟨kv, hkv, he⟩
      exact hnot (List.mem_map.mpr ⟨kv, hkv, of_decide_eq_true he⟩)
    refine wpAny_updateDictKeys (hz := hes) ho hd ?_
    refine hQ _ ⟨_, _, ep + 1, Heap.get?_update_self _ ho (Obj.isFreed_of_dict (Obj.data_mapDictKeys hd _)), hc.mapDictKeys _, Obj.data_mapDictKeys hd _, hk.push hkey _, ?_, ?_⟩ (Heap.SameBut.update ..)
    · rw [stored, if_neg hany]
      have := hp.append hkey (knd.hash k) v
      obtain ⟨l⟩ := es
      simpa using this
    · rw [stored, if_neg hany, List.map_append, List.nodup_append]
      refine ⟨hn, by simp, ?_⟩
      intro a ha b hb
      simp only [List.map_cons, List.map_nil, List.mem_singleton] at hb
      subst hb
      exact fun e => hnot (e ▸ ha)
theorem merge_dict {d o : Addr} {kvs more : List (K × Value)} {Q : Unit → Shared → Prop} (hdo : d ≠ o) (hoS : (o == sysModules) = false)
    (hd : s.heap.DictOf knd d kvs) (ho : s.heap.DictOf knd o more) (hstr : ∀ e : DictEntry, (∃ k, knd.is k e.key = true) → ∀ a, e.key ≠ .ref a)
    (hsz : kvs.length + more.length ≤ sizeLine)
    (hQ : ∀ h', h'.DictOf knd d (merged kvs more) → Heap.SameBut d s.heap h' → Q () { s with heap := h' }) :
    wpAny (model prog w) A (mergeMapping d (.ref o) false) Q E s := by
  obtain ⟨od, esd, epd, hod, hcd, hdd, hkd, hpd, hnd⟩ := id hd
  obtain ⟨oo, eso, epo, hoo, hco, hdo', hko, hpo, hno⟩ := id ho
  have hlen : more.length = eso.size := by rw [← hpo.length]; simp
  unfold mergeMapping
  refine wpAny_bind (wpAny_isInstance ho.typeIs isSubtype_dict_dict ?_)
  rw [if_pos rfl]
  refine wpAny_bind (wpAny_specialOf ho.typeIs PySem.F.slot_dict_iter.lookup (wpAny_bind (wpAny_pure ?_)))
  simp only [beq_self_eq_true]
  rw [if_neg (by rw [hoS]; exact Bool.false_ne_true)]
  have loop : wpAny (model prog w) A (do
      let __do_lift ← dictEntries o
      have size : Nat := __do_lift.size
      let epoch ← dictEpoch o
      forIn (List.range size) PUnit.unit fun i __s => do
        let __do_lift ← dictEntries o
        match __do_lift[i]? with
          | some e => do
            holding [e.key, e.val]
              (have __do_jp := fun (_ : Unit) => dictPut d e.hash e.key e.val;
              if false = true then do
                let __do_lift ← dictFind d e.key e.hash
                if __do_lift.isSome = true then do
                  rule "dict.merge.duplicate-key"
                  let __do_lift ← newExc (Value.type "KeyError") [e.key]
                  let __r ← raiseNew __do_lift
                  __do_jp __r
                else __do_jp ()
              else __do_jp ())
            let __do_lift ← dictEpoch o
            if (__do_lift != epoch) = true then do
              (unsupported "dict.changed-during-merge" : Sem PUnit)
              pure (ForInStep.yield PUnit.unit)
            else pure (ForInStep.yield PUnit.unit)
          | x => do
            (unsupported "dict.changed-during-merge" : Sem PUnit)
            pure (ForInStep.yield PUnit.unit)
      pure ()) Q E s := by
    refine wpAny_bind (wpAny_dictEntries hoo hdo' ?_)
    refine wpAny_bind (wpAny_dictEpoch hoo hdo' ?_)
    refine wpAny_bind ?_
    have er : List.range eso.size = List.range' 0 eso.size := List.range_eq_range'
    rw [er]
    refine wpAny_forIn_list _
      (fun rest _ s' => ∃ g i, s' = { s with heap := g } ∧ rest = List.range' i (eso.size - i) ∧ i ≤ eso.size ∧ g.DictOf knd d (merged kvs (more.take i)) ∧ g.get? o = some oo ∧ Heap.SameBut d s.heap g)
      _ ?_ ?_ _ _ ⟨s.heap, 0, rfl, by simp, Nat.zero_le _, by simpa [merged] using hd, hoo, Heap.SameBut.refl _ _⟩
    · rintro x rest b s' ⟨g, i, rfl, hr, hi, gd, goo, gs⟩
      have hlt : i < eso.size := by
        rcases Nat.lt_or_ge i eso.size with z | z
        · exact z
        · rw [Nat.sub_eq_zero_of_le z] at hr
          simp at hr
      obtain ⟨rfl, hrest⟩ : x = i ∧ rest = List.range' (i + 1) (eso.size - (i + 1)) := by
        have z : eso.size - i = (eso.size - (i + 1)) + 1 := by omega
        rw [z, List.range'_succ] at hr
        injection hr with z1 z2
        exact ⟨z1, z2⟩
      refine wpAny_bind (wpAny_dictEntries goo hdo' ?_)
      rw [Array.getElem?_eq_getElem hlt]
      obtain ⟨kv, hkv⟩ : ∃ kv, more[x]? = some kv := ⟨more[x]'(by omega), List.getElem?_eq_getElem _⟩
      obtain ⟨k, v⟩ := kv
      obtain ⟨hkey, hval⟩ := hpo.get? (e := eso[x]) (by simp [hlt]) hkv
      obtain ⟨k1, hkey1, hhash⟩ := hko eso[x] (Array.getElem_mem hlt)
      obtain rfl : k1 = k := knd.inj _ _ _ hkey1 hkey
      show wpAny _ _ (holding [eso[x].key, eso[x].val] (dictPut d eso[x].hash eso[x].key eso[x].val) >>= _) _ _ _
      rw [hhash, hval]
      have hmx : (merged kvs (more.take x)).length ≤ sizeLine := by
        have z1 := merged_length_le kvs (more.take x)
        have z2 : (more.take x).length ≤ more.length := by
          rw [List.length_take]; omega
        omega
      refine wpAny_bind (wpAny_holding (put_pairs hkey gd hmx fun g2 gd2 gs2 => ?_))
      have goo2 : g2.get? o = some oo := (gs2.2 o (Ne.symm hdo)).trans goo
      refine wpAny_bind (wpAny_dictEpoch goo2 hdo' ?_)
      rw [if_neg (by simp)]
      exact wpAny_pure ⟨g2, x + 1, rfl, hrest, hlt, by rw [merged_take_succ kvs more x (k1, v) hkv]; exact gd2, goo2, gs.trans gs2⟩
    · rintro b s' ⟨g, i, rfl, hr, hi, gd, goo, gs⟩
      have hin : i = eso.size := by
        rcases Nat.lt_or_ge i eso.size with z | z
        · have z1 : eso.size - i = (eso.size - (i + 1)) + 1 := by omega
          rw [z1, List.range'_succ] at hr
          exact nomatch hr
        · exact Nat.le_antisymm hi z
      refine wpAny_pure (hQ g ?_ gs)
      rw [hin, ← hlen, List.take_length] at gd
      exact gd
  refine wpAny_bind (wpAny_dictEntries hod hdd ?_)
  split
  · refine wpAny_bind (wpAny_dictEntries hoo hdo' ?_)
    refine wpAny_bind ?_
    refine wpAny_forIn_array' _ (fun rest _ s' => s' = s ∧ ∀ e ∈ rest, e ∈ eso) _ ?_ ?_ _ _ ⟨rfl, fun e he => Array.mem_toList_iff.mp he⟩
    · rintro x rest b s' ⟨rfl, hm⟩
      obtain ⟨k1, hkey1, _⟩ := hko x (hm x List.mem_cons_self)
      have hx := hstr x ⟨k1, hkey1⟩
      have hrest : ∀ e ∈ rest, e ∈ eso := fun e he => hm e (List.mem_cons_of_mem _ he)
      split
      · rename_i a ea
        exact absurd ea (hx a)
      · exact wpAny_pure ⟨rfl, hrest⟩
    · rintro b s' ⟨rfl, _⟩
      exact loop
  · exact loop
def MergeAt (knd : KeyKind prog w K) (p : Addr) (Z : Shared → Prop) : Value → Shared → Prop := fun u s1 => ∃ (o : Addr) (acc more : List (K × Value)), u = .ref o ∧ p ≠ o ∧ (o == sysModules) = false ∧
  s1.heap.DictOf knd p acc ∧ s1.heap.DictOf knd o more ∧ acc.length + more.length ≤ sizeLine ∧ ∀ g, g.DictOf knd p (merged acc more) → Heap.SameBut p s1.heap g → Z { s1 with heap := g }
theorem display_two {v1 v2 : Sem Value} {Q : Value → Shared → Prop} (hstr : ∀ e : DictEntry, (∃ k, knd.is k e.key = true) → ∀ a, e.key ≠ .ref a)
    (h : wpAny (model prog w) A v1 (MergeAt knd s.heap.objs.size fun s1 => wpAny (model prog w) A v2 (MergeAt knd s.heap.objs.size fun s2 => Q (.ref s.heap.objs.size) s2) E s1) E { s with heap := s.heap.push { cls := .type "dict", data := .dict #[] } }) :
    wpAny (model prog w) A (dictDisplay [(none, v1), (none, v2)]) Q E s := by
  unfold dictDisplay
  simp only [List.forIn_cons, List.forIn_nil, List.isEmpty_nil, if_true, pure_bind, bind_assoc]
  refine wpAny_bind (wpAny_alloc ?_)
  refine wpAny_bind (wpAny_holding (wpAny_mono h (fun u s1 h1 => ?_) fun _ _ e => e))
  obtain ⟨o, acc, more, rfl, ne, lo, da, db, hz, q⟩ := h1
  refine wpAny_bind (wpAny_onRaise (wpAny_tryCatch (wpAny_onRaise (wpAny_holding (merge_dict ne lo da db hstr hz fun g dg sg => ?_)))))
  refine wpAny_bind (wpAny_holding (wpAny_mono (q g dg sg) (fun u2 s2 h2 => ?_) fun _ _ e => e))
  obtain ⟨o2, acc2, more2, rfl, ne2, lo2, da2, db2, hz2, q2⟩ := h2
  refine wpAny_bind (wpAny_onRaise (wpAny_tryCatch (wpAny_onRaise (wpAny_holding (merge_dict ne2 lo2 da2 db2 hstr hz2 fun g2 dg2 sg2 => ?_)))))
  exact wpAny_pure (q2 g2 dg2 sg2)
end
/-- {**a, **b}, both dicts with keys ints and texts, each evaluated while the new dict holds what is ahead -/
def tBoth (ta tb : TE) : TE := fun σ H Q => ∀ p, H p = none → ta σ (upd H p (.dK [])) fun x H1 => ∃ a ka, x = .ref a ∧ H1 p = some (.dK []) ∧ H1 a = some (.dK ka) ∧ p ≠ a ∧
  tb σ (upd H1 p (.dK (mergeK [] ka))) fun y H2 => ∃ b kb, y = .ref b ∧ H2 p = some (.dK (mergeK [] ka)) ∧ H2 b = some (.dK kb) ∧ p ≠ b ∧ ka.length + kb.length ≤ 1000 ∧ Q (.ref p) (upd H2 p (.dK (mergeK (mergeK [] ka) kb)))
theorem mix_noref {P : Program} {w : World} (e : DictEntry) (h : ∃ k, (mixKind P w).is k e.key = true) (a : Addr) : e.key ≠ .ref a := by
  obtain ⟨k, hk⟩ := h
  intro z
  rcases keyIs_shape (show keyIs k e.key = true from hk) with ⟨i, t, _, e1⟩ | ⟨i, t, _, e1⟩
  · rw [z] at e1; cases e1
  · rw [z] at e1; cases e1
theorem pe_both {X : Cx} {pos : Pos} {e1 e2 : Expr} {ta tb : TE} (ha : PE X e1 ta) (hb : PE X e2 tb) : PE X (.Dict [none, none] [e1, e2] pos) (tBoth ta tb) := by
  refine ⟨fun pins s σ H Q I q => ?_⟩
  have hn := I.hok.fresh (Nat.le_refl s.heap.objs.size)
  rw [arm_eval_Dict]
  refine wpAny_bind (wpAny_standAt ?_)
  show wpAny _ _ (dictDisplay [(none, do let x ← eval e1 X.env; standAt pos; pure x), (none, do let x ← eval e2 X.env; standAt pos; pure x)]) _ _ _
  refine display_two (knd := mixKind X.prog X.w) (fun e h => mix_noref e h) ?_
  have I1 := I.laid (a := s.heap.objs.size) (o := .dK []) (h' := s.heap.push { cls := .type "dict", data := .dict #[] }) (t' := s.toks) (fun _ _ q => Heap.get?_push_of_some _ q) (Nat.le_refl _) (dk_empty s.heap I.big)
  refine wpAny_bind (thn (ha.run pins _ σ _ _ I1 (q _ hn)) fun u s1 ⟨x, H1, I2, rx, a, ka, ex, hp, hka, ne, q1⟩ => ?_)
  subst ex
  obtain rfl : u = Value.ref a := rx
  refine wpAny_bind (wpAny_standAt (wpAny_pure ?_))
  obtain ⟨z1, lo1, vs1, r1, d1⟩ := dk_of I2.hok hka
  obtain ⟨z0, lo0, vs0, r0, d0⟩ := dk_of I2.hok hp
  cases r0
  have hz1 : (mergeK [] ka).length ≤ sizeLine := by
    have := length_mergeK ka []
    rw [List.length_nil] at this
    omega
  refine ⟨a, [], vs1, rfl, ne, lo1, d0, d1, by rw [List.length_nil, Nat.zero_add, ← r1.length]; exact z1, fun g dg sg => ?_⟩
  have he : ∃ q, g.get? s.heap.objs.size = some q := let ⟨q, _, _, hq, _⟩ := dg; ⟨q, hq⟩
  have I3 := d_write (t' := s1.toks) I2 (by rw [hp]; exact True.intro) sg he (dk_new (H' := upd H1 s.heap.objs.size (.dK (mergeK [] ka))) hz1 lo0 (r1.merge .nil) dg)
  refine wpAny_bind (thn (hb.run pins _ σ _ _ I3 q1) fun u2 s2 ⟨y, H2, I4, ry, b, kb, ey, hp2, hkb, ne2, hsz, q2⟩ => ?_)
  subst ey
  obtain rfl : u2 = Value.ref b := ry
  refine wpAny_bind (wpAny_standAt (wpAny_pure ?_))
  obtain ⟨z2, lo2, vs2, r2, d2⟩ := dk_of I4.hok hkb
  obtain ⟨z3, lo3, vs3, r3, d3⟩ := dk_of I4.hok hp2
  have hm : (mergeK [] ka).length ≤ ka.length := by
    have := length_mergeK ka []
    rw [List.length_nil] at this
    omega
  have hz2 : (mergeK (mergeK [] ka) kb).length ≤ sizeLine := by
    have := length_mergeK kb (mergeK [] ka)
    exact small (by omega)
  refine ⟨b, vs3, vs2, rfl, ne2, lo2, d3, d2, small (by rw [← r3.length, ← r2.length]; omega), fun g2 dg2 sg2 => ?_⟩
  have he2 : ∃ q, g2.get? s.heap.objs.size = some q := let ⟨q, _, _, hq, _⟩ := dg2; ⟨q, hq⟩
  exact ⟨.ref s.heap.objs.size, _, d_write (t' := s2.toks) I4 (by rw [hp2]; exact True.intro) sg2 he2 (dk_new (H' := upd H2 s.heap.objs.size (.dK (mergeK (mergeK [] ka) kb))) hz2 lo0 (r2.merge r3) dg2), rfl, q2⟩

/-- a tuple whose object is known to have no dict of its own -/
def FrT (H : Hp) (a : Addr) (xs : List V) : Prop := ∃ o : Obj, o.dict = none ∧ H a = some (.frz o (.tup xs))
theorem FrT.seq {K : PySem.W.Frag} {H : Hp} {a : Addr} {xs : List V} (h : FrT H a xs) : SqT K H a xs := by
  obtain ⟨o, _, e⟩ := h
  exact .inl (.inr ⟨o, e⟩)
section
variable {X : Cx}
theorem call_tupleF : CallR X (.type "tuple") (fun xs H Q => ∃ p ys, xs = [.ref p] ∧ SqL X.K H p ys ∧ ∀ l o, H l = none → o.dict = none → Q (.ref l) (upd H l (.frz o (.tup ys)))) := by
  intro pins s σ H xs us Q I r h
  obtain ⟨p, ys, rfl, hq, q⟩ := h
  obtain ⟨u, rfl, rx⟩ := vals1 r
  cases rx
  obtain ⟨its, r', pl, hz⟩ := I.list hq
  have hlen := r'.length
  refine call_tuple_list pl.isList (fun g kp => ?_) (by simp only [List.size_toArray] <;> omega)
  have I1 : Inv X pins σ H { s with heap := g } := I.kept (t' := s.toks) kp
  have I2 : Inv X pins σ (upd H g.objs.size (.frz { cls := .type "tuple", data := .seq its.toArray } (.tup ys))) { s with heap := g.push { cls := .type "tuple", data := .seq its.toArray } } :=
    I1.laid (t' := s.toks) (fun b o e => Heap.get?_push_of_some _ e) (Nat.le_refl _) (show ObjOk X.prog X.w _ _ _ (.frz _ (.tup ys)) from ⟨Heap.get?_push_size _ rfl, hz, its, r', IsTup.new _ _⟩)
  exact ⟨.ref g.objs.size, _, I2, rfl, q _ _ (I1.hok.fresh (Nat.le_refl _)) rfl⟩
theorem pairs_vv {pins : List (Addr × Obj)} {σ : L2.St} {H : Hp} {s : Shared} (I : Inv X pins σ H s) : ∀ {ps : List Addr} {kvs : List (Key × V)}, Paired (fun p kv => SqT X.K H p [kV kv.1, kv.2]) ps kvs →
    ∃ (pr : List (Value × Value)) (prs : List (Key × Value)), KV kvs prs ∧ pr.length = ps.length ∧ prs.length = ps.length ∧ ∀ (j : Nat) (k v : Value), pr[j]? = some (k, v) → ∃ (b : Addr) (key : Key), ps[j]? = some b ∧ IsTup s.heap b #[k, v] ∧ prs[j]? = some (key, v) ∧ keyIs key k = true
  | _, _, .nil => ⟨[], [], .nil, rfl, rfl, fun j k v e => by simp at e⟩
  | _, _, .cons (a := p) (b := kv) h t => by
    obtain ⟨pr, prs, r, hl, hl2, hp⟩ := pairs_vv I t
    obtain ⟨its, rv, ht, _⟩ := I.tuple h
    obtain ⟨u, y, rfl, ru, ry⟩ := vals2 rv
    refine ⟨(u, y) :: pr, (kv.1, y) :: prs, .cons ⟨rfl, ry⟩ r, by rw [List.length_cons, List.length_cons, hl], by rw [List.length_cons, List.length_cons, hl2], fun j k v e => ?_⟩
    cases j with
    | zero =>
      have z : (u, y) = (k, v) := Option.some.inj e
      cases z
      exact ⟨p, kv.1, rfl, ht, rfl, kV_is (P := X.prog) (w := X.w) ru⟩
    | succ j =>
      obtain ⟨b, key, z1, z2, z3, z4⟩ := hp j k v (by simpa using e)
      exact ⟨b, key, by simpa using z1, z2, by simpa using z3, z4⟩
theorem call_dictT (hcalm : X.calm = true) : CallR X (.type "dict") (fun xs H Q => ∃ (a : Addr) (ps : List Addr) (kvs : List (Key × V)), xs = [.ref a] ∧ FrT H a (ps.map V.ref) ∧ Paired (fun p kv => SqT X.K H p [kV kv.1, kv.2]) ps kvs ∧
    ∀ p, H p = none → Q (.ref p) (upd H p (.dK (mergeK [] kvs)))) := by
  intro pins s σ H xs us Q I r q
  obtain ⟨a, ps, kvs, rfl, ⟨o, ho, hq⟩, hp, q⟩ := q
  obtain ⟨u, rfl, rx⟩ := vals1 r
  cases rx
  obtain ⟨og, hz, its, rv, ot, hot, hc, n, hd⟩ := I.hok a _ hq
  rw [og] at hot
  cases hot
  have ei := refs_at rv
  subst ei
  obtain ⟨pr, prs, rel, hl, hl2, hpr⟩ := pairs_vv I hp
  rw [List.length_map] at hz
  have hitem : PairItems s.heap (ps.map Value.ref).toArray (fun j => ps.getD j 0) pr := by
    refine ⟨by simp [hl], fun j k v e => ?_⟩
    obtain ⟨b, key, z1, z2, z3, z4⟩ := hpr j k v e
    have zb : ps.getD j 0 = b := by
      rw [List.getD_eq_getElem?_getD, z1]
      rfl
    refine ⟨?_, .inl ?_⟩
    · show (List.map Value.ref ps).toArray[j]? = some (Value.ref (ps.getD j 0))
      rw [zb]
      simp [z1]
    · show s.heap.IsTuple (ps.getD j 0) #[k, v]
      rw [zb]
      obtain ⟨ob, y1, y2, y3, y4⟩ := z2
      exact ⟨ob, y1, y2, y3, y4⟩
  refine PySem.call_dict_pairs (knd := mixKind X.prog X.w) (kvs := prs) (PairArg.tuple a (ps.map Value.ref).toArray (fun j => ps.getD j 0) pr) (I.ok.hd hcalm) ⟨⟨o, n, og, hc, ho, hd⟩, hitem⟩ ⟨by rw [hl2, hl], fun i key v e => ?_⟩ (by rw [hl]; exact hz) fun h' tk hd' k => ?_
  · obtain ⟨b, k2, z1, z2, z3, z4⟩ := hpr i key v e
    exact ⟨k2, z3, z4⟩
  · have hm : (s.heap.objs.size == sysModules) = false := beq_eq_false_iff_ne.mpr (Nat.ne_of_gt I.big)
    have hlen : (mergeK [] kvs).length ≤ sizeLine := by
      refine Nat.le_trans (length_mergeK kvs []) ?_
      rw [List.length_nil, Nat.zero_add, rel.length, hl2]
      exact hz
    exact ⟨.ref s.heap.objs.size, upd H s.heap.objs.size (.dK (mergeK [] kvs)), I.laid (t' := tk) (fun b u z => k b u (fun y => nomatch y) z) (Nat.le_refl _) (show ObjOk X.prog X.w _ _ _ (.dK (mergeK [] kvs)) from ⟨hlen, hm, merged [] prs, KV.merge rel .nil, hd'⟩), rfl, q _ (I.hok.fresh (Nat.le_refl _))⟩
/-- a dict of the module's top, as it stands in the written part -/
structure KTab (P : Program) (w : World) (K : PySem.W.Frag) (a : Addr) (kvs : List (Key × V)) : Prop where
  lo : (a == sysModules) = false
  dd : ∃ vs, KV kvs vs ∧ ∀ h : Heap, K.In h → h.DictOf (mixKind P w) a vs
  sz : kvs.length ≤ 1000
theorem call_dictK : CallR X (.type "dict") (fun xs H Q => ∃ (a : Addr) (kvs : List (Key × V)), xs = [.ref a] ∧ KTab X.prog X.w X.K a kvs ∧ ∀ p, H p = none → Q (.ref p) (upd H p (.dK kvs))) := by
  intro pins s σ H xs us Q I r q
  obtain ⟨a, kvs, rfl, ⟨lo, ⟨vs, rel, dd⟩, z⟩, q⟩ := q
  obtain ⟨u, rfl, rx⟩ := vals1 r
  cases rx
  refine kt_call_dict lo (dd _ I.kIn) (by rw [← rel.length]; exact small z) fun h' d' hs => ?_
  have hm : (s.heap.objs.size == sysModules) = false := beq_eq_false_iff_ne.mpr (Nat.ne_of_gt I.big)
  exact ⟨.ref s.heap.objs.size, upd H s.heap.objs.size (.dK kvs), I.laid (t' := s.toks) (fun b u e => (hs.2 b (Nat.ne_of_lt (Heap.lt_size e))).trans (Heap.get?_push_of_some _ e)) (Nat.le_refl _)
    (show ObjOk X.prog X.w _ _ _ (.dK kvs) from ⟨small z, hm, vs, rel, d'⟩), rfl, q _ (I.hok.fresh (Nat.le_refl _))⟩
theorem op_inT : OpR X (compareOp .In) (fun x y H Q => ∃ (a : Addr) (kvs : List (Key × V)) (k : Key), x = kV k ∧ y = .ref a ∧ KTab X.prog X.w X.K a kvs ∧ Q (.bl (valV kvs k).isSome) H) := by
  intro pins s σ H x y v u Q I rx ry h
  obtain ⟨a, kvs, k, rfl, rfl, ⟨lo, ⟨vs, rel, dd⟩, z⟩, q⟩ := h
  cases ry
  refine wpAny_in_of (kV_is (P := X.prog) (w := X.w) rx) lo (dd _ I.kIn).mapOf ?_
  rw [← (rel.val k).isSome_eq]
  exact ⟨.bl (valV kvs k).isSome, H, I.tok _, rfl, q⟩
end
end Bd
end

section
namespace Bd
open PySem L2
abbrev sIsInteger : Stmt := (top 10)
theorem scIsInteger : FnScope ["thing"] ["thing"] (defScope sIsInteger) := ⟨rfl, rfl, rfl, by decide +kernel, rfl, by decide +kernel, by decide +kernel⟩
abbrev sIsAmount : Stmt := (top 11)
theorem scIsAmount : FnScope ["thing", "top", "bottom"] ["thing"] (defScope sIsAmount) := ⟨rfl, rfl, rfl, by decide +kernel, rfl, by decide +kernel, by decide +kernel⟩
abbrev sDivisor : Stmt := (top 12)
theorem scDivisor : FnScope ["one", "other"] ["one", "other"] (defScope sDivisor) := ⟨rfl, rfl, rfl, by decide +kernel, rfl, by decide +kernel, by decide +kernel⟩
abbrev sIsEndless : Stmt := (top 24)
theorem scIsEndless : FnScope ["thing"] ["thing"] (defScope sIsEndless) := ⟨rfl, rfl, rfl, by decide +kernel, rfl, by decide +kernel, by decide +kernel⟩
abbrev sIsWord : Stmt := (top 23)
theorem scIsWord : FnScope ["thing"] ["thing"] (defScope sIsWord) := ⟨rfl, rfl, rfl, by decide +kernel, rfl, by decide +kernel, by decide +kernel⟩
abbrev sIsSet : Stmt := (top 25)
theorem scIsSet : FnScope ["thing", "ahead", "number"] ["thing"] (defScope sIsSet) := ⟨rfl, rfl, rfl, by decide +kernel, rfl, by decide +kernel, by decide +kernel⟩
abbrev sMayHave : Stmt := (top 26)
theorem scMayHave : FnScope ["word", "value"] ["word", "value"] (defScope sMayHave) := ⟨rfl, rfl, rfl, by decide +kernel, rfl, by decide +kernel, by decide +kernel⟩

def leftW : List Str := ["min", "low", "max", "quota", "burst", "tops", "sets", "alone"]
structure TP (P : Program) (w : World) (K : PySem.W.Frag) (mg : Str → Option Value) (aL : Addr) (left : List (Key × V)) : Prop where
  z_len : mg "len" = none
  z_int : mg "int" = none
  z_bool : mg "bool" = none
  z_str : mg "str" = none
  z_tuple : mg "tuple" = none
  z_list : mg "list" = none
  z_dict : mg "dict" = none
  z_all : mg "all" = none
  z_enumerate : mg "enumerate" = none
  z_isinstance : mg "isinstance" = none
  g_LONG : ∃ t, mg "LONG" = some (.int 3000 t)
  g_ENDLESS : ∃ t, mg "ENDLESS" = some (.str "endless" t)
  g_GREATEST_PROCESSOR : ∃ t, mg "GREATEST_PROCESSOR" = some (.int 63 t)
  g_LEFT_OUT : mg "LEFT_OUT" = some (.ref aL)
  tab : KTab P w K aL left
  keys : left.map (·.1) = leftW.map Sum.inr
def spIsInteger : Sp := fun vs H Q _ => ∃ i : Int, vs = [.int i] ∧ Q (.bl true) H
def spDivisor : Sp := fun vs H Q _ => ∃ a b : Nat, vs = [.int (a : Int), .int (b : Int)] ∧ a < 2 ^ 3000 ∧ b < 2 ^ 3000 ∧ Q (.int (Nat.gcd a b : Nat)) H
def spIsAmount (K : PySem.W.Frag) : Sp := fun vs H Q _ => ∃ (v : V) (n d : Nat), vs = [v] ∧ Dp K H v (.tuple [.int n, .int d]) ∧ n < 2 ^ 3000 ∧ 0 < d ∧ d < 2 ^ 3000 ∧ Nat.gcd n d = 1 ∧ Q (.bl true) H
def spIsEndless (K : PySem.W.Frag) : Sp := fun vs H Q _ => ∃ v : V, vs = [v] ∧ ((v = .str "endless" ∧ Q (.bl true) H) ∨ ∃ a xs, v = .ref a ∧ SqT K H a xs ∧ Q (.bl false) H)
def spIsWord : Sp := fun vs H Q _ => ∃ x : Str, vs = [.str x] ∧ x ∈ leftW ∧ Q (.bl true) H
/-- rising numbers above p, up to 63 -/
def RiseOk : Int → List Int → Prop
  | _, [] => True
  | p, x :: r => p < x ∧ x ≤ 63 ∧ RiseOk x r
def spIsSet (K : PySem.W.Frag) : Sp := fun vs H Q _ => ∃ (v : V) (xs : List Int), vs = [v] ∧ Dp K H v (.tuple (xs.map .int)) ∧ RiseOk (-1) xs ∧ xs.length ≤ 64 ∧ Q (.bl true) H
inductive ValOk : Str → PyData → Prop
  | amt {x : Str} {n d : Nat} : x ∈ (["min", "low", "burst", "max", "quota", "tops"] : List Str) → n < 2 ^ 3000 → 0 < d → d < 2 ^ 3000 → Nat.gcd n d = 1 → ValOk x (.tuple [.int n, .int d])
  | endl {x : Str} : x ∈ (["max", "quota", "tops"] : List Str) → ValOk x (.str "endless")
  | none : ValOk "sets" .none
  | set {xs : List Int} : RiseOk (-1) xs → xs.length ≤ 64 → ValOk "sets" (.tuple (xs.map .int))
  | alone {i : Int} : i = 0 ∨ i = 1 → ValOk "alone" (.int i)
def spMayHave (K : PySem.W.Frag) : Sp := fun vs H Q _ => ∃ (x : Str) (v : V) (d : PyData), vs = [.str x, v] ∧ Dp K H v d ∧ ValOk x d ∧ ∀ H', Same H H' → Q (.bl true) H'
section
variable {P : Program} {w : World} {K : PySem.W.Frag} {mg : Str → Option Value} {base : Heap} {aL : Addr} {left : List (Key × V)}
theorem ok_isInteger {f : Addr} {fd : FuncData} (F : Fun K "is_integer" "is_integer" sIsInteger f fd) (T : TP P w K mg aL left) : FnOk P w K mg base CX0 1 f fd ["thing"] spIsInteger := by
  refine F.ok scIsInteger (fun vs H Q E h => ?_) (fun cdv A outer s H vs Q E hr h => ?_)
  · obtain ⟨i, rfl, _⟩ := h
    rfl
  obtain ⟨i, rfl, q⟩ := h
  refine ⟨_, (pss_one (ps_ret (pe_and (pe_callB call_isi (by rfl) T.z_isinstance (by decide +kernel) (pa_cons (pv 0) (pa_cons (pe_bltn (v := .ty "int") (u := .type "int") (by rfl) T.z_int (by decide +kernel) rfl) pa_nil))) (pe_one (pe_not (pe_callB call_isi (by rfl) T.z_isinstance (by decide +kernel) (pa_cons (pv 0) (pa_cons (pe_bltn (v := .ty "bool") (u := .type "bool") (by rfl) T.z_bool (by decide +kernel) rfl) pa_nil)))))))), ?_⟩
  refine ⟨_, rfl, _, _, _, _, true, rfl, .ty _, .base (.int i), kit_ty (by decide +kernel), true, rfl, ?_⟩
  refine ⟨_, rfl, _, _, _, _, false, rfl, .ty _, .base (.int i), kit_ty (by decide +kernel), false, rfl, ?_⟩
  exact q

theorem bits_le {a : Nat} (h : a < 2 ^ 3000) : ((Builtin.Int.intBits (a : Int) : Nat) : Int) ≤ 3000 := by
  unfold Builtin.Int.intBits
  split
  · decide
  · have := PySem.Flt.log2_lt_of (by decide : 0 < 3000) h
    show (((a : Int).natAbs.log2 + 1 : Nat) : Int) ≤ 3000
    rw [Int.natAbs_natCast]
    omega
def mu2 : St → Hp → Nat := fun σ _ => match σ[1]? with
  | some (some (V.int b)) => b.toNat
  | _ => 0
theorem ok_divisor {f : Addr} {fd : FuncData} (F : Fun K "divisor" "divisor" sDivisor f fd) (T : TP P w K mg aL left) : FnOk P w K mg base CX0 1 f fd ["one", "other"] spDivisor := by
  refine F.ok scDivisor (fun vs H Q E h => ?_) (fun cdv A outer s H vs Q E hr h => ?_)
  · obtain ⟨a, b, rfl, _⟩ := h
    rfl
  obtain ⟨a, b, rfl, ha, hb, q⟩ := h
  obtain ⟨tl, hL⟩ := T.g_LONG
  have rest : ∀ x y : Nat, x < 2 ^ 3000 → y < 2 ^ 3000 → Nat.gcd x y = Nat.gcd a b → ∀ D : Ends, D.rt (.int (Nat.gcd a b : Nat)) H →
      tSeq (tWhile (tTest (tOp (rI0 fun i j => V.bl (decide (j < i))) (tBits (tVar 1)) (tC (V.int 3000)))) tNever)
        (tSeq (tWhile (fun σ H Q => tVar 1 σ H fun x H1 => ∃ k, TruV K x H1 k ∧ Q k H1) (tPar 0 1 (tCons (tVar 1) (tCons (tOp (rI (fun _ j => j ≠ 0) fun i j => V.int (i.fmod j)) (tVar 0) (tVar 1)) tNil)))) (tRet (tVar 0)))
        D [some (.int (x : Int)), some (.int (y : Int))] H := by
    intro x y hx hy e D q
    refine while_by (fun σ H' => H' = H ∧ σ = [some (.int (x : Int)), some (.int (y : Int))]) mu2 ⟨rfl, rfl⟩ ?_ ?_
    · rintro σ H' ⟨rfl, rfl⟩
      refine ⟨_, rfl, _, rfl, _, _, rfl, rfl, _, rfl, ?_⟩
      have hd : decide (3000 < ((Builtin.Int.intBits (y : Int) : Nat) : Int)) = false := decide_eq_false (by have := bits_le hy; omega)
      rw [hd]
      refine iteF ?_
      dsimp only
      unfold tSeq
      refine while_by (fun σ H2 => H2 = H' ∧ ∃ x y : Nat, σ = [some (.int (x : Int)), some (.int (y : Int))] ∧ Nat.gcd x y = Nat.gcd a b) mu2 ⟨rfl, x, y, rfl, e⟩ ?_ ?_
      · rintro σ H2 ⟨rfl, x, y, rfl, e⟩
        refine ⟨_, rfl, _, rfl, ?_⟩
        by_cases y0 : y = 0
        · subst y0
          refine iteF ?_
          refine ⟨_, rfl, ?_⟩
          rw [Nat.gcd_zero_right] at e
          rw [e]
          exact q
        · have hk : (((y : Nat) : Int) != 0) = true := by
            rw [bne_iff_ne]
            omega
          rw [hk]
          refine iteT ?_
          refine ⟨_, rfl, _, rfl, _, rfl, _, _, rfl, rfl, by show (y : Int) ≠ 0; omega, _, _, rfl, ?_⟩
          have em : (x : Int).fmod (y : Int) = ((x % y : Nat) : Int) := by
            rw [Int.fmod_eq_emod_of_nonneg _ (by omega)]
            exact (Int.natCast_emod x y).symm
          refine ⟨⟨rfl, y, x % y, ?_, ?_⟩, ?_⟩
          · show [some (V.int (y : Int)), some (V.int ((x : Int).fmod (y : Int)))] = _
            rw [em]
          · rw [← e, Nat.gcd_comm x y, Nat.gcd_rec y x, Nat.gcd_comm]
          · show ((x : Int).fmod (y : Int)).toNat < (y : Int).toNat
            rw [em]
            have := Nat.mod_lt x (show 0 < y by omega)
            omega
      · rintro σ H2 Q1 Q2 f ⟨v, h1, k, h2, q⟩
        exact ⟨v, h1, k, h2, f _ _ q⟩
    · rintro σ H' Q1 Q2 f h
      obtain ⟨v, h1, i, h2, i2, j2, h3, h4, k, h5, q⟩ := h
      exact ⟨v, h1, i, h2, i2, j2, h3, h4, k, h5, f _ _ q⟩
  refine ⟨_, (pss_cons (ps_if (pt_cmpR op_lt (pv 0) (pv 1) (nomark _)) (pss_one (ps_par (i := 0) (j := 1) (by rfl) scDivisor.nd rfl rfl (by decide) rfl rfl (pa_cons (pv 1) (pa_cons (pv 0) pa_nil)) (by rfl))) pss_nil) (pss_cons (ps_while PassesOwn.never (pt_cmpR op_gt (pe_bits (pv 1)) (pe_glob (v := .int 3000) rfl hL ⟨_, rfl⟩) (nomark _)) (pss_one ps_never)) (pss_cons (ps_while PassesOwn.never (pt_truth (pv 1) (by intro _; rfl)) (pss_one (ps_par (i := 0) (j := 1) (by rfl) scDivisor.nd rfl rfl (by decide) rfl rfl (pa_cons (pv 1) (pa_cons (pe_op op_modN (pv 0) (pv 1)) pa_nil)) (by rfl)))) (pss_one (ps_ret (pv 0)))))), ?_⟩
  refine ⟨_, rfl, _, rfl, _, _, rfl, rfl, _, rfl, ?_⟩
  refine ite2 (fun c => ?_) (fun c => ?_)
  · refine ⟨_, rfl, _, rfl, _, _, rfl, ?_⟩
    exact rest b a hb ha (Nat.gcd_comm _ _) _ q
  · exact rest a b ha hb rfl _ q

theorem bl_t {p : Prop} [Decidable p] (h : p) : V.bl (decide p) = V.bl true := congrArg V.bl (decide_eq_true h)
theorem dp_tup {H : Hp} {v : V} {ds : List PyData} (h : Dp K H v (.tuple ds)) : ∃ a xs, v = .ref a ∧ SqT K H a xs ∧ DpAll K H xs ds := by
  cases h with
  | tup h1 h2 => exact ⟨_, _, rfl, h1, h2⟩
theorem dpall_nil {H : Hp} {xs : List V} (h : DpAll K H xs []) : xs = [] := by
  cases h
  rfl
theorem dpall_cons {H : Hp} {xs : List V} {d : PyData} {ds : List PyData} (h : DpAll K H xs (d :: ds)) : ∃ v vs, xs = v :: vs ∧ Dp K H v d ∧ DpAll K H vs ds := by
  cases h with
  | cons h1 h2 => exact ⟨_, _, rfl, h1, h2⟩
theorem dp_int {H : Hp} {v : V} {i : Int} (h : Dp K H v (.int i)) : v = .int i := by
  cases h
  rfl
theorem dp_str {H : Hp} {v : V} {x : Str} (h : Dp K H v (.str x)) : v = .str x := by
  cases h
  rfl
theorem dp_none {H : Hp} {v : V} (h : Dp K H v .none) : v = .non := by
  cases h
  rfl
theorem dp_two {H : Hp} {v : V} {i j : Int} (h : Dp K H v (.tuple [.int i, .int j])) : ∃ a, v = .ref a ∧ SqT K H a [.int i, .int j] := by
  obtain ⟨a, xs, rfl, h1, h2⟩ := dp_tup h
  obtain ⟨x, xs, rfl, e1, h2⟩ := dpall_cons h2
  obtain ⟨y, xs, rfl, e2, h2⟩ := dpall_cons h2
  cases dpall_nil h2
  cases dp_int e1
  cases dp_int e2
  exact ⟨a, rfl, h1⟩
theorem sqt_ty {H : Hp} {a : Addr} {xs : List V} (h : SqT K H a xs) : TyX K H (.ref a) (.type "tuple") := by
  rcases h with (h | ⟨o, h⟩) | ⟨o, its, n, h, c, _⟩
  · exact .base (.tup h)
  · exact .fTuple h
  · exact .kTuple h c
theorem ok_isAmount {f g e : Addr} {fd gd ed : FuncData} (F : Fun K "is_amount" "is_amount" sIsAmount f fd) (T : TP P w K mg aL left) (cI : Cal P w K mg base "is_integer" ["thing"] 1 spIsInteger g gd) (cD : Cal P w K mg base "divisor" ["one", "other"] 1 spDivisor e ed) : FnOk P w K mg base CX0 2 f fd ["thing"] (spIsAmount K) := by
  refine F.ok scIsAmount (fun vs H Q E h => ?_) (fun cdv A outer s H vs Q E hr h => ?_)
  · obtain ⟨i, n, d, rfl, _⟩ := h
    rfl
  obtain ⟨v, n, d, rfl, hv, h1, h2, h3, h4, q⟩ := h
  obtain ⟨a, rfl, ha⟩ := dp_two hv
  refine ⟨_, (pss_cons (ps_if (PW.pt (pw_or (pt_not (pt_val (pe_callB call_isi (by rfl) T.z_isinstance (by decide +kernel) (pa_cons (pv 0) (pa_cons (pe_bltn (v := .ty "tuple") (u := .type "tuple") (by rfl) T.z_tuple (by decide +kernel) rfl) pa_nil))))) (pw_or1 (pt_cmpR op_ne (pe_callB call_len_seq (by rfl) T.z_len PySem.boot_len (pa_cons (pv 0) pa_nil)) pe_int (nomark _))))) (pss_one (ps_ret pe_bl)) pss_nil) (pss_cons (ps_asg (pv 0) (pg_tup (by rfl) (pgs_cons (pg_name (i := 1) scIsAmount.nd rfl (Or.inl rfl)) (pgs_cons (pg_name (i := 2) scIsAmount.nd rfl (Or.inl rfl)) pgs_nil)))) (pss_cons (ps_if (PW.pt (pw_or (pt_not (pt_val (pe_call cI.ok (hr.mono (by decide)) rfl cI.mg cI.kp cI.bd .nil pass0 (pa_cons (pv 1) pa_nil)))) (pw_or1 (pt_not (pt_val (pe_call cI.ok (hr.mono (by decide)) rfl cI.mg cI.kp cI.bd .nil pass0 (pa_cons (pv 2) pa_nil))))))) (pss_one (ps_ret pe_bl)) pss_nil) (pss_one (ps_ret (pe_and (pe_cmpR op_ge (pv 1) pe_int (nomark _)) (pe_and (pe_cmpR op_ge (pv 2) pe_int (nomark _)) (pe_one (pe_cmpR op_eq (pe_call cD.ok (hr.mono (by decide)) rfl cD.mg cD.kp cD.bd .nil pass0 (pa_cons (pv 1) (pa_cons (pv 2) pa_nil))) pe_int (nomark _)))))))))), ?_⟩
  refine ⟨_, rfl, _, _, _, _, true, rfl, .ty _, sqt_ty ha, kit_ty (by decide +kernel), true, rfl, ?_⟩
  refine iteF ?_
  refine ⟨_, rfl, a, _, rfl, .inr ha, rfl, _, rfl, ?_⟩
  refine iteNS rfl ?_
  refine ⟨_, rfl, a, _, rfl, ha, rfl, ?_⟩
  refine ⟨_, _, rfl, _, _, rfl, rfl, ?_⟩
  refine ⟨_, rfl, _, rfl, true, rfl, ?_⟩
  refine iteF ?_
  refine ⟨_, rfl, _, rfl, true, rfl, ?_⟩
  refine iteF ?_
  refine ⟨_, rfl, _, _, rfl, rfl, true, bl_t (by omega), ?_⟩
  refine ⟨_, rfl, _, _, rfl, rfl, true, bl_t (by omega), ?_⟩
  refine ⟨_, rfl, _, rfl, n, d, rfl, h1, h3, ?_⟩
  rw [h4]
  exact ⟨rfl, q⟩

theorem Same.seqT {H H' : Hp} {a : Addr} {xs : List V} (e : Same H H') (h : SqT K H a xs) : SqT K H' a xs := by
  rcases h with (h | ⟨o, h⟩) | h
  · exact .inl (.inl (e _ _ h))
  · exact .inl (.inr ⟨o, e _ _ h⟩)
  · exact .inr h
mutual
theorem dp_same {H H' : Hp} (e : Same H H') : ∀ (d : PyData) (v : V), Dp K H v d → Dp K H' v d
  | .none, _, h => by
    cases h
    exact .non
  | .bool b, _, h => by
    cases h
    exact .bl b
  | .int i, _, h => by
    cases h
    exact .int i
  | .str x, _, h => by
    cases h
    exact .str x
  | .list ds, _, h => by
    cases h with
    | lst h1 h2 => exact .lst (e.seq h1) (dp_sameAll e ds _ h2)
  | .tuple ds, _, h => by
    cases h with
    | tup h1 h2 => exact .tup (Same.seqT e h1) (dp_sameAll e ds _ h2)
  | .dict _, _, h => nomatch h
theorem dp_sameAll {H H' : Hp} (e : Same H H') : ∀ (ds : List PyData) (vs : List V), DpAll K H vs ds → DpAll K H' vs ds
  | [], _, h => by
    cases h
    exact .nil
  | d :: ds, _, h => by
    cases h with
    | cons h1 h2 => exact .cons (dp_same e d _ h1) (dp_sameAll e ds _ h2)
end
theorem ok_isEndless {f : Addr} {fd : FuncData} (F : Fun K "is_endless" "is_endless" sIsEndless f fd) (T : TP P w K mg aL left) : FnOk P w K mg base CX0 1 f fd ["thing"] (spIsEndless K) := by
  refine F.ok scIsEndless (fun vs H Q E h => ?_) (fun cdv A outer s H vs Q E hr h => ?_)
  · obtain ⟨v, rfl, _⟩ := h
    rfl
  obtain ⟨v, rfl, h⟩ := h
  obtain ⟨tl, hL⟩ := T.g_ENDLESS
  refine ⟨_, (pss_one (ps_ret (pe_and (pe_callB call_isi (by rfl) T.z_isinstance (by decide +kernel) (pa_cons (pv 0) (pa_cons (pe_bltn (v := .ty "str") (u := .type "str") (by rfl) T.z_str (by decide +kernel) rfl) pa_nil))) (pe_one (pe_cmpR op_eq (pv 0) (pe_glob (v := .str "endless") rfl hL ⟨_, rfl⟩) (nomark _)))))), ?_⟩
  rcases h with ⟨rfl, q⟩ | ⟨a, xs, rfl, ha, q⟩
  · refine ⟨_, rfl, _, _, _, _, true, rfl, .ty _, .base (.str _), kit_ty (by decide +kernel), true, rfl, ?_⟩
    refine ⟨_, rfl, rfl, ?_⟩
    show Q (.bl (decide (V.str "endless" = V.str "endless"))) H
    rw [decide_eq_true rfl]
    exact q
  · refine ⟨_, rfl, _, _, _, _, false, rfl, .ty _, sqt_ty ha, kit_ty (by decide +kernel), false, rfl, ?_⟩
    exact q

theorem val_some {kvs : List (Key × V)} {k : Key} (h : k ∈ kvs.map (·.1)) : (valV kvs k).isSome = true := by
  obtain ⟨p, hp, e⟩ := List.mem_map.mp h
  rw [← valV_any]
  exact List.any_eq_true.mpr ⟨p, hp, decide_eq_true e⟩
theorem ok_isWord {f : Addr} {fd : FuncData} (F : Fun K "is_word" "is_word" sIsWord f fd) (T : TP P w K mg aL left) : FnOk P w K mg base CX0 1 f fd ["thing"] spIsWord := by
  refine F.ok scIsWord (fun vs H Q E h => ?_) (fun cdv A outer s H vs Q E hr h => ?_)
  · obtain ⟨v, rfl, _⟩ := h
    rfl
  obtain ⟨x, rfl, hx, q⟩ := h
  refine ⟨_, (pss_one (ps_ret (pe_and (pe_callB call_isi (by rfl) T.z_isinstance (by decide +kernel) (pa_cons (pv 0) (pa_cons (pe_bltn (v := .ty "str") (u := .type "str") (by rfl) T.z_str (by decide +kernel) rfl) pa_nil))) (pe_one (pe_cmpR op_inT (pv 0) (pe_glob (v := .ref aL) rfl T.g_LEFT_OUT rfl) (by first | exact nomark _ | rfl)))))), ?_⟩
  refine ⟨_, rfl, _, _, _, _, true, rfl, .ty _, .base (.str _), kit_ty (by decide +kernel), true, rfl, ?_⟩
  refine ⟨_, rfl, aL, left, Sum.inr x, rfl, rfl, T.tab, ?_⟩
  rw [val_some (k := (Sum.inr x : Key)) (by rw [T.keys]; exact List.mem_map.mpr ⟨x, hx, rfl⟩)]
  exact q

theorem map_int_get {xs : List Int} {i : Nat} {x : V} (h : (xs.map V.int)[i]? = some x) : ∃ z, x = .int z ∧ xs[i]? = some z := by
  rw [List.getElem?_map] at h
  cases e : xs[i]? with
  | none =>
    rw [e] at h
    cases h
  | some z =>
    rw [e] at h
    exact ⟨z, (Option.some.inj h).symm, rfl⟩
theorem dp_ints {H : Hp} : ∀ {vs : List V} {xs : List Int}, DpAll K H vs (xs.map .int) → vs = xs.map V.int
  | vs, [], h => dpall_nil h
  | vs, x :: xs, h => by
    obtain ⟨v, r, rfl, h1, h2⟩ := dpall_cons h
    rw [dp_int h1, dp_ints h2]
    rfl
theorem drop_at {α : Type} {xs : List α} {i : Nat} {z : α} (h : xs[i]? = some z) : xs.drop i = z :: xs.drop (i + 1) := by
  obtain ⟨hi, e⟩ := List.getElem?_eq_some_iff.mp h
  rw [List.drop_eq_getElem_cons hi, e]
theorem ok_isSet {f g : Addr} {fd gd : FuncData} (F : Fun K "is_set" "is_set" sIsSet f fd) (T : TP P w K mg aL left) (cI : Cal P w K mg base "is_integer" ["thing"] 1 spIsInteger g gd) : FnOk P w K mg base CX0 2 f fd ["thing"] (spIsSet K) := by
  refine F.ok scIsSet (fun vs H Q E h => ?_) (fun cdv A outer s H vs Q E hr h => ?_)
  · obtain ⟨v, xs, rfl, _⟩ := h
    rfl
  obtain ⟨v, xs, rfl, hv, hrise, hlen, q⟩ := h
  obtain ⟨a, ys, rfl, ha, hys⟩ := dp_tup hv
  cases dp_ints hys
  obtain ⟨tl, hL⟩ := T.g_GREATEST_PROCESSOR
  refine ⟨_, (pss_cons (ps_if (pt_not (pt_val (pe_callB call_isi (by rfl) T.z_isinstance (by decide +kernel) (pa_cons (pv 0) (pa_cons (pe_bltn (v := .ty "tuple") (u := .type "tuple") (by rfl) T.z_tuple (by decide +kernel) rfl) pa_nil))))) (pss_one (ps_ret pe_bl)) pss_nil) (pss_cons (ps_set (i := 1) scIsSet.nd rfl (Or.inl rfl) (pe_un un_neg pe_int)) (pss_cons (ps_for PassesOwn.never rfl (pi_tup (pv 0)) (pg_name (i := 2) scIsSet.nd rfl (Or.inl rfl)) (pss_cons (ps_if (PW.pt (pw_or (pt_not (pt_val (pe_call cI.ok (hr.mono (by decide)) rfl cI.mg cI.kp cI.bd .nil pass0 (pa_cons (pv 2) pa_nil)))) (pw_or1 (pt_not (pt_chain op_lt op_le (pv 1) (pv 2) (pe_glob (v := .int 63) rfl hL ⟨_, rfl⟩)))))) (pss_one (ps_ret pe_bl)) pss_nil) (pss_one (ps_set (i := 1) scIsSet.nd rfl (Or.inl rfl) (pv 2))))) (pss_one (ps_ret pe_bl))))), ?_⟩
  refine ⟨_, rfl, _, _, _, _, true, rfl, .ty _, sqt_ty ha, kit_ty (by decide +kernel), true, rfl, ?_⟩
  refine iteF ?_
  refine ⟨_, rfl, ?_⟩
  refine ⟨_, rfl, a, rfl, ⟨_, ha⟩, for_tup (xs := xs.map V.int) (fun i σ H' => H' = H ∧ ∃ (p : Int) (o : Option V), σ = [some (.ref a), some (.int p), o] ∧ RiseOk p (xs.drop i)) ⟨rfl, -1, none, rfl, hrise⟩ ?_ ?_ ?_⟩
  · rintro i σ H' _ ⟨rfl, _⟩
    exact ha
  · rintro i x σ H' hi ⟨rfl, p, o, rfl, hp⟩
    obtain ⟨z, rfl, hz⟩ := map_int_get hi
    rw [drop_at hz] at hp
    obtain ⟨h1, h2, h3⟩ := hp
    refine ⟨_, rfl, z, rfl, true, rfl, ?_⟩
    refine iteF ?_
    refine ⟨_, rfl, _, rfl, _, _, rfl, rfl, true, bl_t h1, ?_⟩
    refine iteT ?_
    refine ⟨_, _, rfl, rfl, true, bl_t h2, ?_⟩
    refine iteF ?_
    refine ⟨_, rfl, ?_⟩
    exact ⟨rfl, z, _, rfl, h3⟩
  · rintro σ H' ⟨rfl, _⟩
    exact q

theorem ifF {b : Bool} {A B : Prop} (h : b = false) (k : B) : if b = true then A else B := by
  rw [h]
  exact iteF k
theorem ifT {b : Bool} {A B : Prop} (h : b = true) (k : A) : if b = true then A else B := by
  rw [h]
  exact iteT k
theorem in_yes {x : V} {xs : List V} (h : inV x xs = true) : (if (false : Bool) = true then !inV x xs else inV x xs) = true := by
  rw [if_neg (by decide)]
  exact h
theorem ok_mayHave {f g e c d : Addr} {fd gd ed cd dd : FuncData} (F : Fun K "may_have" "may_have" sMayHave f fd) (T : TP P w K mg aL left) (cA : Cal P w K mg base "is_amount" ["thing"] 2 (spIsAmount K) g gd) (cI : Cal P w K mg base "is_integer" ["thing"] 1 spIsInteger e ed)
    (cS : Cal P w K mg base "is_set" ["thing"] 2 (spIsSet K) c cd) (cE : Cal P w K mg base "is_endless" ["thing"] 1 (spIsEndless K) d dd) : FnOk P w K mg base CX0 3 f fd ["word", "value"] (spMayHave K) := by
  refine F.ok scMayHave (fun vs H Q E h => ?_) (fun cdv A outer s H vs Q E hr h => ?_)
  · obtain ⟨x, v, d, rfl, _⟩ := h
    rfl
  obtain ⟨x, v, d, rfl, hv, hok, q⟩ := h
  refine ⟨_, (pss_cons (ps_if (pt_cmpR op_in_seq (pv 0) (pe_tup (pa_cons pe_str (pa_cons pe_str (pa_cons pe_str pa_nil)))) (by first | exact nomark _ | rfl)) (pss_one (ps_ret (pe_call cA.ok (hr.mono (by decide)) rfl cA.mg cA.kp cA.bd .nil pass0 (pa_cons (pv 1) pa_nil)))) pss_nil) (pss_cons (ps_if (pt_cmpR op_eq (pv 0) pe_str (nomark _)) (pss_one (ps_ret (pe_or (pe_cmpR op_isN (pv 1) pe_non (nomark _)) (pe_one (pe_call cS.ok (hr.mono (by decide)) rfl cS.mg cS.kp cS.bd .nil pass0 (pa_cons (pv 1) pa_nil)))))) pss_nil) (pss_cons (ps_if (pt_cmpR op_eq (pv 0) pe_str (nomark _)) (pss_one (ps_ret (pe_and (pe_call cI.ok (hr.mono (by decide)) rfl cI.mg cI.kp cI.bd .nil pass0 (pa_cons (pv 1) pa_nil)) (pe_one (pe_cmpR op_in_seq (pv 1) (pe_tup (pa_cons pe_int (pa_cons pe_int pa_nil))) (by first | exact nomark _ | rfl)))))) pss_nil) (pss_one (ps_ret (pe_or (pe_call cE.ok (hr.mono (by decide)) rfl cE.mg cE.kp cE.bd .nil pass0 (pa_cons (pv 1) pa_nil)) (pe_one (pe_call cA.ok (hr.mono (by decide)) rfl cA.mg cA.kp cA.bd .nil pass0 (pa_cons (pv 1) pa_nil))))))))), ?_⟩
  refine ⟨_, rfl, by show 3 ≤ sizeLine; decide, fun p hp => ⟨p, _, rfl, .inr (SqT.of upd_same), rfl, rfl, ?_⟩⟩
  have s1 := Same.new (Same.refl H) hp (.tup [.str "min", .str "low", .str "burst"])
  have hv1 := dp_same s1 d v hv
  cases hok with
  | @amt _ n m hw h1 h2 h3 h4 =>
    obtain ⟨a, rfl, ha⟩ := dp_two hv1
    simp only [List.mem_cons, List.not_mem_nil, or_false] at hw
    rcases hw with rfl | rfl | rfl | rfl | rfl | rfl
    iterate 3
      · refine ⟨true, congrArg V.bl (by decide +kernel), iteT ?_⟩
        exact ⟨_, rfl, _, n, m, rfl, hv1, h1, h2, h3, h4, q _ s1⟩
    iterate 3
      · refine ⟨false, congrArg V.bl (by decide +kernel), iteF ?_⟩
        refine ⟨_, rfl, rfl, _, rfl, ifF (by decide +kernel) ?_⟩
        refine ⟨_, rfl, rfl, _, rfl, ifF (by decide +kernel) ?_⟩
        refine ⟨_, rfl, _, rfl, .inr ⟨a, _, rfl, ha, ?_⟩⟩
        refine ⟨false, rfl, ?_⟩
        refine iteF ?_
        exact ⟨_, rfl, _, n, m, rfl, hv1, h1, h2, h3, h4, q _ s1⟩
  | endl hw =>
    cases dp_str hv
    simp only [List.mem_cons, List.not_mem_nil, or_false] at hw
    rcases hw with rfl | rfl | rfl
    all_goals
      refine ⟨false, congrArg V.bl (by decide +kernel), iteF ?_⟩
      refine ⟨_, rfl, rfl, _, rfl, ifF (by decide +kernel) ?_⟩
      refine ⟨_, rfl, rfl, _, rfl, ifF (by decide +kernel) ?_⟩
      refine ⟨_, rfl, _, rfl, .inl ⟨rfl, ?_⟩⟩
      refine ⟨true, rfl, ?_⟩
      refine iteT ?_
      exact q _ s1
  | none =>
    cases dp_none hv
    refine ⟨false, congrArg V.bl (by decide +kernel), iteF ?_⟩
    refine ⟨_, rfl, rfl, _, rfl, ifT (by decide +kernel) ?_⟩
    refine ⟨_, rfl, rfl, true, rfl, iteT ?_⟩
    exact q _ s1
  | @set xs hx hl =>
    obtain ⟨a, ys, rfl, ha, hys⟩ := dp_tup hv1
    refine ⟨false, congrArg V.bl (by decide +kernel), iteF ?_⟩
    refine ⟨_, rfl, rfl, _, rfl, ifT (by decide +kernel) ?_⟩
    refine ⟨_, rfl, rfl, false, rfl, iteF ?_⟩
    exact ⟨_, rfl, _, xs, rfl, hv1, hx, hl, q _ s1⟩
  | @alone i hi =>
    cases dp_int hv
    refine ⟨false, congrArg V.bl (by decide +kernel), iteF ?_⟩
    refine ⟨_, rfl, rfl, _, rfl, ifF (by decide +kernel) ?_⟩
    refine ⟨_, rfl, rfl, _, rfl, ifT (by decide +kernel) ?_⟩
    refine ⟨_, rfl, i, rfl, true, rfl, iteT ?_⟩
    refine ⟨_, rfl, by show 2 ≤ sizeLine; decide, fun p2 hp2 => ⟨p2, _, rfl, .inr (SqT.of upd_same), rfl, rfl, ?_⟩⟩
    have e : inV (.int i) [.int 0, .int 1] = true := by
      rcases hi with rfl | rfl <;> decide +kernel
    show Q (.bl (inV (.int i) [.int 0, .int 1])) _
    rw [e]
    exact q _ (Same.new s1 hp2 _)

end
end Bd
end

section
namespace Bd
open PySem L2
abbrev sIsName : Stmt := (top 22)
theorem scIsName : FnScope ["thing", "letter"] ["thing"] (defScope sIsName) := ⟨rfl, rfl, rfl, by decide +kernel, rfl, by decide +kernel, by decide +kernel⟩
abbrev sIsDue : Stmt := (top 27)
theorem scIsDue : FnScope ["thing", "word", "value"] ["thing"] (defScope sIsDue) := ⟨rfl, rfl, rfl, by decide +kernel, rfl, by decide +kernel, by decide +kernel⟩
abbrev sIsDues : Stmt := (top 28)
theorem scIsDues : FnScope ["thing", "words", "due"] ["thing"] (defScope sIsDues) := ⟨rfl, rfl, rfl, by decide +kernel, rfl, by decide +kernel, by decide +kernel⟩
abbrev sIsGroupRow : Stmt := (top 29)
theorem scIsGroupRow : FnScope ["thing", "name", "above", "dues"] ["thing"] (defScope sIsGroupRow) := ⟨rfl, rfl, rfl, by decide +kernel, rfl, by decide +kernel, by decide +kernel⟩
abbrev sMayStand : Stmt := (top 31)
theorem scMayStand : FnScope ["tree", "row", "name", "above", "dues"] ["tree", "row"] (defScope sMayStand) := ⟨rfl, rfl, rfl, by decide +kernel, rfl, by decide +kernel, by decide +kernel⟩

def NameOk (x : Str) : Prop := 1 ≤ x.length ∧ x.length ≤ 10 ∧ ∀ c ∈ x.cps.toList, 97 ≤ c ∧ c ≤ 122
structure RowM where
  name : Str
  above : Str
  dues : List (Str × PyData)
/-- a pair of a word and a value at p -/
def DueAt (K : PySem.W.Frag) (H : Hp) (p : Addr) (du : Str × PyData) : Prop := ∃ u, SqT K H p [.str du.1, u] ∧ Dp K H u du.2
/-- dues at t -/
def DuesAt (K : PySem.W.Frag) (H : Hp) (t : Addr) (dues : List (Str × PyData)) : Prop := ∃ ps : List Addr, FrT H t (ps.map V.ref) ∧ Paired (DueAt K H) ps dues
def RowAt (K : PySem.W.Frag) (H : Hp) (v : V) (r : RowM) : Prop := ∃ a t, v = .ref a ∧ SqT K H a [.str r.name, .str r.above, .ref t] ∧ DuesAt K H t r.dues
def DuesOk (dues : List (Str × PyData)) : Prop := (dues.map (·.1)).Nodup ∧ ∀ du ∈ dues, du.1 ∈ leftW ∧ ValOk du.1 du.2
theorem paired_mono {α β : Type} {F G : α → β → Prop} (h : ∀ a b, F a b → G a b) : ∀ {xs : List α} {ys : List β}, Paired F xs ys → Paired G xs ys
  | _, _, .nil => .nil
  | _, _, .cons a b => .cons (h _ _ a) (paired_mono h b)
theorem paired_get {α β : Type} {F : α → β → Prop} : ∀ {xs : List α} {ys : List β}, Paired F xs ys → ∀ {i : Nat} {x : α}, xs[i]? = some x → ∃ y, ys[i]? = some y ∧ F x y
  | _, _, .nil, i, x, h => by simp at h
  | _, _, .cons a b, 0, x, h => by
    cases Option.some.inj h
    exact ⟨_, rfl, a⟩
  | _, _, .cons a b, i + 1, x, h => by
    obtain ⟨y, h1, h2⟩ := paired_get b (i := i) (x := x) (by simpa using h)
    exact ⟨y, by simpa using h1, h2⟩
theorem DueAt.same {K : PySem.W.Frag} {H H' : Hp} (e : Same H H') {p : Addr} {du : Str × PyData} (h : DueAt K H p du) : DueAt K H' p du := by
  obtain ⟨u, h1, h2⟩ := h
  exact ⟨u, Same.seqT e h1, dp_same e _ _ h2⟩
theorem FrT.same {H H' : Hp} (e : Same H H') {a : Addr} {xs : List V} (h : FrT H a xs) : FrT H' a xs := by
  obtain ⟨o, h1, h2⟩ := h
  exact ⟨o, h1, e _ _ h2⟩
theorem DuesAt.same {K : PySem.W.Frag} {H H' : Hp} (e : Same H H') {t : Addr} {dues : List (Str × PyData)} (h : DuesAt K H t dues) : DuesAt K H' t dues := by
  obtain ⟨ps, h1, h2⟩ := h
  exact ⟨ps, FrT.same e h1, paired_mono (fun _ _ z => DueAt.same e z) h2⟩
theorem RowAt.same {K : PySem.W.Frag} {H H' : Hp} (e : Same H H') {v : V} {r : RowM} (h : RowAt K H v r) : RowAt K H' v r := by
  obtain ⟨a, t, rfl, h1, h2⟩ := h
  exact ⟨a, t, rfl, Same.seqT e h1, DuesAt.same e h2⟩
def spIsName : Sp := fun vs H Q _ => ∃ x : Str, vs = [.str x] ∧ NameOk x ∧ ∀ H', Same H H' → Q (.bl true) H'
def spIsDue (K : PySem.W.Frag) : Sp := fun vs H Q _ => ∃ (p : Addr) (du : Str × PyData), vs = [.ref p] ∧ DueAt K H p du ∧ du.1 ∈ leftW ∧ ValOk du.1 du.2 ∧ ∀ H', Same H H' → Q (.bl true) H'
def spIsDues (K : PySem.W.Frag) : Sp := fun vs H Q _ => ∃ (t : Addr) (dues : List (Str × PyData)), vs = [.ref t] ∧ DuesAt K H t dues ∧ DuesOk dues ∧ ∀ H', Same H H' → Q (.bl true) H'
def spIsGroupRow (K : PySem.W.Frag) : Sp := fun vs H Q _ => ∃ (v : V) (r : RowM), vs = [v] ∧ RowAt K H v r ∧ NameOk r.name ∧ DuesOk r.dues ∧ ∀ H', Same H H' → Q (.bl true) H'
section
variable {P : Program} {w : World} {K : PySem.W.Frag} {mg : Str → Option Value} {base : Heap} {aL : Addr} {left : List (Key × V)}
theorem ok_isDue {f g e : Addr} {fd gd ed : FuncData} (F : Fun K "is_due" "is_due" sIsDue f fd) (T : TP P w K mg aL left) (cW : Cal P w K mg base "is_word" ["thing"] 1 spIsWord g gd) (cM : Cal P w K mg base "may_have" ["word", "value"] 3 (spMayHave K) e ed) :
    FnOk P w K mg base CX0 4 f fd ["thing"] (spIsDue K) := by
  refine F.ok scIsDue (fun vs H Q E h => ?_) (fun cdv A outer s H vs Q E hr h => ?_)
  · obtain ⟨p, du, rfl, _⟩ := h
    rfl
  obtain ⟨p, du, rfl, ⟨u, ha, hu⟩, hw, hv, q⟩ := h
  refine ⟨_, (pss_cons (ps_if (PW.pt (pw_or (pt_not (pt_val (pe_callB call_isi (by rfl) T.z_isinstance (by decide +kernel) (pa_cons (pv 0) (pa_cons (pe_bltn (v := .ty "tuple") (u := .type "tuple") (by rfl) T.z_tuple (by decide +kernel) rfl) pa_nil))))) (pw_or1 (pt_cmpR op_ne (pe_callB call_len_seq (by rfl) T.z_len PySem.boot_len (pa_cons (pv 0) pa_nil)) pe_int (nomark _))))) (pss_one (ps_ret pe_bl)) pss_nil) (pss_cons (ps_asg (pv 0) (pg_tup (by rfl) (pgs_cons (pg_name (i := 1) scIsDue.nd rfl (Or.inl rfl)) (pgs_cons (pg_name (i := 2) scIsDue.nd rfl (Or.inl rfl)) pgs_nil)))) (pss_one (ps_ret (pe_and (pe_call cW.ok (hr.mono (by decide)) rfl cW.mg cW.kp cW.bd .nil pass0 (pa_cons (pv 1) pa_nil)) (pe_one (pe_call cM.ok (hr.mono (by decide)) rfl cM.mg cM.kp cM.bd .nil pass0 (pa_cons (pv 1) (pa_cons (pv 2) pa_nil))))))))), ?_⟩
  refine ⟨_, rfl, _, _, _, _, true, rfl, .ty _, sqt_ty ha, kit_ty (by decide +kernel), true, rfl, ?_⟩
  refine iteF ?_
  refine ⟨_, rfl, p, _, rfl, .inr ha, rfl, _, rfl, ?_⟩
  refine iteNS rfl ?_
  refine ⟨_, rfl, p, _, rfl, ha, rfl, ?_⟩
  refine ⟨_, _, rfl, _, _, rfl, rfl, ?_⟩
  refine ⟨_, rfl, du.1, rfl, hw, true, rfl, iteT ?_⟩
  exact ⟨_, rfl, _, rfl, du.1, u, du.2, rfl, hu, hv, q⟩

theorem letter_ok : ∀ c < 123, 97 ≤ c → (!decide ((⟨#[c]⟩ : Str).cps.toList < ("a" : Str).cps.toList)) = true ∧ (!decide (("z" : Str).cps.toList < (⟨#[c]⟩ : Str).cps.toList)) = true := by decide +kernel
theorem ok_isName {f : Addr} {fd : FuncData} (F : Fun K "is_name" "is_name" sIsName f fd) (T : TP P w K mg aL left) : FnOk P w K mg base CX0 1 f fd ["thing"] spIsName := by
  refine F.ok scIsName (fun vs H Q E h => ?_) (fun cdv A outer s H vs Q E hr h => ?_)
  · obtain ⟨x, rfl, _⟩ := h
    rfl
  obtain ⟨x, rfl, ⟨h1, h2, h3⟩, q⟩ := h
  have hx : x.length ≤ sizeLine := small (by omega)
  refine ⟨_, (pss_cons (ps_if (PW.pt (pw_or (pt_not (pt_val (pe_callB call_isi (by rfl) T.z_isinstance (by decide +kernel) (pa_cons (pv 0) (pa_cons (pe_bltn (v := .ty "str") (u := .type "str") (by rfl) T.z_str (by decide +kernel) rfl) pa_nil))))) (pw_or1 (pt_not (pt_chain op_le op_le pe_int (pe_callB call_len_str (by rfl) T.z_len PySem.boot_len (pa_cons (pv 0) pa_nil)) pe_int))))) (pss_one (ps_ret pe_bl)) pss_nil) (pss_one (ps_ret (pe_callB (cr_all rfl) (by rfl) T.z_all (by decide +kernel) (pa_cons (pe_lc (own := [("letter", 1)]) (g := gName 1) (tt := tYes) rfl scIsName.nd (pi_str (pv 0)) (blkOk_by (own := [("letter", 1)]) (N := ["thing", "letter"]) (sc := defScope sIsName) (by decide +kernel)) (fun _ _ _ _ _ => (pg_name (i := 1) scIsName.nd rfl (Or.inl rfl))) (fun _ _ _ _ _ => pts_nil) (fun _ _ _ _ _ => (pe_chain op_le_str op_le_str pe_str (pv 1) pe_str))) pa_nil))))), ?_⟩
  refine ⟨_, rfl, _, _, _, _, true, rfl, .ty _, .base (.str _), kit_ty (by decide +kernel), true, rfl, ?_⟩
  refine iteF ?_
  refine ⟨_, rfl, x, rfl, hx, _, _, rfl, rfl, true, bl_t (by omega), ?_⟩
  refine iteT ?_
  refine ⟨_, _, rfl, rfl, true, bl_t (by omega), ?_⟩
  refine iteF ?_
  refine ⟨_, rfl, x, rfl, fun D hD => lc_it walk_str (fun i H' => H' = upd H D (.lst ((List.replicate i true).map V.bl))) rfl (fun _ _ _ _ => trivial) ?_ ?_⟩
  · rintro i v H1 H2 hi rfl ⟨rfl, c, hc, rfl⟩
    have hm : c ∈ x.cps.toList := by
      rw [← Array.getElem?_toList] at hc
      exact List.mem_of_getElem? hc
    obtain ⟨l1, l2⟩ := h3 c hm
    obtain ⟨e1, e2⟩ := letter_ok c (by omega) l1
    refine ⟨rfl, ?_⟩
    unfold tYes
    refine iteT ?_
    refine ⟨_, rfl, _, _, rfl, rfl, true, congrArg V.bl e1, ?_⟩
    refine iteT ?_
    refine ⟨_, _, rfl, rfl, ?_⟩
    rw [e2]
    refine ⟨_, upd_same, ?_, ?_⟩
    · rw [List.length_map, List.length_replicate]
      have : x.cps.size = x.length := rfl
      exact small1000 (by omega)
    · rw [upd_upd, List.replicate_succ', List.map_append]
      rfl
  · rintro H1 rfl
    refine ⟨D, List.replicate x.cps.size true, rfl, SqL.of upd_same, ?_⟩
    have e : (List.replicate x.cps.size true).all id = true := by simp
    rw [e]
    exact q _ (Same.new (Same.refl H) hD _)

theorem map_ref_get {ps : List Addr} {i : Nat} {x : V} (h : (ps.map V.ref)[i]? = some x) : ∃ p, x = .ref p ∧ ps[i]? = some p := by
  rw [List.getElem?_map] at h
  cases e : ps[i]? with
  | none =>
    rw [e] at h
    cases h
  | some z =>
    rw [e] at h
    exact ⟨z, (Option.some.inj h).symm, rfl⟩
theorem fresh_at {α β : Type} {f : α → β} : ∀ {xs : List α} {i : Nat} {x : α}, (xs.map f).Nodup → xs[i]? = some x → ∀ y ∈ xs.take i, f y ≠ f x
  | [], i, x, _, h => by simp at h
  | a :: r, 0, x, _, h => by
    intro y hy
    simp at hy
  | a :: r, i + 1, x, hn, h => by
    intro y hy
    have hn : (f a :: r.map f).Nodup := hn
    obtain ⟨h1, h2⟩ := List.nodup_cons.mp hn
    have h' : r[i]? = some x := by simpa using h
    rw [List.take_succ_cons] at hy
    rcases List.mem_cons.mp hy with rfl | hy
    · intro e
      exact h1 (by rw [e]; exact List.mem_map.mpr ⟨x, List.mem_of_getElem? h', rfl⟩)
    · exact fresh_at h2 h' y hy
theorem nodup_few {α : Type} [DecidableEq α] : ∀ {xs ys : List α}, xs.Nodup → (∀ x ∈ xs, x ∈ ys) → xs.length ≤ ys.length
  | [], ys, _, _ => Nat.zero_le _
  | x :: xs, ys, hn, h => by
    obtain ⟨h1, h2⟩ := List.nodup_cons.mp hn
    have hx := h x List.mem_cons_self
    have := nodup_few (xs := xs) (ys := ys.erase x) h2 (fun z hz => by
      have hzx : z ≠ x := fun e => h1 (e ▸ hz)
      exact (List.mem_erase_of_ne hzx).mpr (h z (List.mem_cons_of_mem _ hz)))
    rw [List.length_erase_of_mem hx] at this
    have hp : 0 < ys.length := List.length_pos_of_mem hx
    rw [List.length_cons]
    omega
theorem words_few {dues : List (Str × PyData)} (hn : (dues.map (·.1)).Nodup) (h : ∀ du ∈ dues, du.1 ∈ leftW) : dues.length ≤ 8 := by
  have := nodup_few (ys := leftW) hn (fun x hx => by
    obtain ⟨du, hdu, rfl⟩ := List.mem_map.mp hx
    exact h du hdu)
  rw [List.length_map] at this
  exact this
theorem ok_isDues {f g : Addr} {fd gd : FuncData} (F : Fun K "is_dues" "is_dues" sIsDues f fd) (T : TP P w K mg aL left) (cD : Cal P w K mg base "is_due" ["thing"] 4 (spIsDue K) g gd) :
    FnOk P w K mg base CX0 5 f fd ["thing"] (spIsDues K) := by
  refine F.ok scIsDues (fun vs H Q E h => ?_) (fun cdv A outer s H vs Q E hr h => ?_)
  · obtain ⟨p, du, rfl, _⟩ := h
    rfl
  obtain ⟨t, dues, rfl, hd, ⟨hn, hok⟩, q⟩ := h
  have hu := hu_of hr
  obtain ⟨ps, hF, hp⟩ := id hd
  refine ⟨_, (pss_cons (ps_if (pt_not (pt_val (pe_callB call_isi (by rfl) T.z_isinstance (by decide +kernel) (pa_cons (pv 0) (pa_cons (pe_bltn (v := .ty "tuple") (u := .type "tuple") (by rfl) T.z_tuple (by decide +kernel) rfl) pa_nil))))) (pss_one (ps_ret pe_bl)) pss_nil) (pss_cons (ps_set (i := 1) scIsDues.nd rfl (Or.inl rfl) pe_dnewK) (pss_cons (ps_for PassesOwn.never rfl (pi_tup (pv 0)) (pg_name (i := 2) scIsDues.nd rfl (Or.inl rfl)) (pss_cons (ps_if (PW.pt (pw_or (pt_not (pt_val (pe_call cD.ok (hr.mono (by decide)) rfl cD.mg cD.kp cD.bd .nil pass0 (pa_cons (pv 2) pa_nil)))) (pw_or1 (pt_cmp (pc_din hu (pe_ix ix_tup (pv 2) pe_int (fun _ _ => rfl)) (pv 1)))))) (pss_one (ps_ret pe_bl)) pss_nil) (pss_one (ps_dput hu (pv 1) (pe_ix ix_tup (pv 2) pe_int (fun _ _ => rfl)) pe_bl rfl)))) (pss_one (ps_ret pe_bl))))), ?_⟩
  refine ⟨_, rfl, _, _, _, _, true, rfl, .ty _, sqt_ty hF.seq, kit_ty (by decide +kernel), true, rfl, ?_⟩
  refine iteF ?_
  intro d hd0
  refine ⟨_, rfl, t, rfl, ⟨_, Same.seqT (Same.new (Same.refl H) hd0 _) hF.seq⟩, for_tup (xs := ps.map V.ref) (fun i σ H' => Same H H' ∧ ∃ (kvs : List (Key × V)) (o : Option V), σ = [some (.ref t), some (.ref d), o] ∧ H' d = some (.dK kvs) ∧ kvs.map (·.1) = (dues.take i).map (fun du => Sum.inr du.1)) ⟨Same.new (Same.refl H) hd0 _, [], none, rfl, upd_same, rfl⟩ ?_ ?_ ?_⟩
  · rintro i σ H' _ ⟨s1, _⟩
    exact Same.seqT s1 hF.seq
  · rintro i x σ H' hi ⟨s1, kvs, o, rfl, hk, he⟩
    obtain ⟨p, rfl, hpi⟩ := map_ref_get hi
    obtain ⟨du, hdu, hat⟩ := paired_get hp hpi
    have hmem := List.mem_of_getElem? hdu
    obtain ⟨hw, hv⟩ := hok du hmem
    obtain ⟨u, hpu, hu2⟩ := id hat
    refine ⟨_, rfl, p, du, rfl, DueAt.same s1 hat, hw, hv, fun H2 s2 => ?_⟩
    refine ⟨true, rfl, ?_⟩
    refine iteF ?_
    have hk2 := s2 _ _ hk
    have hpu2 := Same.seqT s2 (Same.seqT s1 hpu)
    have hnone : valV kvs (Sum.inr du.1 : Key) = none := by
      cases hv0 : valV kvs (Sum.inr du.1 : Key) with
      | none => rfl
      | some v =>
        have hin := valV_in hv0
        rw [he] at hin
        obtain ⟨du2, hd2, ed2⟩ := List.mem_map.mp hin
        exact absurd (Sum.inr.inj ed2) (fresh_at hn hdu du2 hd2)
    refine ⟨_, rfl, p, _, _, _, rfl, rfl, hpu2, rfl, _, rfl, d, _, rfl, DGet.k (k := Sum.inr du.1) hk2, ?_⟩
    rw [hnone]
    refine ⟨false, rfl, iteF ?_⟩
    refine ⟨_, rfl, _, rfl, p, _, _, _, rfl, rfl, hpu2, rfl, d, _, rfl, DPut.k (k := Sum.inr du.1) hk2 ?_, ?_⟩
    · have e : kvs.length = (dues.take i).length := by
        have := congrArg List.length he
        simpa using this
      rw [List.length_take] at e
      have : dues.length ≤ 8 := words_few hn fun du hdu => (hok du hdu).1
      exact small1000 (by omega)
    · refine ⟨fun b o hb => ?_, _, _, rfl, upd_same, ?_⟩
      · have n : b ≠ d := ne_of_none hb hd0
        rw [upd_ne n]
        exact s2 _ _ (s1 _ _ hb)
      · rw [putK_new _ hnone, List.map_append, he, List.take_add_one, hdu, Option.toList_some, List.map_append]
        rfl
  · rintro σ H' ⟨s1, _⟩
    exact q _ s1

end
end Bd
end

section
namespace Bd
open PySem L2
abbrev sInit : Stmt := (inClass (top 30) 0)
theorem scInit : FnScope ["self", "rows", "handing", "at", "row", "name", "above", "dues"] ["self", "rows", "handing"] (defScope sInit) := ⟨rfl, rfl, rfl, by decide +kernel, rfl, by decide +kernel, by decide +kernel⟩
abbrev sNames : Stmt := (inClass (top 30) 2)
theorem scNames : FnScope ["self"] ["self"] (defScope sNames) := ⟨rfl, rfl, rfl, by decide +kernel, rfl, by decide +kernel, by decide +kernel⟩

/-- tuples stay -/
def TK (H H' : Hp) : Prop := (∀ b xs, H b = some (.tup xs) → H' b = some (.tup xs)) ∧ ∀ b o u, H b = some (.frz o u) → H' b = some (.frz o u)
theorem TK.refl (H : Hp) : TK H H := ⟨fun _ _ h => h, fun _ _ _ h => h⟩
theorem TK.trans {H H1 H2 : Hp} (a : TK H H1) (b : TK H1 H2) : TK H H2 := ⟨fun c xs h => b.1 c xs (a.1 c xs h), fun c o u h => b.2 c o u (a.2 c o u h)⟩
theorem TK.of {H H1 : Hp} (a : Same H H1) : TK H H1 := ⟨fun c xs h => a _ _ h, fun c o u h => a _ _ h⟩
theorem TK.kept {H H1 : Hp} {p : Addr} {xs : List V} (h : H p = some (.lst xs)) (a : Kept p H H1) : TK H H1 :=
  ⟨fun c ys e => a c _ (ne_of e h (by intro z; cases z)) e, fun c o u e => a c _ (ne_of e h (by intro z; cases z)) e⟩
theorem TK.lst {H : Hp} {p : Addr} {xs : List V} (h : H p = some (.lst xs)) (o : HO) : TK H (upd H p o) :=
  ⟨fun c ys e => by rw [upd_ne (ne_of e h (by intro z; cases z))]; exact e, fun c v u e => by rw [upd_ne (ne_of e h (by intro z; cases z))]; exact e⟩
theorem TK.dk {H : Hp} {p : Addr} {xs : List (Key × V)} (h : H p = some (.dK xs)) (o : HO) : TK H (upd H p o) :=
  ⟨fun c ys e => by rw [upd_ne (ne_of e h (by intro z; cases z))]; exact e, fun c v u e => by rw [upd_ne (ne_of e h (by intro z; cases z))]; exact e⟩
theorem TK.ins {H : Hp} {p C dx : Addr} {xs : List (Str × V)} (h : H p = some (.ins C dx xs)) (o : HO) : TK H (upd H p o) :=
  ⟨fun c ys e => by rw [upd_ne (ne_of e h (by intro z; cases z))]; exact e, fun c v u e => by rw [upd_ne (ne_of e h (by intro z; cases z))]; exact e⟩
theorem TK.new {H : Hp} {p : Addr} (h : H p = none) (o : HO) : TK H (upd H p o) := TK.of (Same.new (Same.refl H) h o)
section
variable {K : PySem.W.Frag}
theorem TK.seqT {H H' : Hp} (e : TK H H') {a : Addr} {xs : List V} (h : SqT K H a xs) : SqT K H' a xs := by
  rcases h with (h | ⟨o, h⟩) | h
  · exact .inl (.inl (e.1 _ _ h))
  · exact .inl (.inr ⟨o, e.2 _ _ _ h⟩)
  · exact .inr h
theorem TK.frT {H H' : Hp} (e : TK H H') {a : Addr} {xs : List V} (h : FrT H a xs) : FrT H' a xs := by
  obtain ⟨o, h1, h2⟩ := h
  exact ⟨o, h1, e.2 _ _ _ h2⟩
theorem dp_ofints {H : Hp} : ∀ xs : List Int, DpAll K H (xs.map V.int) (xs.map .int)
  | [] => .nil
  | x :: xs => .cons (.int x) (dp_ofints xs)
theorem TK.val {H H' : Hp} (e : TK H H') {x : Str} {v : V} {d : PyData} (hv : ValOk x d) (h : Dp K H v d) : Dp K H' v d := by
  cases hv with
  | amt =>
    obtain ⟨a, rfl, ha⟩ := dp_two h
    exact .tup (e.seqT ha) (.cons (.int _) (.cons (.int _) .nil))
  | endl =>
    cases h
    exact .str _
  | none =>
    cases h
    exact .non
  | set =>
    obtain ⟨a, ys, rfl, ha, hys⟩ := dp_tup h
    cases dp_ints hys
    exact .tup (e.seqT ha) (dp_ofints _)
  | alone =>
    cases h
    exact .int _
theorem paired_monoM {α β : Type} {F G : α → β → Prop} : ∀ {xs : List α} {ys : List β}, (∀ a b, b ∈ ys → F a b → G a b) → Paired F xs ys → Paired G xs ys
  | _, _, _, .nil => .nil
  | _, _, h, .cons a b => .cons (h _ _ List.mem_cons_self a) (paired_monoM (fun x y hy z => h x y (List.mem_cons_of_mem _ hy) z) b)
theorem TK.dues {H H' : Hp} (e : TK H H') {t : Addr} {dues : List (Str × PyData)} (ok : DuesOk dues) (h : DuesAt K H t dues) : DuesAt K H' t dues := by
  obtain ⟨ps, h1, h2⟩ := h
  refine ⟨ps, e.frT h1, paired_monoM (fun p du hm z => ?_) h2⟩
  obtain ⟨u, h3, h4⟩ := z
  exact ⟨u, e.seqT h3, e.val (ok.2 du hm).2 h4⟩
theorem TK.row {H H' : Hp} (e : TK H H') {v : V} {r : RowM} (ok : DuesOk r.dues) (h : RowAt K H v r) : RowAt K H' v r := by
  obtain ⟨a, t, rfl, h1, h2⟩ := h
  exact ⟨a, t, rfl, e.seqT h1, e.dues ok h2⟩
end
def leftD : List (Str × PyData) := [("min", .tuple [.int 0, .int 1]), ("low", .tuple [.int 0, .int 1]), ("max", .str "endless"), ("quota", .str "endless"), ("burst", .tuple [.int 0, .int 1]), ("tops", .str "endless"), ("sets", .none), ("alone", .int 0)]
def dueOf (dues : List (Str × PyData)) (x : Str) : Option PyData := (dues.find? fun du => decide (du.1 = x)).map (·.2)
def fullD (dues : List (Str × PyData)) : List (Str × PyData) := leftD.map fun wd => (wd.1, (dueOf dues wd.1).getD wd.2)
def FullAt (K : PySem.W.Frag) (H : Hp) (d : Addr) (dues : List (Str × PyData)) : Prop := ∃ kvs : List (Key × V), H d = some (.dK kvs) ∧ Paired (fun kv (wd : Str × PyData) => kv.1 = (Sum.inr wd.1 : Key) ∧ Dp K H kv.2 wd.2) kvs (fullD dues)
theorem leftD_ok : ∀ wd ∈ leftD, wd.1 ∈ leftW ∧ ValOk wd.1 wd.2 := by
  intro wd h
  have z1 : ValOk "min" (.tuple [.int ((0 : Nat) : Int), .int ((1 : Nat) : Int)]) := .amt (by decide +kernel) (Nat.pow_pos (by decide)) (by decide) (Nat.one_lt_two_pow (by decide)) (by decide)
  have z2 : ValOk "low" (.tuple [.int ((0 : Nat) : Int), .int ((1 : Nat) : Int)]) := .amt (by decide +kernel) (Nat.pow_pos (by decide)) (by decide) (Nat.one_lt_two_pow (by decide)) (by decide)
  have z3 : ValOk "burst" (.tuple [.int ((0 : Nat) : Int), .int ((1 : Nat) : Int)]) := .amt (by decide +kernel) (Nat.pow_pos (by decide)) (by decide) (Nat.one_lt_two_pow (by decide)) (by decide)
  simp only [leftD, List.mem_cons, List.not_mem_nil, or_false] at h
  rcases h with rfl | rfl | rfl | rfl | rfl | rfl | rfl | rfl
  · exact ⟨by decide +kernel, z1⟩
  · exact ⟨by decide +kernel, z2⟩
  · exact ⟨by decide +kernel, .endl (by decide +kernel)⟩
  · exact ⟨by decide +kernel, .endl (by decide +kernel)⟩
  · exact ⟨by decide +kernel, z3⟩
  · exact ⟨by decide +kernel, .endl (by decide +kernel)⟩
  · exact ⟨by decide +kernel, .none⟩
  · exact ⟨by decide +kernel, .alone (.inl rfl)⟩
theorem dueOf_mem {dues : List (Str × PyData)} {x : Str} {d : PyData} (h : dueOf dues x = some d) : (x, d) ∈ dues := by
  unfold dueOf at h
  cases e : dues.find? fun du => decide (du.1 = x) with
  | none =>
    rw [e] at h
    cases h
  | some du =>
    rw [e] at h
    have h1 := List.mem_of_find?_eq_some e
    have h2 : du.1 = x := by
      have z := List.find?_some e
      simpa using z
    cases h
    rw [← h2]
    exact h1
theorem fullD_ok {dues : List (Str × PyData)} (ok : DuesOk dues) : ∀ wd ∈ fullD dues, ValOk wd.1 wd.2 := by
  intro wd h
  obtain ⟨ld, hl, rfl⟩ := List.mem_map.mp h
  show ValOk ld.1 ((dueOf dues ld.1).getD ld.2)
  cases e : dueOf dues ld.1 with
  | none => exact (leftD_ok ld hl).2
  | some d => exact (ok.2 _ (dueOf_mem e)).2
theorem TK.full {K : PySem.W.Frag} {H H' : Hp} (e : TK H H') {d : Addr} {dues : List (Str × PyData)} (ok : DuesOk dues) (hd : H' d = H d) (h : FullAt K H d dues) : FullAt K H' d dues := by
  obtain ⟨kvs, h1, h2⟩ := h
  exact ⟨kvs, hd.trans h1, paired_monoM (fun kv wd hm z => ⟨z.1, e.val (fullD_ok ok wd hm) z.2⟩) h2⟩
/-! ### what merging makes -/
theorem mergeK_app : ∀ (more acc : List (Key × V)), ((acc ++ more).map (·.1)).Nodup → mergeK acc more = acc ++ more
  | [], acc, _ => by simp [mergeK]
  | p :: r, acc, h => by
    have hn : valV acc p.1 = none := by
      cases e : valV acc p.1 with
      | none => rfl
      | some v =>
        have h1 := valV_in e
        rw [List.map_append, List.nodup_append] at h
        exact absurd rfl (h.2.2 p.1 h1 p.1 (by simp))
    have h2 : mergeK acc (p :: r) = mergeK (putK acc p.1 p.2) r := rfl
    rw [h2, putK_new _ hn, mergeK_app r (acc ++ [(p.1, p.2)]) (by simpa using h)]
    simp
theorem mergeK_over : ∀ (more kvs : List (Key × V)), (more.map (·.1)).Nodup → (∀ p ∈ more, p.1 ∈ kvs.map (·.1)) → mergeK kvs more = kvs.map fun kv => (kv.1, (valV more kv.1).getD kv.2)
  | [], kvs, _, _ => by simp [mergeK, valV]
  | p :: r, kvs, hn, hm => by
    have hn : (p.1 :: r.map (·.1)).Nodup := hn
    obtain ⟨h1, h2⟩ := List.nodup_cons.mp hn
    have hp : (kvs.any fun kv => decide (kv.1 = p.1)) = true := by
      obtain ⟨q, hq, e⟩ := List.mem_map.mp (hm p List.mem_cons_self)
      exact List.any_eq_true.mpr ⟨q, hq, decide_eq_true e⟩
    have hput : putK kvs p.1 p.2 = kvs.map (fun kv => if kv.1 = p.1 then (kv.1, p.2) else kv) := by
      unfold putK
      rw [if_pos hp]
    have hkeys : (putK kvs p.1 p.2).map (·.1) = kvs.map (·.1) := by
      rw [hput, List.map_map]
      refine List.map_congr_left fun kv _ => ?_
      show (if kv.1 = p.1 then (kv.1, p.2) else kv).1 = kv.1
      split <;> rfl
    have e : mergeK kvs (p :: r) = mergeK (putK kvs p.1 p.2) r := rfl
    rw [e, mergeK_over r (putK kvs p.1 p.2) h2 (fun q hq => by rw [hkeys]; exact hm q (List.mem_cons_of_mem _ hq)), hput, List.map_map]
    refine List.map_congr_left fun kv _ => ?_
    show ((if kv.1 = p.1 then (kv.1, p.2) else kv).1, (valV r (if kv.1 = p.1 then (kv.1, p.2) else kv).1).getD (if kv.1 = p.1 then (kv.1, p.2) else kv).2) = (kv.1, (valV (p :: r) kv.1).getD kv.2)
    by_cases c : kv.1 = p.1
    · rw [if_pos c]
      have hv : valV r kv.1 = none := by
        cases z : valV r kv.1 with
        | none => rfl
        | some v =>
          have z2 := valV_in z
          rw [c] at z2
          exact absurd z2 h1
      show (kv.1, (valV r kv.1).getD p.2) = (kv.1, (valV (p :: r) kv.1).getD kv.2)
      rw [hv, valV_pos c.symm]
      rfl
    · rw [if_neg c, valV_neg (fun z => c z.symm)]
def PV (K : PySem.W.Frag) (H : Hp) (kv : Key × V) (wd : Str × PyData) : Prop := kv.1 = (Sum.inr wd.1 : Key) ∧ Dp K H kv.2 wd.2
theorem val_due {K : PySem.W.Frag} {H : Hp} (x : Str) : ∀ {dk : List (Key × V)} {dues : List (Str × PyData)}, Paired (PV K H) dk dues →
    (valV dk (Sum.inr x : Key) = none ∧ dueOf dues x = none) ∨ ∃ v d, valV dk (Sum.inr x : Key) = some v ∧ dueOf dues x = some d ∧ Dp K H v d
  | _, _, .nil => .inl ⟨rfl, rfl⟩
  | _, _, .cons (a := kv) (b := du) h t => by
    by_cases e : du.1 = x
    · refine .inr ⟨kv.2, du.2, valV_pos (by rw [h.1, e]), ?_, h.2⟩
      unfold dueOf
      rw [List.find?_cons_of_pos (by simpa using e)]
      rfl
    · have e1 : ¬ kv.1 = (Sum.inr x : Key) := fun z => e (Sum.inr.inj (h.1.symm.trans z))
      have e2 : ∀ ds, dueOf (du :: ds) x = dueOf ds x := fun ds => by
        unfold dueOf
        rw [List.find?_cons_of_neg (by simpa using e)]
      rw [valV_neg e1, e2]
      exact val_due x t
theorem paired_map {α β γ δ : Type} {F : α → β → Prop} {G : γ → δ → Prop} {f : α → γ} {g : β → δ} (h : ∀ a b, F a b → G (f a) (g b)) : ∀ {xs : List α} {ys : List β}, Paired F xs ys → Paired G (xs.map f) (ys.map g)
  | _, _, .nil => .nil
  | _, _, .cons a b => .cons (h _ _ a) (paired_map h b)
theorem pv_keys {K : PySem.W.Frag} {H : Hp} : ∀ {dk : List (Key × V)} {dues : List (Str × PyData)}, Paired (PV K H) dk dues → dk.map (·.1) = dues.map fun du => (Sum.inr du.1 : Key)
  | _, _, .nil => rfl
  | _, _, .cons a b => by
    rw [List.map_cons, List.map_cons, a.1, pv_keys b]
theorem nodup_inr {xs : List Str} (h : xs.Nodup) : (xs.map fun x => (Sum.inr x : Key)).Nodup := by
  induction xs with
  | nil => exact List.nodup_nil
  | cons x r ih =>
    obtain ⟨h1, h2⟩ := List.nodup_cons.mp h
    rw [List.map_cons]
    refine List.nodup_cons.mpr ⟨fun m => ?_, ih h2⟩
    obtain ⟨y, hy, e⟩ := List.mem_map.mp m
    exact h1 (Sum.inr.inj e ▸ hy)
theorem leftD_words : leftD.map (·.1) = leftW := by decide +kernel
theorem leftW_nd : leftW.Nodup := by decide +kernel
theorem full_of {K : PySem.W.Frag} {H : Hp} {left dk : List (Key × V)} {dues : List (Str × PyData)} (hl : Paired (PV K H) left leftD) (hd : Paired (PV K H) dk dues) (ok : DuesOk dues) :
    Paired (PV K H) (mergeK (mergeK [] left) (mergeK [] dk)) (fullD dues) := by
  have kl : left.map (·.1) = leftW.map fun x => (Sum.inr x : Key) := by
    rw [pv_keys hl, ← leftD_words, List.map_map]
    rfl
  have kd : dk.map (·.1) = (dues.map (·.1)).map fun x => (Sum.inr x : Key) := by
    rw [pv_keys hd, List.map_map]
    rfl
  have nl : (left.map (·.1)).Nodup := by
    rw [kl]
    exact nodup_inr leftW_nd
  have nd : (dk.map (·.1)).Nodup := by
    rw [kd]
    exact nodup_inr ok.1
  rw [mergeK_app left [] (by simpa using nl), mergeK_app dk [] (by simpa using nd), List.nil_append, List.nil_append, mergeK_over dk left nd ?_]
  · unfold fullD
    refine paired_map (fun kv wd h => ?_) hl
    refine ⟨h.1, ?_⟩
    show Dp K H ((valV dk kv.1).getD kv.2) ((dueOf dues wd.1).getD wd.2)
    rw [h.1]
    rcases val_due wd.1 hd with ⟨e1, e2⟩ | ⟨v, d, e1, e2, e3⟩
    · rw [e1, e2]
      exact h.2
    · rw [e1, e2]
      exact e3
  · intro p hp
    have hm : p.1 ∈ dk.map (·.1) := List.mem_map.mpr ⟨p, hp, rfl⟩
    rw [kd] at hm
    obtain ⟨x, hx, e⟩ := List.mem_map.mp hm
    obtain ⟨du, hdu, rfl⟩ := List.mem_map.mp hx
    rw [kl, ← e]
    exact List.mem_map.mpr ⟨du.1, (ok.2 du hdu).1, rfl⟩
theorem dk_of_dues {K : PySem.W.Frag} {H : Hp} : ∀ {ps : List Addr} {dues : List (Str × PyData)}, Paired (DueAt K H) ps dues → ∃ dk : List (Key × V), Paired (fun p kv => SqT K H p [kV kv.1, kv.2]) ps dk ∧ Paired (PV K H) dk dues
  | _, _, .nil => ⟨[], .nil, .nil⟩
  | _, _, .cons (b := du) ⟨u, h1, h2⟩ t => by
    obtain ⟨dk, h3, h4⟩ := dk_of_dues t
    exact ⟨(Sum.inr du.1, u) :: dk, .cons h1 h3, .cons ⟨rfl, h2⟩ h4⟩
/-- the class as the top has made it -/
structure TC (K : PySem.W.Frag) (mg : Str → Option Value) (C : Addr) : Prop where
  cl : Cls K C
  n_order : NoAttr K C "order"
  n_parents : NoAttr K C "parents"
  n_kids : NoAttr K C "kids"
  n_table : NoAttr K C "table"
  n_hands : NoAttr K C "hands"
  g_Tree : mg "Tree" = some (.ref C)
def tf4 (po pp pk pt : Addr) : List (Str × V) := [("order", .ref po), ("parents", .ref pp), ("kids", .ref pk), ("table", .ref pt)]
def tf5 (po pp pk pt : Addr) (b : Bool) : List (Str × V) := [("order", .ref po), ("parents", .ref pp), ("kids", .ref pk), ("table", .ref pt), ("hands", .bl b)]
def kidsOf (rows : List RowM) (k : Key) : List Str := (rows.filter fun r => decide ((Sum.inr r.above : Key) = k)).map (·.name)
theorem kids_le (rows : List RowM) (k : Key) : (kidsOf rows k).length ≤ rows.length := by
  unfold kidsOf
  rw [List.length_map]
  exact List.length_filter_le _ _
theorem kids_snoc (rows : List RowM) (r : RowM) (k : Key) : kidsOf (rows ++ [r]) k = kidsOf rows k ++ (if (Sum.inr r.above : Key) = k then [r.name] else []) := by
  unfold kidsOf
  rw [List.filter_append, List.map_append]
  by_cases c : (Sum.inr r.above : Key) = k
  · rw [if_pos c, List.filter_cons_of_pos (by simpa using c)]
    rfl
  · rw [if_neg c, List.filter_cons_of_neg (by simpa using c)]
    rfl
theorem kids_none {rows : List RowM} {x : Str} (h : ∀ q ∈ rows, q.above ≠ x) : kidsOf rows (Sum.inr x) = [] := by
  unfold kidsOf
  rw [List.filter_eq_nil_iff.mpr fun q hq => by
    have := h q hq
    simpa using this]
  rfl
def leafB (rows : List RowM) (r : RowM) : Bool := !(rows.any fun q => decide (q.above = r.name))
def leavesOf (rows : List RowM) : List Str := (rows.filter (leafB rows)).map (·.name)
/-- the children of each group -/
def KidsAt (H : Hp) (pk : Addr) (rows : List RowM) : Prop := ∃ ks : List (Key × V), H pk = some (.dK ks) ∧ ks.map (·.1) = (Sum.inr "" : Key) :: rows.map (fun r => (Sum.inr r.name : Key)) ∧ ∀ kv ∈ ks, ∃ l, kv.2 = .ref l ∧ H l = some (.lst ((kidsOf rows kv.1).map .str))
/-- a tree that is being made, behind what stood in H0 -/
structure PartAt (K : PySem.W.Frag) (H0 H : Hp) (C p dx po pp pk pt : Addr) (rows : List RowM) (tk : List (Key × V)) : Prop where
  same : Same H0 H
  n0 : H0 p = none ∧ H0 po = none ∧ H0 pp = none ∧ H0 pk = none ∧ H0 pt = none
  ob : H p = some (.ins C dx (tf4 po pp pk pt))
  or_ : H po = some (.lst (rows.map fun r => .str r.name))
  pa : H pp = some (.dK (rows.map fun r => ((Sum.inr r.name : Key), V.str r.above)))
  kd : ∃ ks, H pk = some (.dK ks) ∧ ks.map (·.1) = (Sum.inr "" : Key) :: rows.map (fun r => (Sum.inr r.name : Key)) ∧ (∀ kv ∈ ks, ∃ l, kv.2 = .ref l ∧ H l = some (.lst ((kidsOf rows kv.1).map .str)) ∧ l ≠ po ∧ H0 l = none) ∧ ∀ kv ∈ ks, ∀ kv2 ∈ ks, (kv.1 = kv2.1 ↔ kv.2 = kv2.2)
  tb : H pt = some (.dK tk)
  td : Paired (fun (kv : Key × V) (r : RowM) => kv.1 = (Sum.inr r.name : Key) ∧ ∃ d, kv.2 = .ref d ∧ H0 d = none ∧ d ≠ pp ∧ d ≠ pk ∧ d ≠ pt ∧ FullAt K H d r.dues) tk rows
  ne : pp ≠ pk ∧ pp ≠ pt ∧ pk ≠ pt
theorem FullAt.same {K : PySem.W.Frag} {H H' : Hp} (e : Same H H') {d : Addr} {dues : List (Str × PyData)} (h : FullAt K H d dues) : FullAt K H' d dues := by
  obtain ⟨kvs, h1, h2⟩ := h
  exact ⟨kvs, e _ _ h1, paired_mono (fun kv wd z => ⟨z.1, dp_same e _ _ z.2⟩) h2⟩
theorem PartAt.grow {K : PySem.W.Frag} {H0 H H' : Hp} {C p dx po pp pk pt : Addr} {rows : List RowM} {tk : List (Key × V)} (h : PartAt K H0 H C p dx po pp pk pt rows tk) (e : Same H H') : PartAt K H0 H' C p dx po pp pk pt rows tk where
  same := h.same.trans e
  n0 := h.n0
  ob := e _ _ h.ob
  or_ := e _ _ h.or_
  pa := e _ _ h.pa
  kd := by
    obtain ⟨ks, h1, h2, h3, h4⟩ := h.kd
    exact ⟨ks, e _ _ h1, h2, fun kv hk => let ⟨l, a, b, c, d⟩ := h3 kv hk; ⟨l, a, e _ _ b, c, d⟩, h4⟩
  tb := e _ _ h.tb
  td := paired_mono (fun kv r z => let ⟨a, d, b, c, d1, d2, d3, f⟩ := z; ⟨a, d, b, c, d1, d2, d3, FullAt.same e f⟩) h.td
  ne := h.ne
/-- a row that may stand behind others -/
def StandOk (rows : List RowM) (r : RowM) : Prop := (∀ q ∈ rows, q.name ≠ r.name) ∧ (r.above = "" ∨ ∃ q ∈ rows, q.name = r.above ∧ dueOf (fullD q.dues) "tops" = some (.str "endless"))
def spMayStand (K : PySem.W.Frag) (C : Addr) : Sp := fun vs H Q _ => ∃ (H0 : Hp) (p dx po pp pk pt : Addr) (rows : List RowM) (tk : List (Key × V)) (v : V) (r : RowM), vs = [.ref p, v] ∧ PartAt K H0 H C p dx po pp pk pt rows tk ∧ RowAt K H v r ∧
  StandOk rows r ∧ (rows.map (·.name)).Nodup ∧ (∀ q ∈ rows, q.name ≠ "") ∧ ∀ H', Same H H' → Q (.bl true) H'
end Bd
end

section
namespace Bd
open PySem L2
section
variable {P : Program} {w : World} {K : PySem.W.Frag} {mg : Str → Option Value} {base : Heap} {aL C : Addr} {left : List (Key × V)}
theorem ok_isGroupRow {f g e : Addr} {fd gd ed : FuncData} (F : Fun K "is_group_row" "is_group_row" sIsGroupRow f fd) (T : TP P w K mg aL left) (cN : Cal P w K mg base "is_name" ["thing"] 1 spIsName g gd) (cD : Cal P w K mg base "is_dues" ["thing"] 5 (spIsDues K) e ed) :
    FnOk P w K mg base CX0 6 f fd ["thing"] (spIsGroupRow K) := by
  refine F.ok scIsGroupRow (fun vs H Q E h => ?_) (fun cdv A outer s H vs Q E hr h => ?_)
  · obtain ⟨p, du, rfl, _⟩ := h
    rfl
  obtain ⟨v, r, rfl, hrow, hn, hd, q⟩ := h
  obtain ⟨a, t, rfl, ha, ht⟩ := id hrow
  refine ⟨_, (pss_cons (ps_if (PW.pt (pw_or (pt_not (pt_val (pe_callB call_isi (by rfl) T.z_isinstance (by decide +kernel) (pa_cons (pv 0) (pa_cons (pe_bltn (v := .ty "tuple") (u := .type "tuple") (by rfl) T.z_tuple (by decide +kernel) rfl) pa_nil))))) (pw_or1 (pt_cmpR op_ne (pe_callB call_len_seq (by rfl) T.z_len PySem.boot_len (pa_cons (pv 0) pa_nil)) pe_int (nomark _))))) (pss_one (ps_ret pe_bl)) pss_nil) (pss_cons (ps_asg (pv 0) (pg_tup (by rfl) (pgs_cons (pg_name (i := 1) scIsGroupRow.nd rfl (Or.inl rfl)) (pgs_cons (pg_name (i := 2) scIsGroupRow.nd rfl (Or.inl rfl)) (pgs_cons (pg_name (i := 3) scIsGroupRow.nd rfl (Or.inl rfl)) pgs_nil))))) (pss_one (ps_ret (pe_and (pe_call cN.ok (hr.mono (by decide)) rfl cN.mg cN.kp cN.bd .nil pass0 (pa_cons (pv 1) pa_nil)) (pe_and (pe_callB call_isi (by rfl) T.z_isinstance (by decide +kernel) (pa_cons (pv 2) (pa_cons (pe_bltn (v := .ty "str") (u := .type "str") (by rfl) T.z_str (by decide +kernel) rfl) pa_nil))) (pe_one (pe_call cD.ok (hr.mono (by decide)) rfl cD.mg cD.kp cD.bd .nil pass0 (pa_cons (pv 3) pa_nil))))))))), ?_⟩
  refine ⟨_, rfl, _, _, _, _, true, rfl, .ty _, sqt_ty ha, kit_ty (by decide +kernel), true, rfl, ?_⟩
  refine iteF ?_
  refine ⟨_, rfl, a, _, rfl, .inr ha, rfl, _, rfl, ?_⟩
  refine iteNS rfl ?_
  refine ⟨_, rfl, a, _, rfl, ha, rfl, ?_⟩
  refine ⟨_, _, rfl, _, _, rfl, _, _, rfl, rfl, ?_⟩
  refine ⟨_, rfl, r.name, rfl, hn, fun H1 s1 => ?_⟩
  refine ⟨true, rfl, iteT ?_⟩
  refine ⟨_, rfl, _, _, _, _, true, rfl, .ty _, .base (.str _), kit_ty (by decide +kernel), true, rfl, ?_⟩
  refine iteT ?_
  exact ⟨_, rfl, t, r.dues, rfl, DuesAt.same s1 ht, hd, fun H2 s2 => q _ (s1.trans s2)⟩

theorem keys_none {kvs : List (Key × V)} {k : Key} (h : ¬ k ∈ kvs.map (·.1)) : valV kvs k = none := by
  cases e : valV kvs k with
  | none => rfl
  | some v => exact absurd (valV_in e) h
theorem td_keys {F : Key × V → RowM → Prop} (hF : ∀ kv r, F kv r → kv.1 = (Sum.inr r.name : Key)) : ∀ {tk : List (Key × V)} {rows : List RowM}, Paired F tk rows → tk.map (·.1) = rows.map fun r => (Sum.inr r.name : Key)
  | _, _, .nil => rfl
  | _, _, .cons a b => by
    rw [List.map_cons, List.map_cons, hF _ _ a, td_keys hF b]
theorem paired_of {α β : Type} {F : α → β → Prop} : ∀ {xs : List α} {ys : List β}, Paired F xs ys → ∀ y ∈ ys, ∃ x ∈ xs, F x y
  | _, _, .nil, y, h => by cases h
  | _, _, .cons a b, y, h => by
    rcases List.mem_cons.mp h with rfl | h
    · exact ⟨_, List.mem_cons_self, a⟩
    · obtain ⟨x, h1, h2⟩ := paired_of b y h
      exact ⟨x, List.mem_cons_of_mem _ h1, h2⟩
theorem val_nd : ∀ {kvs : List (Key × V)}, (kvs.map (·.1)).Nodup → ∀ p ∈ kvs, valV kvs p.1 = some p.2
  | [], _, p, h => by cases h
  | a :: r, hn, p, h => by
    have hn : (a.1 :: r.map (·.1)).Nodup := hn
    obtain ⟨h1, h2⟩ := List.nodup_cons.mp hn
    rcases List.mem_cons.mp h with rfl | h
    · exact valV_pos rfl
    · have e : ¬ a.1 = p.1 := fun z => h1 (by rw [z]; exact List.mem_map.mpr ⟨p, h, rfl⟩)
      rw [valV_neg e]
      exact val_nd h2 p h
theorem tf4_order {po pp pk pt : Addr} : (tf4 po pp pk pt).lookup ("order" : Str) = some (.ref po) := by
  simp only [tf4, List.lookup]
  rfl
theorem tf4_parents {po pp pk pt : Addr} : (tf4 po pp pk pt).lookup ("parents" : Str) = some (.ref pp) := by
  simp only [tf4, List.lookup]
  rfl
theorem tf4_kids {po pp pk pt : Addr} : (tf4 po pp pk pt).lookup ("kids" : Str) = some (.ref pk) := by
  simp only [tf4, List.lookup]
  rfl
theorem tf4_table {po pp pk pt : Addr} : (tf4 po pp pk pt).lookup ("table" : Str) = some (.ref pt) := by
  simp only [tf4, List.lookup]
  rfl
theorem tf5_order {po pp pk pt : Addr} {b : Bool} : (tf5 po pp pk pt b).lookup ("order" : Str) = some (.ref po) := by
  simp only [tf5, List.lookup]
  rfl
theorem tf5_parents {po pp pk pt : Addr} {b : Bool} : (tf5 po pp pk pt b).lookup ("parents" : Str) = some (.ref pp) := by
  simp only [tf5, List.lookup]
  rfl
theorem tf5_kids {po pp pk pt : Addr} {b : Bool} : (tf5 po pp pk pt b).lookup ("kids" : Str) = some (.ref pk) := by
  simp only [tf5, List.lookup]
  rfl
theorem tf5_table {po pp pk pt : Addr} {b : Bool} : (tf5 po pp pk pt b).lookup ("table" : Str) = some (.ref pt) := by
  simp only [tf5, List.lookup]
  rfl
theorem tf5_hands {po pp pk pt : Addr} {b : Bool} : (tf5 po pp pk pt b).lookup ("hands" : Str) = some (.bl b) := by
  simp only [tf5, List.lookup]
  rfl
theorem ok_mayStand {f g : Addr} {fd gd : FuncData} (F : Fun K "may_stand" "may_stand" sMayStand f fd) (T : TP P w K mg aL left) (TCl : TC K mg C) (cE : Cal P w K mg base "is_endless" ["thing"] 1 (spIsEndless K) g gd) :
    FnOk P w K mg base CX0 2 f fd ["tree", "row"] (spMayStand K C) := by
  refine F.ok scMayStand (fun vs H Q E h => ?_) (fun cdv A outer s H vs Q E hr h => ?_)
  · obtain ⟨H0, p, dx, po, pp, pk, pt, rows, tk, v, r, rfl, _⟩ := h
    rfl
  obtain ⟨H0, p, dx, po, pp, pk, pt, rows, tk, v, r, rfl, hp, hrow, hst, hnd, hne, q⟩ := h
  have hu := hu_of hr
  obtain ⟨a, t, rfl, ha, ht⟩ := id hrow
  refine ⟨_, (pss_cons (ps_asg (pv 1) (pg_tup (by rfl) (pgs_cons (pg_name (i := 2) scMayStand.nd rfl (Or.inl rfl)) (pgs_cons (pg_name (i := 3) scMayStand.nd rfl (Or.inl rfl)) (pgs_cons (pg_name (i := 4) scMayStand.nd rfl (Or.inl rfl)) pgs_nil))))) (pss_cons (ps_if (PW.pt (pw_or (pt_cmp (pc_din hu (pv 2) (pe_fld (pv 0) rfl))) (pw_or1 (pt_cmp (pc_dnotin hu (pv 3) (pe_fld (pv 0) rfl)))))) (pss_one (ps_ret pe_bl)) pss_nil) (pss_one (ps_ret (pe_or (pe_cmpR op_eq (pv 3) pe_str (nomark _)) (pe_one (pe_call cE.ok (hr.mono (by decide)) rfl cE.mg cE.kp cE.bd .nil pass0 (pa_cons (pe_dget hu (pe_dget hu (pe_fld (pv 0) rfl) (pv 3) (fun _ _ => rfl)) pe_str (fun _ _ => rfl)) pa_nil)))))))), ?_⟩
  refine ⟨_, rfl, a, _, rfl, ha, rfl, ?_⟩
  refine ⟨_, _, rfl, _, _, rfl, _, _, rfl, rfl, ?_⟩
  have e1 : valV (rows.map fun q => ((Sum.inr q.name : Key), V.str q.above)) (Sum.inr r.name) = none := by
    refine keys_none fun m => ?_
    rw [List.map_map] at m
    obtain ⟨q, hq, e⟩ := List.mem_map.mp m
    exact hst.1 q hq (Sum.inr.inj e)
  obtain ⟨ks, k1, k2, k3⟩ := hp.kd
  have e2 : (valV ks (Sum.inr r.above : Key)).isSome = true := by
    refine val_some ?_
    rw [k2]
    rcases hst.2 with e | ⟨q, hq, e, _⟩
    · rw [e]
      exact List.mem_cons_self
    · exact List.mem_cons_of_mem _ (List.mem_map.mpr ⟨q, hq, by rw [e]⟩)
  refine ⟨_, rfl, _, rfl, p, C, dx, _, _, rfl, hp.ob, TCl.cl, TCl.n_parents, tf4_parents, pp, _, rfl, DGet.k (k := Sum.inr r.name) hp.pa, ?_⟩
  rw [e1]
  refine ⟨false, rfl, iteF ?_⟩
  refine ⟨_, rfl, _, rfl, p, C, dx, _, _, rfl, hp.ob, TCl.cl, TCl.n_kids, tf4_kids, pk, _, rfl, DGet.k (k := Sum.inr r.above) k1, ?_⟩
  rw [e2]
  refine ⟨false, rfl, iteF ?_⟩
  refine ⟨_, rfl, rfl, ?_⟩
  by_cases c : r.above = ""
  · refine ⟨true, congrArg V.bl (decide_eq_true (congrArg V.str c)), iteT ?_⟩
    exact q _ (Same.refl H)
  · refine ⟨false, congrArg V.bl (decide_eq_false fun z => c (V.str.inj z)), iteF ?_⟩
    obtain ⟨qr, hq, hqn, hq2⟩ := hst.2.resolve_left c
    obtain ⟨kv, hkv, hk1, d, hk2, hd0, _, _, _, fk, fk1, fk2⟩ := paired_of hp.td qr hq
    have nt : (tk.map (·.1)).Nodup := by
      rw [td_keys (fun _ _ z => z.1) hp.td]
      have := nodup_inr hnd
      rw [List.map_map] at this
      exact this
    have g1 : valV tk (Sum.inr r.above : Key) = some (.ref d) := by
      have := val_nd nt kv hkv
      rw [hk1, hqn, hk2] at this
      exact this
    have g2 : valV fk (Sum.inr "tops" : Key) = some (.str "endless") := by
      rcases val_due "tops" fk2 with ⟨_, z⟩ | ⟨v, d2, z1, z2, z3⟩
      · rw [z] at hq2
        cases hq2
      · rw [hq2] at z2
        cases z2
        rw [dp_str z3] at z1
        exact z1
    refine ⟨_, rfl, p, C, dx, _, _, rfl, hp.ob, TCl.cl, TCl.n_table, tf4_table, _, rfl, pt, _, rfl, ?_, d, _, rfl, ?_, _, rfl, .inl ⟨rfl, q _ (Same.refl H)⟩⟩
    · have := DGet.k (k := Sum.inr r.above) hp.tb
      rw [g1] at this
      exact this
    · have := DGet.k (k := Sum.inr ("tops" : Str)) fk1
      rw [g2] at this
      exact this

end
end Bd
end

section
namespace Bd
open PySem L2
/-- a tree: its table at tk -/
def TreeAt (K : PySem.W.Frag) (H : Hp) (C p : Addr) (rows : List RowM) (hands : Bool) (tk : List (Key × V)) : Prop := ∃ dx po pp pk pt, H p = some (.ins C dx (tf5 po pp pk pt hands)) ∧ H po = some (.lst (rows.map fun r => .str r.name)) ∧
  H pp = some (.dK (rows.map fun r => ((Sum.inr r.name : Key), V.str r.above))) ∧ H pt = some (.dK tk) ∧ Paired (fun (kv : Key × V) (r : RowM) => kv.1 = (Sum.inr r.name : Key) ∧ ∃ d, kv.2 = .ref d ∧ FullAt K H d r.dues) tk rows ∧ KidsAt H pk rows
/-- rows that make a tree -/
def RowsOk (rows : List RowM) : Prop := ∀ i r, rows[i]? = some r → NameOk r.name ∧ DuesOk r.dues ∧ StandOk (rows.take i) r
def spInit (K : PySem.W.Frag) (C : Addr) : Sp := fun vs H Q _ => ∃ (H0 : Hp) (p dx a : Addr) (xs : List V) (rows : List RowM) (b : Bool), vs = [.ref p, .ref a, .bl b] ∧ Same H0 H ∧ H0 p = none ∧ H p = some (.ins C dx []) ∧ H0 a = some (.lst xs) ∧ Paired (RowAt K H0) xs rows ∧ RowsOk rows ∧ rows.length ≤ 200 ∧
  ∀ H' tk, Same H0 H' → TreeAt K H' C p rows b tk → (∀ kv ∈ tk, ∃ d, kv.2 = .ref d ∧ H0 d = none) → Q .non H'
theorem dget_of {H : Hp} {a : Addr} {kvs : List (Key × V)} {k : Key} {v : V} (h : H a = some (.dK kvs)) (e : valV kvs k = some v) : DGet H a (kV k) (some v) := by
  have := DGet.k (k := k) h
  rw [e] at this
  exact this
theorem none_upd {H : Hp} {a x : Addr} {o : HO} (h : upd H a o x = none) : x ≠ a ∧ H x = none := by
  have n : x ≠ a := fun e => by
    rw [e, upd_same] at h
    cases h
  rw [upd_ne n] at h
  exact ⟨n, h⟩
theorem putF_two (a b : V) : putF "parents" b (putF "order" a []) = ([("order", a), ("parents", b)] : List (Str × V)) := by
  simp only [putF]
  rw [if_neg (by decide +kernel)]
  all_goals rfl
theorem putF_three (a b c : V) : putF "kids" c ([("order", a), ("parents", b)] : List (Str × V)) = ([("order", a), ("parents", b), ("kids", c)] : List (Str × V)) := by
  simp only [putF]
  rw [if_neg (by decide +kernel), if_neg (by decide +kernel)]
theorem putF_four (a b c d : V) : putF "table" d ([("order", a), ("parents", b), ("kids", c)] : List (Str × V)) = ([("order", a), ("parents", b), ("kids", c), ("table", d)] : List (Str × V)) := by
  simp only [putF]
  rw [if_neg (by decide +kernel), if_neg (by decide +kernel), if_neg (by decide +kernel)]
theorem putF_five (a b c d e : V) : putF "hands" e ([("order", a), ("parents", b), ("kids", c), ("table", d)] : List (Str × V)) = ([("order", a), ("parents", b), ("kids", c), ("table", d), ("hands", e)] : List (Str × V)) := by
  simp only [putF]
  rw [if_neg (by decide +kernel), if_neg (by decide +kernel), if_neg (by decide +kernel), if_neg (by decide +kernel)]
theorem paired_snoc {α β : Type} {F : α → β → Prop} {x : α} {y : β} (h : F x y) : ∀ {xs : List α} {ys : List β}, Paired F xs ys → Paired F (xs ++ [x]) (ys ++ [y])
  | _, _, .nil => .cons h .nil
  | _, _, .cons a b => .cons a (paired_snoc h b)
/-- one row more -/
theorem part_step {K : PySem.W.Frag} {H0 H Hz : Hp} {C p dx po pp pk pt l l' D : Addr} {rows : List RowM} {tk : List (Key × V)} {r : RowM} (h : PartAt K H0 H C p dx po pp pk pt rows tk) (ok : ∀ q ∈ rows, DuesOk q.dues) (tkk : TK H Hz)
    (hz : ∀ b o, H b = some o → b ≠ po → b ≠ pp → b ≠ pk → b ≠ pt → b ≠ l' → Hz b = some o) (hl0 : H0 l' = none) (hlo : l' ≠ po) (hl : H l' = some (.lst ((kidsOf rows (Sum.inr r.above)).map .str))) (hn0 : r.name ≠ "") (hst : ∀ q ∈ rows, q.name ≠ r.name) (hk0 : ∀ q ∈ rows, q.above ≠ r.name) (hab : r.above ≠ r.name) (hln : H l = none)
    (zo : Hz po = some (.lst (rows.map (fun r => .str r.name) ++ [.str r.name]))) (zp : Hz pp = some (.dK (rows.map (fun r => ((Sum.inr r.name : Key), V.str r.above)) ++ [(Sum.inr r.name, .str r.above)])))
    (zk : ∃ ks, Hz pk = some (.dK (ks ++ [(Sum.inr r.name, .ref l)])) ∧ H pk = some (.dK ks) ∧ ∃ kv ∈ ks, kv.1 = (Sum.inr r.above : Key) ∧ kv.2 = .ref l') (zl : Hz l = some (.lst [])) (hll : l ≠ po ∧ H0 l = none) (zl' : Hz l' = some (.lst ((kidsOf rows (Sum.inr r.above)).map .str ++ [.str r.name])))
    (zt : Hz pt = some (.dK (tk ++ [(Sum.inr r.name, .ref D)]))) (hD : H0 D = none ∧ D ≠ pp ∧ D ≠ pk ∧ D ≠ pt ∧ FullAt K Hz D r.dues) : PartAt K H0 Hz C p dx po pp pk pt (rows ++ [r]) (tk ++ [(Sum.inr r.name, .ref D)]) where
  same := fun b o hb => hz b o (h.same _ _ hb) (ne_of_none hb h.n0.2.1) (ne_of_none hb h.n0.2.2.1) (ne_of_none hb h.n0.2.2.2.1) (ne_of_none hb h.n0.2.2.2.2) (ne_of_none hb hl0)
  n0 := h.n0
  ob := hz _ _ h.ob (ne_of h.ob h.or_ (by intro z; cases z)) (ne_of h.ob h.pa (by intro z; cases z)) (by
    obtain ⟨ks, k1, _⟩ := h.kd
    exact ne_of h.ob k1 (by intro z; cases z)) (ne_of h.ob h.tb (by intro z; cases z)) (ne_of h.ob hl (by intro z; cases z))
  or_ := by rw [List.map_append]; exact zo
  pa := by rw [List.map_append]; exact zp
  kd := by
    obtain ⟨ks, k1, k2, k3, k4⟩ := h.kd
    obtain ⟨ks', z1, z2, kv0, m0, e0, e0'⟩ := zk
    rw [k1] at z2
    cases z2
    have nk : (Sum.inr r.name : Key) ∉ ks.map (·.1) := fun m => by
      rw [k2] at m
      rcases List.mem_cons.mp m with e | m
      · exact hn0 (Sum.inr.inj e)
      · obtain ⟨q, hq, e⟩ := List.mem_map.mp m
        exact hst q hq (Sum.inr.inj e)
    have nl : ∀ kv ∈ ks, kv.2 ≠ .ref l := fun kv m e => by
      obtain ⟨c, e1, e2, _⟩ := k3 kv m
      rw [e1] at e
      injection e with e
      rw [e, hln] at e2
      cases e2
    refine ⟨_, z1, by rw [List.map_append, k2, List.map_append]; rfl, fun kv hkv => ?_, fun kv hkv kv2 hkv2 => ?_⟩
    · rcases List.mem_append.mp hkv with m | m
      · obtain ⟨c, e1, e2, e3, e4⟩ := k3 kv m
        rw [kids_snoc, List.map_append]
        by_cases c1 : c = l'
        · have ek : kv.1 = kv0.1 := (k4 kv m kv0 m0).mpr (by rw [e1, c1, e0'])
          refine ⟨c, e1, ?_, e3, e4⟩
          rw [c1, zl', ek, e0, if_pos rfl]
          rfl
        · have ek : ¬ (Sum.inr r.above : Key) = kv.1 := fun z => by
            have := (k4 kv m kv0 m0).mp (by rw [← z, e0])
            rw [e1, e0'] at this
            injection this with this
            exact c1 this
          refine ⟨c, e1, ?_, e3, e4⟩
          rw [if_neg ek]
          simpa using hz _ _ e2 e3 (ne_of e2 h.pa (by intro z; cases z)) (ne_of e2 k1 (by intro z; cases z)) (ne_of e2 h.tb (by intro z; cases z)) c1
      · cases List.mem_singleton.mp m
        refine ⟨l, rfl, ?_, hll.1, hll.2⟩
        show Hz l = some (.lst ((kidsOf (rows ++ [r]) (Sum.inr r.name)).map .str))
        rw [kids_none (fun q hq => by
          rcases List.mem_append.mp hq with q1 | q1
          · exact hk0 q q1
          · rw [List.mem_singleton.mp q1]
            exact hab)]
        exact zl
    · rcases List.mem_append.mp hkv with m | m <;> rcases List.mem_append.mp hkv2 with m2 | m2
      · exact k4 kv m kv2 m2
      · rw [List.mem_singleton.mp m2]
        exact ⟨fun e => absurd (List.mem_map.mpr ⟨kv, m, e⟩) nk, fun e => absurd e (nl kv m)⟩
      · rw [List.mem_singleton.mp m]
        exact ⟨fun e => absurd (List.mem_map.mpr ⟨kv2, m2, e.symm⟩) nk, fun e => absurd e.symm (nl kv2 m2)⟩
      · rw [List.mem_singleton.mp m, List.mem_singleton.mp m2]
        exact ⟨fun _ => rfl, fun _ => rfl⟩
  tb := zt
  td := paired_snoc ⟨rfl, D, rfl, hD⟩ (paired_monoM (fun kv q hq z => by
    obtain ⟨e1, d, e2, e3, e4, e5, e6, e7⟩ := z
    refine ⟨e1, d, e2, e3, e4, e5, e6, tkk.full (ok q hq) ?_ e7⟩
    obtain ⟨fk, f1, f2⟩ := e7
    rw [f1]
    exact hz _ _ f1 (ne_of f1 h.or_ (by intro z; cases z)) e4 e5 e6 (ne_of f1 hl (by intro z; cases z))) h.td)
  ne := h.ne
theorem names_nd {rows : List RowM} (h : RowsOk rows) : ∀ i, ((rows.take i).map (·.name)).Nodup
  | 0 => List.nodup_nil
  | i + 1 => by
    have ih := names_nd h i
    rw [List.take_add_one]
    cases e : rows[i]? with
    | none => simpa using ih
    | some r =>
      rw [Option.toList_some, List.map_append]
      refine List.nodup_append.mpr ⟨ih, by simp, fun a ha b hb => ?_⟩
      obtain ⟨q, hq, rfl⟩ := List.mem_map.mp ha
      cases List.mem_singleton.mp hb
      exact (h i r e).2.2.1 q hq
section
variable {P : Program} {w : World} {K : PySem.W.Frag} {mg : Str → Option Value} {base : Heap} {aL C : Addr} {left : List (Key × V)}
/-- the rule for a def with defaults that lets nothing out -/
theorem fund_ok {x qual : Str} {params : Arguments} {body : List Stmt} {scope : Scope} {dvs : List V} {kws : List (Str × V)} {f : Addr} {fd : FuncData} {N ps : List Str} {k : Nat} {sp : Sp} (F : FunD K x qual params body scope dvs kws f fd) (S : FnScope N ps scope) (len : ∀ vs H Q E, sp vs H Q E → vs.length = ps.length)
    (hbody : ∀ (cdv : Value) (A : Around) (outer : List Env) (s : Shared) (H : Hp) (vs : List V) (Q : VK) (E : XK), Room k (A.deeper (PyProof.Rows.envOfC qual scope s.heap.objs.size f cdv)) → sp vs H Q E →
      ∃ t, PSs (cxOf CX0 P w K mg base N qual scope f cdv A outer s H E).nox body t ∧ t { nx := fun _ H' => Q .non H', rt := Q } (start N vs) H) : FnOk P w K mg base CX0 (k + 1) f fd ps sp :=
  F.ok S len fun cdv A outer s H vs Q E hr h => let ⟨t, h1, h2⟩ := hbody cdv A outer s H vs Q E hr h; ⟨t, h1.nox, h2⟩
theorem ok_init {f g e : Addr} {fd gd ed : FuncData} (F : FunD K "__init__" "Tree.__init__" (defArgs sInit) (defBody sInit) (defScope sInit) [.bl false] [] f fd) (T : TP P w K mg aL left) (TCl : TC K mg C) (hLV : ∀ H, Paired (PV K H) left leftD) (cG : Cal P w K mg base "is_group_row" ["thing"] 6 (spIsGroupRow K) g gd) (cM : Cal P w K mg base "may_stand" ["tree", "row"] 2 (spMayStand K C) e ed) :
    FnOk P w K mg base CX0 7 f fd ["self", "rows", "handing"] (spInit K C) := by
  refine fund_ok F scInit (fun vs H Q E h => ?_) (fun cdv A outer s H vs Q E hr h => ?_)
  · obtain ⟨H0, p, dx, a, xs, rows, b, rfl, _⟩ := h
    rfl
  obtain ⟨H0, p, dx, a, xs, rows, b, rfl, s0, p0, hp, ha, hrows, hok, hlen, q⟩ := h
  have hu := hu_of hr
  refine ⟨_, (pss_cons (ps_if (pt_not (pt_val (pe_callB call_isi (by rfl) T.z_isinstance (by decide +kernel) (pa_cons (pv 1) (pa_cons (pe_bltn (v := .ty "list") (u := .type "list") (by rfl) T.z_list (by decide +kernel) rfl) pa_nil))))) (pss_one ps_never) pss_nil) (pss_cons (ps_fld (pv 0) (pe_lst pa_nil) rfl) (pss_cons (ps_fld (pv 0) pe_dnewK rfl) (pss_cons (ps_fld (pv 0) (pe_disp (pps_cons pe_str (pe_lst pa_nil) pps_nil) (by rfl) (by rfl) (fun z => by cases z) (by decide)) rfl) (pss_cons (ps_fld (pv 0) pe_dnewK rfl) (pss_cons (ps_for PassesOwn.never rfl (pi_enum (by rfl) T.z_enumerate (pa_cons (pv 1) pa_nil)) (pg_tup (by rfl) (pgs_cons (pg_name (i := 3) scInit.nd rfl (Or.inl rfl)) (pgs_cons (pg_name (i := 4) scInit.nd rfl (Or.inl rfl)) pgs_nil))) (pss_cons (ps_if (PW.pt (pw_or (pt_not (pt_val (pe_call cG.ok (hr.mono (by decide)) rfl cG.mg cG.kp cG.bd .nil pass0 (pa_cons (pv 4) pa_nil)))) (pw_or1 (pt_not (pt_val (pe_call cM.ok (hr.mono (by decide)) rfl cM.mg cM.kp cM.bd .nil pass0 (pa_cons (pv 0) (pa_cons (pv 4) pa_nil)))))))) (pss_one ps_never) pss_nil) (pss_cons (ps_asg (pv 4) (pg_tup (by rfl) (pgs_cons (pg_name (i := 5) scInit.nd rfl (Or.inl rfl)) (pgs_cons (pg_name (i := 6) scInit.nd rfl (Or.inl rfl)) (pgs_cons (pg_name (i := 7) scInit.nd rfl (Or.inl rfl)) pgs_nil))))) (pss_cons (ps_expr (pe_bm PySem.F.plainAttrs_list PySem.F.slot_list_append PySem.F.type_list_append mt_append (pe_fld (pv 0) rfl) (pa_cons (pv 5) pa_nil))) (pss_cons (ps_dput hu (pe_fld (pv 0) rfl) (pv 5) (pv 6) rfl) (pss_cons (ps_dput hu (pe_fld (pv 0) rfl) (pv 5) (pe_lst pa_nil) rfl) (pss_cons (ps_expr (pe_bm PySem.F.plainAttrs_list PySem.F.slot_list_append PySem.F.type_list_append mt_append (pe_dget hu (pe_fld (pv 0) rfl) (pv 6) (fun _ _ => rfl)) (pa_cons (pv 5) pa_nil))) (pss_one (ps_dput hu (pe_fld (pv 0) rfl) (pv 5) (pe_both (pe_callTy call_dictK (by rfl) T.z_dict (by decide +kernel) (pa_cons (pe_glob (v := .ref aL) rfl T.g_LEFT_OUT rfl) pa_nil)) (pe_callTy (call_dictT rfl) (by rfl) T.z_dict (by decide +kernel) (pa_cons (pv 7) pa_nil))) rfl))))))))) (pss_cons (ps_if (pt_not (pt_val (pe_callB call_isi (by rfl) T.z_isinstance (by decide +kernel) (pa_cons (pv 2) (pa_cons (pe_bltn (v := .ty "bool") (u := .type "bool") (by rfl) T.z_bool (by decide +kernel) rfl) pa_nil))))) (pss_one ps_never) pss_nil) (pss_one (ps_fld (pv 0) (pv 2) rfl))))))))), ?_⟩
  refine ⟨_, rfl, _, _, _, _, true, rfl, .ty _, (.base (.lst (s0 _ _ ha))), kit_ty (by decide +kernel), true, rfl, ?_⟩
  refine iteF ?_
  -- the empty tables
  refine ⟨Nat.zero_le _, fun po hpo => ?_⟩
  have npo : p ≠ po := ne_of_none hp hpo
  refine ⟨_, rfl, p, C, dx, [], rfl, (by rw [upd_ne npo]; exact hp), TCl.cl, TCl.n_order, (by show 0 < 1000; decide), ?_⟩
  intro pp hpp
  obtain ⟨npp1, hpp1⟩ := none_upd hpp
  obtain ⟨npp2, hpp2⟩ := none_upd hpp1
  refine ⟨_, rfl, p, C, dx, _, rfl, (by rw [upd_ne npp1.symm]; exact upd_same), TCl.cl, TCl.n_parents, (by show 1 < 1000; decide), ?_⟩
  rw [putF_two]
  intro pk hpk
  obtain ⟨npk1, hpk1⟩ := none_upd hpk
  obtain ⟨npk2, hpk2⟩ := none_upd hpk1
  obtain ⟨npk3, hpk3⟩ := none_upd hpk2
  obtain ⟨npk4, hpk4⟩ := none_upd hpk3
  refine ⟨Nat.zero_le _, fun l0 hl0 => ?_⟩
  obtain ⟨nl1, hl1⟩ := none_upd hl0
  obtain ⟨nl2, hl2⟩ := none_upd hl1
  obtain ⟨nl3, hl3⟩ := none_upd hl2
  obtain ⟨nl4, hl4⟩ := none_upd hl3
  obtain ⟨nl5, hl5⟩ := none_upd hl4
  refine ⟨by rw [upd_ne nl1.symm]; exact upd_same, [(Sum.inr "", .ref l0)], rfl, by show 1 ≤ 15; decide, ?_⟩
  refine ⟨_, rfl, p, C, dx, _, rfl, (by rw [upd_ne npk1.symm, upd_ne nl2.symm, upd_ne npk1.symm]; exact upd_same), TCl.cl, TCl.n_kids, (by show 2 < 1000; decide), ?_⟩
  rw [putF_three]
  intro pt hpt
  obtain ⟨npt1, hpt1⟩ := none_upd hpt
  obtain ⟨npt2, hpt2⟩ := none_upd hpt1
  obtain ⟨npt3, hpt3⟩ := none_upd hpt2
  obtain ⟨npt4, hpt4⟩ := none_upd hpt3
  obtain ⟨npt5, hpt5⟩ := none_upd hpt4
  obtain ⟨npt6, hpt6⟩ := none_upd hpt5
  obtain ⟨npt7, hpt7⟩ := none_upd hpt6
  refine ⟨_, rfl, p, C, dx, _, rfl, (by rw [upd_ne npt1.symm]; exact upd_same), TCl.cl, TCl.n_table, (by show 3 < 1000; decide), ?_⟩
  rw [putF_four]
  have xl : xs.length = rows.length := Paired.length hrows
  refine ⟨_, rfl, a, xs, rfl, ?_, for_it walk_enum (fun i σ H' => ∃ (tk : List (Key × V)) (o3 o4 o5 o6 o7 : Option V), σ = [some (.ref p), some (.ref a), some (.bl b), o3, o4, o5, o6, o7] ∧ PartAt K H0 H' C p dx po pp pk pt (rows.take i) tk)
    ⟨[], none, none, none, none, none, rfl, ?_⟩ (fun i σ H' _ ⟨_, _, _, _, _, _, _, h⟩ => SqL.of (h.same _ _ ha)) ?_ ?_⟩
  · have := s0 _ _ ha
    have z1 := ne_of_none this hpo
    have z2 := ne_of this hp (by intro z; cases z)
    have z3 := ne_of_none this hpp2
    have z4 := ne_of_none this hpk4
    have z5 := ne_of_none this hl5
    have z6 := ne_of_none this (none_upd hpt7).2
    refine SqL.of ?_
    simp only [upd, if_neg z1, if_neg z2, if_neg z3, if_neg z4, if_neg z5, if_neg z6]
    exact this
  · have npt8 := (none_upd hpt7).1
    have hpt8 := (none_upd hpt7).2
    refine ⟨fun b2 o2 hb => ?_, ⟨p0, s0.free hpo, s0.free hpp2, s0.free hpk4, s0.free hpt8⟩, upd_same, ?_, ?_, ⟨[(Sum.inr "", .ref l0)], ?_, rfl, fun kv hkv => ?_, fun kv hkv kv2 hkv2 => ?_⟩, ?_, .nil, npk2.symm, npt6.symm, npt2.symm⟩
    · have hb' := s0 _ _ hb
      have a1 := ne_of_none hb p0
      have a2 := ne_of_none hb' hpt8
      have a3 := ne_of_none hb' hpk4
      have a4 := ne_of_none hb' hl5
      have a5 := ne_of_none hb' hpp2
      have a6 := ne_of_none hb' hpo
      rw [upd_ne a1, upd_ne a2, upd_ne a1, upd_ne a3, upd_ne a4, upd_ne a3, upd_ne a1, upd_ne a5, upd_ne a1, upd_ne a6]
      exact hb'
    · rw [upd_ne npo.symm, upd_ne npt8.symm, upd_ne npo.symm, upd_ne npk4.symm, upd_ne nl5.symm, upd_ne npk4.symm, upd_ne npo.symm, upd_ne npp2.symm, upd_ne npo.symm]
      exact upd_same
    · rw [upd_ne npp1, upd_ne npt6.symm, upd_ne npp1, upd_ne npk2.symm, upd_ne nl3.symm, upd_ne npk2.symm, upd_ne npp1]
      exact upd_same
    · rw [upd_ne npk1, upd_ne npt2.symm, upd_ne npk1]
      exact upd_same
    · cases List.mem_singleton.mp hkv
      refine ⟨l0, rfl, ?_, nl5, s0.free hl5⟩
      rw [upd_ne nl2, upd_ne npt3.symm, upd_ne nl2, upd_ne nl1]
      exact upd_same
    · cases List.mem_singleton.mp hkv
      cases List.mem_singleton.mp hkv2
      exact ⟨fun _ => rfl, fun _ => rfl⟩
    · rw [upd_ne npt1]
      exact upd_same
  · rintro i v σ H1 H2 hi ⟨tk, o3, o4, o5, o6, o7, rfl, hP⟩ ⟨TT, x, y, rfl, hTT, rfl, hx, hy⟩
    have P1 := hP.grow (Same.new (Same.refl H1) hTT (.tup [x, y]))
    obtain ⟨r, hr1, hrow⟩ := paired_get hrows hy
    obtain ⟨hn, hd, hst⟩ := hok i r hr1
    refine ⟨TT, _, rfl, SqT.of upd_same, rfl, _, _, rfl, _, _, rfl, rfl, ?_⟩
    refine ⟨_, rfl, y, r, rfl, RowAt.same P1.same hrow, hn, hd, fun H3 s3 => ?_⟩
    refine ⟨true, rfl, ?_⟩
    refine iteF ?_
    have P2 := P1.grow s3
    refine ⟨_, rfl, _, rfl, H0, p, dx, po, pp, pk, pt, rows.take i, tk, y, r, rfl, P2, RowAt.same P2.same hrow, hst, ?_, ?_, fun H4 s4 => ?_⟩
    · exact names_nd hok i
    · intro q2 hq2 e
      obtain ⟨m, hm⟩ := List.mem_iff_getElem?.mp (List.mem_of_mem_take hq2)
      have := (hok m q2 hm).1.1
      rw [e] at this
      exact absurd this (by decide +kernel)
    refine ⟨true, rfl, ?_⟩
    refine iteF ?_
    have P3 := P2.grow s4
    obtain ⟨ra, t, rfl, hra, hdues⟩ := RowAt.same P3.same hrow
    refine ⟨_, rfl, ra, _, rfl, hra, rfl, _, _, rfl, _, _, rfl, _, _, rfl, rfl, ?_⟩
    -- self.order.append(name)
    refine ⟨_, rfl, p, C, dx, _, _, rfl, P3.ob, TCl.cl, TCl.n_order, tf4_order, .inl ⟨rfl, _, SqL.of P3.or_⟩, _, rfl, po, _, _, rfl, rfl, P3.or_, ?_, ?_⟩
    · rw [List.length_map, List.length_take]
      exact small1000 (by omega)
    obtain ⟨ks, k1, k2, k3, k4⟩ := P3.kd
    have n_p_o := ne_of P3.ob P3.or_ (by intro z; cases z)
    have n_pp_o := ne_of P3.pa P3.or_ (by intro z; cases z)
    have n_pk_o := ne_of k1 P3.or_ (by intro z; cases z)
    have n_pt_o := ne_of P3.tb P3.or_ (by intro z; cases z)
    have n_p_pp := ne_of P3.ob P3.pa (by intro z; cases z)
    have n_p_pk := ne_of P3.ob k1 (by intro z; cases z)
    have n_p_pt := ne_of P3.ob P3.tb (by intro z; cases z)
    have n_pp_pk := P3.ne.1
    have n_pp_pt := P3.ne.2.1
    have n_pk_pt := P3.ne.2.2
    have lt : (rows.take i).length ≤ 200 := by
      rw [List.length_take]
      omega
    have tkl : tk.length = (rows.take i).length := Paired.length P3.td
    have ksl : ks.length = (rows.take i).length + 1 := by
      have := congrArg List.length k2
      simpa using this
    -- self.parents[name] = above
    refine ⟨_, rfl, _, rfl, p, C, dx, _, _, rfl, (upd_ne n_p_o).trans P3.ob, TCl.cl, TCl.n_parents, tf4_parents, _, rfl, pp, _, rfl, DPut.k (k := Sum.inr r.name) ((upd_ne n_pp_o).trans P3.pa) ?_, ?_⟩
    · rw [List.length_map]
      exact small1000 (by omega)
    -- self.kids[name] = []
    refine ⟨Nat.zero_le _, fun l hl => ?_⟩
    obtain ⟨nl_pp, hlA⟩ := none_upd hl
    obtain ⟨nl_o, hlB⟩ := none_upd hlA
    have nl_p : l ≠ p := (ne_of_none P3.ob hlB).symm
    have nl_pk : l ≠ pk := (ne_of_none k1 hlB).symm
    have nl_pt : l ≠ pt := (ne_of_none P3.tb hlB).symm
    refine ⟨_, rfl, p, C, dx, _, _, rfl, (upd_ne nl_p.symm).trans ((upd_ne n_p_pp).trans ((upd_ne n_p_o).trans P3.ob)), TCl.cl, TCl.n_kids, tf4_kids, _, rfl, pk, _, rfl,
      DPut.k (k := Sum.inr r.name) ((upd_ne nl_pk.symm).trans ((upd_ne n_pp_pk.symm).trans ((upd_ne n_pk_o).trans k1))) (small1000 (by omega)), ?_⟩
    -- self.kids[above].append(name)
    have hab : r.above ≠ r.name := by
      rcases hst.2 with e | ⟨q2, hq2, e, _⟩
      · intro z
        have := hn.1
        rw [← z, e] at this
        exact absurd this (by decide +kernel)
      · intro z
        exact hst.1 q2 hq2 (e.trans z)
    obtain ⟨l2, lx, hkv, hl2, hl2o, hl20, hlx, hlxe, hkvm⟩ : ∃ l2 lx, valV ks (Sum.inr r.above : Key) = some (.ref l2) ∧ H4 l2 = some (.lst lx) ∧ l2 ≠ po ∧ H0 l2 = none ∧ lx.length ≤ (rows.take i).length ∧ lx = (kidsOf (rows.take i) (Sum.inr r.above)).map .str ∧ ∃ kv ∈ ks, kv.1 = (Sum.inr r.above : Key) ∧ kv.2 = .ref l2 := by
      have hin : (Sum.inr r.above : Key) ∈ ks.map (·.1) := by
        rw [k2]
        rcases hst.2 with e | ⟨q, hq, e, _⟩
        · rw [e]
          exact List.mem_cons_self
        · exact List.mem_cons_of_mem _ (List.mem_map.mpr ⟨q, hq, by rw [e]⟩)
      cases hv : valV ks (Sum.inr r.above : Key) with
      | none => exact absurd hin (valV_not hv)
      | some v =>
        unfold valV at hv
        obtain ⟨kv, hf, he⟩ := Option.map_eq_some_iff.mp hv
        obtain ⟨c, e1, e2, e3, e4⟩ := k3 kv (List.mem_of_find?_eq_some hf)
        have ek : kv.1 = (Sum.inr r.above : Key) := by
          have := List.find?_some hf
          simpa using this
        rw [ek] at e2
        refine ⟨c, _, by rw [← he, e1], e2, e3, e4, ?_, rfl, kv, List.mem_of_find?_eq_some hf, ek, e1⟩
        rw [List.length_map]
        exact kids_le _ _
    have hkv2 : valV (putK ks (Sum.inr r.name : Key) (.ref l)) (Sum.inr r.above : Key) = some (.ref l2) := by
      rw [valV_put, if_neg (fun z => hab (Sum.inr.inj z))]
      exact hkv
    have n_l2_l : l2 ≠ l := ne_of_none hl2 hlB
    have n_l2_pp := ne_of hl2 P3.pa (by intro z; cases z)
    have n_l2_pk := ne_of hl2 k1 (by intro z; cases z)
    have n_l2_p := ne_of hl2 P3.ob (by intro z; cases z)
    have n_l2_pt := ne_of hl2 P3.tb (by intro z; cases z)
    have c_l2 : ∀ o1 o2 o3 o4, upd (upd (upd (upd H4 po o1) pp o2) l o3) pk o4 l2 = some (.lst lx) := fun o1 o2 o3 o4 => by
      rw [upd_ne n_l2_pk, upd_ne n_l2_l, upd_ne n_l2_pp, upd_ne hl2o]
      exact hl2
    refine ⟨_, rfl, p, C, dx, _, _, rfl, (upd_ne n_p_pk).trans ((upd_ne nl_p.symm).trans ((upd_ne n_p_pp).trans ((upd_ne n_p_o).trans P3.ob))), TCl.cl, TCl.n_kids, tf4_kids, _, rfl, pk, _, rfl,
      dget_of upd_same hkv2, .inl ⟨rfl, _, SqL.of (c_l2 _ _ _ _)⟩, _, rfl, l2, _, _, rfl, rfl, c_l2 _ _ _ _, small1000 (by omega), ?_⟩
    -- self.table[name] = both
    refine fun D hD => ⟨aL, left, rfl, T.tab, fun d1 h1 => ?_⟩
    obtain ⟨nD_l2, hD1⟩ := none_upd hD
    obtain ⟨nD_pk, hD2⟩ := none_upd hD1
    obtain ⟨nD_l, hD3⟩ := none_upd hD2
    obtain ⟨nD_pp, hD4⟩ := none_upd hD3
    obtain ⟨nD_o, hD5⟩ := none_upd hD4
    have nD_p : D ≠ p := (ne_of_none P3.ob hD5).symm
    have nD_pt : D ≠ pt := (ne_of_none P3.tb hD5).symm
    obtain ⟨n1_D, h11⟩ := none_upd h1
    obtain ⟨n1_l2, h12⟩ := none_upd h11
    obtain ⟨n1_pk, h13⟩ := none_upd h12
    obtain ⟨n1_l, h14⟩ := none_upd h13
    obtain ⟨n1_pp, h15⟩ := none_upd h14
    obtain ⟨n1_o, h16⟩ := none_upd h15
    have n1_p : d1 ≠ p := (ne_of_none P3.ob h16).symm
    have n1_pt : d1 ≠ pt := (ne_of_none P3.tb h16).symm
    have t8 := ((((((TK.lst P3.or_ (.lst (List.map (fun r => V.str r.name) (List.take i rows) ++ [V.str r.name]))).trans (TK.dk ((upd_ne n_pp_o).trans P3.pa) _)).trans (TK.new hl _)).trans (TK.dk ((upd_ne nl_pk.symm).trans ((upd_ne n_pp_pk.symm).trans ((upd_ne n_pk_o).trans k1))) _)).trans (TK.lst (c_l2 _ _ _ _) _)).trans (TK.new hD _)).trans (TK.new h1 (.dK left))
    have t9 := t8.trans (TK.dk ((upd_ne n1_D.symm).trans upd_same) (.dK (mergeK [] left)))
    obtain ⟨ps, f1, f2⟩ := t9.dues hd hdues
    obtain ⟨dk, g1, g2⟩ := dk_of_dues f2
    have dkl : dk.length ≤ 8 := by
      have e := Paired.length g2
      have := words_few hd.1 fun du hdu => (hd.2 du hdu).1
      omega
    have lefl : left.length = 8 := by
      have := congrArg List.length T.keys
      rw [List.length_map, List.length_map] at this
      exact this
    have mdl : (mergeK [] dk).length ≤ 8 := by
      have := length_mergeK dk []
      rw [List.length_nil] at this
      omega
    refine ⟨d1, left, rfl, (upd_ne n1_D.symm).trans upd_same, upd_same, n1_D.symm, ?_⟩
    refine ⟨_, rfl, t, ps, dk, rfl, f1, g1, fun d2 h2 => ?_⟩
    obtain ⟨n2_D, h21⟩ := none_upd h2
    obtain ⟨n2_1, h22⟩ := none_upd h21
    obtain ⟨_, h23⟩ := none_upd h22
    obtain ⟨n2_l2, h24⟩ := none_upd h23
    obtain ⟨n2_pk, h25⟩ := none_upd h24
    obtain ⟨n2_l, h26⟩ := none_upd h25
    obtain ⟨n2_pp, h27⟩ := none_upd h26
    obtain ⟨n2_o, h28⟩ := none_upd h27
    have n2_p : d2 ≠ p := (ne_of_none P3.ob h28).symm
    have n2_pt : d2 ≠ pt := (ne_of_none P3.tb h28).symm
    refine ⟨d2, mergeK [] dk, rfl, (upd_ne n2_D.symm).trans upd_same, upd_same, n2_D.symm, by omega, ?_⟩
    have t10 := (t9.trans (TK.new h2 (.dK (mergeK [] dk)))).trans (TK.dk ((upd_ne n2_D.symm).trans upd_same) (.dK (mergeK (mergeK [] left) (mergeK [] dk))))
    have e_p : ∀ o1 o2 o3 o4 o5 o6 o7 o8 o9 o10, upd (upd (upd (upd (upd (upd (upd (upd (upd (upd H4 po o1) pp o2) l o3) pk o4) l2 o5) D o6) d1 o7) D o8) d2 o9) D o10 p = some (.ins C dx (tf4 po pp pk pt)) := fun o1 o2 o3 o4 o5 o6 o7 o8 o9 o10 => by
      rw [upd_ne nD_p.symm, upd_ne n2_p.symm, upd_ne nD_p.symm, upd_ne n1_p.symm, upd_ne nD_p.symm, upd_ne n_l2_p.symm, upd_ne n_p_pk, upd_ne nl_p.symm, upd_ne n_p_pp, upd_ne n_p_o]
      exact P3.ob
    have e_pt : ∀ o1 o2 o3 o4 o5 o6 o7 o8 o9 o10, upd (upd (upd (upd (upd (upd (upd (upd (upd (upd H4 po o1) pp o2) l o3) pk o4) l2 o5) D o6) d1 o7) D o8) d2 o9) D o10 pt = some (.dK tk) := fun o1 o2 o3 o4 o5 o6 o7 o8 o9 o10 => by
      rw [upd_ne nD_pt.symm, upd_ne n2_pt.symm, upd_ne nD_pt.symm, upd_ne n1_pt.symm, upd_ne nD_pt.symm, upd_ne n_l2_pt.symm, upd_ne n_pk_pt.symm, upd_ne nl_pt.symm, upd_ne n_pp_pt.symm, upd_ne n_pt_o]
      exact P3.tb
    refine ⟨_, rfl, p, C, dx, _, _, rfl, e_p _ _ _ _ _ _ _ _ _ _, TCl.cl, TCl.n_table, tf4_table, _, rfl, pt, _, rfl, DPut.k (k := Sum.inr r.name) (e_pt _ _ _ _ _ _ _ _ _ _) (small1000 (by omega)), ?_⟩
    have nm : ∀ q ∈ rows.take i, q.name ≠ r.name := hst.1
    have tknew : putK tk (Sum.inr r.name : Key) (V.ref D) = tk ++ [(Sum.inr r.name, .ref D)] := by
      refine putK_new _ (keys_none fun m => ?_)
      rw [td_keys (fun _ _ z => z.1) P3.td] at m
      obtain ⟨q, hq, e⟩ := List.mem_map.mp m
      exact nm q hq (Sum.inr.inj e)
    have ksnew : putK ks (Sum.inr r.name : Key) (V.ref l) = ks ++ [(Sum.inr r.name, .ref l)] := by
      refine putK_new _ (keys_none fun m => ?_)
      rw [k2] at m
      rcases List.mem_cons.mp m with e | m
      · have := hn.1
        rw [Sum.inr.inj e] at this
        exact absurd this (by decide +kernel)
      · obtain ⟨q, hq, e⟩ := List.mem_map.mp m
        exact nm q hq (Sum.inr.inj e)
    have panew : putK (List.map (fun r => ((Sum.inr r.name : Key), V.str r.above)) (rows.take i)) (Sum.inr r.name : Key) (V.str r.above) = List.map (fun r => ((Sum.inr r.name : Key), V.str r.above)) (rows.take i) ++ [(Sum.inr r.name, .str r.above)] := by
      refine putK_new _ (keys_none fun m => ?_)
      rw [List.map_map] at m
      obtain ⟨q, hq, e⟩ := List.mem_map.mp m
      exact nm q hq (Sum.inr.inj e)
    have t11 := t10.trans (TK.dk (e_pt _ _ _ _ _ _ _ _ _ _) (.dK (tk ++ [(Sum.inr r.name, .ref D)])))
    refine ⟨tk ++ [(Sum.inr r.name, .ref D)], _, _, _, _, _, rfl, ?_⟩
    rw [List.take_add_one, hr1, Option.toList_some, tknew, ksnew, panew]
    rw [ksnew, panew] at t11
    subst hlxe
    have hn0 : r.name ≠ "" := fun z => by
      have := hn.1
      rw [z] at this
      exact absurd this (by decide +kernel)
    have hk0 : ∀ q ∈ rows.take i, q.above ≠ r.name := fun q hq z => by
      obtain ⟨m, hm⟩ := List.mem_iff_getElem?.mp hq
      have hmi : m < i := by
        have := (List.getElem?_eq_some_iff.mp hm).1
        rw [List.length_take] at this
        omega
      rw [List.getElem?_take_of_lt hmi] at hm
      rcases (hok m q hm).2.2.2 with e | ⟨q2, hq2, e, _⟩
      · exact hn0 (z.symm.trans e)
      · refine hst.1 q2 ?_ (e.trans z)
        obtain ⟨m2, hm2⟩ := List.mem_iff_getElem?.mp hq2
        have hmi2 : m2 < m := by
          have := (List.getElem?_eq_some_iff.mp hm2).1
          rw [List.length_take] at this
          omega
        rw [List.getElem?_take_of_lt hmi2] at hm2
        exact List.mem_iff_getElem?.mpr ⟨m2, by rw [List.getElem?_take_of_lt (by omega)]; exact hm2⟩
    refine part_step (l := l) (l' := l2) (D := D) P3 (fun q hq => ?_) t11 (fun b2 o2 hb b1 b2' b3 b4 b5 => ?_) hl20 hl2o hl2 hn0 hst.1 hk0 hab hlB ?_ ?_ ⟨ks, ?_, k1, hkvm⟩ ?_ ⟨nl_o, P3.same.free hlB⟩ ?_ upd_same ⟨P3.same.free hD5, nD_pp, nD_pk, nD_pt, ?_⟩
    · obtain ⟨m, hm⟩ := List.mem_iff_getElem?.mp (List.mem_of_mem_take hq)
      exact (hok m q hm).2.1
    · rw [upd_ne b4, upd_ne (ne_of_none hb hD5), upd_ne (ne_of_none hb h28), upd_ne (ne_of_none hb hD5), upd_ne (ne_of_none hb h16), upd_ne (ne_of_none hb hD5), upd_ne b5, upd_ne b3, upd_ne (ne_of_none hb hlB), upd_ne b2', upd_ne b1]
      exact hb
    · rw [upd_ne n_pt_o.symm, upd_ne nD_o.symm, upd_ne n2_o.symm, upd_ne nD_o.symm, upd_ne n1_o.symm, upd_ne nD_o.symm, upd_ne hl2o.symm, upd_ne n_pk_o.symm, upd_ne nl_o.symm, upd_ne n_pp_o.symm]
      exact upd_same
    · rw [upd_ne n_pp_pt, upd_ne nD_pp.symm, upd_ne n2_pp.symm, upd_ne nD_pp.symm, upd_ne n1_pp.symm, upd_ne nD_pp.symm, upd_ne n_l2_pp.symm, upd_ne n_pp_pk, upd_ne nl_pp.symm]
      exact upd_same
    · rw [upd_ne n_pk_pt, upd_ne nD_pk.symm, upd_ne n2_pk.symm, upd_ne nD_pk.symm, upd_ne n1_pk.symm, upd_ne nD_pk.symm, upd_ne n_l2_pk.symm]
      exact upd_same
    · rw [upd_ne nl_pt, upd_ne nD_l.symm, upd_ne n2_l.symm, upd_ne nD_l.symm, upd_ne n1_l.symm, upd_ne nD_l.symm, upd_ne n_l2_l.symm, upd_ne nl_pk]
      exact upd_same
    · rw [upd_ne n_l2_pt, upd_ne nD_l2.symm, upd_ne n2_l2.symm, upd_ne nD_l2.symm, upd_ne n1_l2.symm, upd_ne nD_l2.symm]
      exact upd_same
    · have t12 := ((TK.new h2 (.dK (mergeK [] dk))).trans (TK.dk ((upd_ne n2_D.symm).trans upd_same) (.dK (mergeK (mergeK [] left) (mergeK [] dk))))).trans (TK.dk (e_pt _ _ _ _ _ _ _ _ _ _) (.dK (tk ++ [(Sum.inr r.name, .ref D)])))
      have g3 := g2
      rw [ksnew, panew] at t12 g3
      exact ⟨_, (upd_ne nD_pt).trans upd_same, full_of (hLV _) (paired_monoM (fun kv du hm z => ⟨z.1, t12.val (hd.2 du hm).2 z.2⟩) g3) hd⟩
  · rintro σ H1 ⟨tk, o3, o4, o5, o6, o7, rfl, hP⟩
    rw [xl, List.take_length] at hP
    refine ⟨_, rfl, _, _, _, _, true, rfl, .ty _, .base (.bl b), kit_ty (by decide +kernel), true, rfl, ?_⟩
    refine iteF ?_
    refine ⟨_, rfl, _, rfl, p, C, dx, _, rfl, hP.ob, TCl.cl, TCl.n_hands, (by show 4 < 1000; decide), ?_⟩
    show Q .non (upd H1 p (.ins C dx (putF "hands" (.bl b) [("order", V.ref po), ("parents", .ref pp), ("kids", .ref pk), ("table", .ref pt)])))
    rw [putF_five]
    have tkk : TK H1 (upd H1 p (.ins C dx (tf5 po pp pk pt b))) := TK.ins hP.ob _
    refine q _ tk (fun b2 o2 hb => ?_) ⟨dx, po, pp, pk, pt, upd_same, ?_, ?_, ?_, ?_, ?_⟩ ?_
    · rw [upd_ne (ne_of_none hb p0)]
      exact hP.same _ _ hb
    · rw [upd_ne (ne_of hP.or_ hP.ob (by intro z; cases z))]
      exact hP.or_
    · rw [upd_ne (ne_of hP.pa hP.ob (by intro z; cases z))]
      exact hP.pa
    · rw [upd_ne (ne_of hP.tb hP.ob (by intro z; cases z))]
      exact hP.tb
    · refine paired_monoM (fun kv r hr z => ?_) hP.td
      obtain ⟨e1, d, e2, e3, e4, e5, e6, e7⟩ := z
      refine ⟨e1, d, e2, tkk.full ?_ ?_ e7⟩
      · obtain ⟨m, hm⟩ := List.mem_iff_getElem?.mp hr
        exact (hok m r hm).2.1
      · obtain ⟨fk, f1, _⟩ := e7
        rw [upd_ne (ne_of f1 hP.ob (by intro z; cases z))]
    · obtain ⟨ks, k1, k2, k3, _⟩ := hP.kd
      refine ⟨ks, (upd_ne (ne_of k1 hP.ob (by intro z; cases z))).trans k1, k2, fun kv hkv => ?_⟩
      obtain ⟨l, e1, e2, _⟩ := k3 kv hkv
      exact ⟨l, e1, (upd_ne (ne_of e2 hP.ob (by intro z; cases z))).trans e2⟩
    · intro kv hkv
      obtain ⟨m, hm⟩ := List.mem_iff_getElem?.mp hkv
      obtain ⟨r, _, _, d, e2, e3, _⟩ := paired_get hP.td hm
      exact ⟨d, e2, e3⟩

end
end Bd
end

section
namespace Bd
open PySem L2
abbrev sCheckGroup : Stmt := (top 33)
theorem scCheckGroup : FnScope ["tree", "name"] ["tree", "name"] (defScope sCheckGroup) := ⟨rfl, rfl, rfl, by decide +kernel, rfl, by decide +kernel, by decide +kernel⟩
abbrev sTNames : Stmt := (inClass (top 30) 2)
theorem scTNames : FnScope ["self"] ["self"] (defScope sTNames) := ⟨rfl, rfl, rfl, by decide +kernel, rfl, by decide +kernel, by decide +kernel⟩
abbrev sTAbove : Stmt := (inClass (top 30) 3)
theorem scTAbove : FnScope ["self", "name"] ["self", "name"] (defScope sTAbove) := ⟨rfl, rfl, rfl, by decide +kernel, rfl, by decide +kernel, by decide +kernel⟩
abbrev sTKids : Stmt := (inClass (top 30) 4)
theorem scTKids : FnScope ["self", "name"] ["self", "name"] (defScope sTKids) := ⟨rfl, rfl, rfl, by decide +kernel, rfl, by decide +kernel, by decide +kernel⟩
abbrev sTLeaves : Stmt := (inClass (top 30) 5)
theorem scTLeaves : FnScope ["self", "name"] ["self"] (defScope sTLeaves) := ⟨rfl, rfl, rfl, by decide +kernel, rfl, by decide +kernel, by decide +kernel⟩
abbrev sTPath : Stmt := (inClass (top 30) 6)
theorem scTPath : FnScope ["self", "name", "groups"] ["self", "name"] (defScope sTPath) := ⟨rfl, rfl, rfl, by decide +kernel, rfl, by decide +kernel, by decide +kernel⟩
abbrev sTDue : Stmt := (inClass (top 30) 7)
theorem scTDue : FnScope ["self", "name", "word"] ["self", "name", "word"] (defScope sTDue) := ⟨rfl, rfl, rfl, by decide +kernel, rfl, by decide +kernel, by decide +kernel⟩
abbrev sTHanding : Stmt := (inClass (top 30) 8)
theorem scTHanding : FnScope ["self"] ["self"] (defScope sTHanding) := ⟨rfl, rfl, rfl, by decide +kernel, rfl, by decide +kernel, by decide +kernel⟩

/-- a def that may raise, as its callers see it -/
structure CalX (P : Program) (w : World) (K : PySem.W.Frag) (mg : Str → Option Value) (base : Heap) (x : Str) (ps : List Str) (k : Nat) (sp : Sp) (f : Addr) (fd : FuncData) : Prop where
  ok : FnOk P w K mg base (L2.CX P w) k f fd ps sp
  mg : mg x = some (.ref f)
  kp : PySem.W.keepIn K (.ref f) = true
  bd : Binds K fd ps []
/-- an own error without a maker of its own -/
structure XN (K : PySem.W.Frag) (mg : Str → Option Value) (x : Str) (C : Addr) : Prop where
  q : PySem.W.excIn K C [.type "ValueError", .type "Exception", .type "BaseException", .type "object"] "ValueError.__new__" = true
  g : mg x = some (.ref C)
  k : PySem.W.keepIn K (.ref C) = true
  r1 : PySem.W.subIn K (.ref C) (.type "BaseException") = some true
  r2 : PySem.W.typeIn K (.ref C) = some (.type "type")
/-- no text of these -/
def OddN (K : PySem.W.Frag) (H : Hp) (xs : List Str) (v : V) : Prop := (∃ t : String, TyX K H v (.type t) ∧ kitB t "str" = some false) ∨ ∃ x, v = .str x ∧ x ∉ xs
def nms (rows : List RowM) : List Str := rows.map (·.name)
def spCG (K : PySem.W.Frag) (C CN : Addr) : Sp := fun vs H Q E => ∃ (p : Addr) (v : V) (rows : List RowM) (h : Bool) (tk : List (Key × V)), vs = [.ref p, v] ∧ TreeAt K H C p rows h tk ∧
  ((∃ x, v = .str x ∧ x ∈ nms rows ∧ Q .non H) ∨ (OddN K H (nms rows) v ∧ E (.ref CN) none H))
def spTNames (K : PySem.W.Frag) (C : Addr) : Sp := fun vs H Q _ => ∃ (p : Addr) (rows : List RowM) (h : Bool) (tk : List (Key × V)), vs = [.ref p] ∧ TreeAt K H C p rows h tk ∧ ∀ l, H l = none → Q (.ref l) (upd H l (.lst ((nms rows).map .str)))
def spTHanding (K : PySem.W.Frag) (C : Addr) : Sp := fun vs H Q _ => ∃ (p : Addr) (rows : List RowM) (h : Bool) (tk : List (Key × V)), vs = [.ref p] ∧ TreeAt K H C p rows h tk ∧ Q (.bl h) H
def spTAbove (K : PySem.W.Frag) (C CN : Addr) : Sp := fun vs H Q E => ∃ (p : Addr) (v : V) (rows : List RowM) (h : Bool) (tk : List (Key × V)), vs = [.ref p, v] ∧ TreeAt K H C p rows h tk ∧ (nms rows).Nodup ∧
  ((∃ r ∈ rows, v = .str r.name ∧ Q (.str r.above) H) ∨ (OddN K H (nms rows) v ∧ E (.ref CN) none H))
def spTKids (K : PySem.W.Frag) (C CN : Addr) : Sp := fun vs H Q E => ∃ (p : Addr) (v : V) (rows : List RowM) (h : Bool) (tk : List (Key × V)), vs = [.ref p, v] ∧ TreeAt K H C p rows h tk ∧ RowsOk rows ∧
  ((∃ x, v = .str x ∧ x ∈ ("" : Str) :: nms rows ∧ ∀ l, H l = none → Q (.ref l) (upd H l (.lst ((kidsOf rows (Sum.inr x)).map .str)))) ∨ (OddN K H (("" : Str) :: nms rows) v ∧ E (.ref CN) none H))
def spTLeaves (K : PySem.W.Frag) (C : Addr) : Sp := fun vs H Q _ => ∃ (p : Addr) (rows : List RowM) (h : Bool) (tk : List (Key × V)), vs = [.ref p] ∧ TreeAt K H C p rows h tk ∧ RowsOk rows ∧ rows.length ≤ 200 ∧ ∀ l, H l = none → Q (.ref l) (upd H l (.lst ((leavesOf rows).map .str)))
def upOf (rows : List RowM) (x : Str) : Str := ((rows.find? fun r => decide (r.name = x)).map (·.above)).getD ""
def upN (rows : List RowM) : Nat → Str → Str
  | 0, x => x
  | n + 1, x => upOf rows (upN rows n x)
def pathL (rows : List RowM) (x : Str) (m : Nat) : List Str := (List.range m).map fun j => upN rows j x
/-- m steps up to the root, and no fewer -/
def UpM (rows : List RowM) (x : Str) (m : Nat) : Prop := (∀ j < m, upN rows j x ∈ nms rows) ∧ upN rows m x = ""
def spTPath (K : PySem.W.Frag) (C CN : Addr) : Sp := fun vs H Q E => ∃ (p : Addr) (v : V) (rows : List RowM) (h : Bool) (tk : List (Key × V)), vs = [.ref p, v] ∧ TreeAt K H C p rows h tk ∧ (nms rows).Nodup ∧ ("" : Str) ∉ nms rows ∧
  ((∃ x m, v = .str x ∧ x ∈ nms rows ∧ UpM rows x m ∧ m ≤ 200 ∧ ∀ l, H l = none → Q (.ref l) (upd H l (.lst ((pathL rows x m).map .str)))) ∨ (OddN K H (nms rows) v ∧ E (.ref CN) none H))
def spTDue (K : PySem.W.Frag) (C CN CW : Addr) : Sp := fun vs H Q E => ∃ (p : Addr) (v wv : V) (rows : List RowM) (h : Bool) (tk : List (Key × V)), vs = [.ref p, v, wv] ∧ TreeAt K H C p rows h tk ∧ (nms rows).Nodup ∧
  ((∃ r ∈ rows, v = .str r.name ∧ ((∃ x ∈ leftW, wv = .str x ∧ ∀ u d, dueOf (fullD r.dues) x = some d → Dp K H u d → Q u H) ∨ (OddN K H leftW wv ∧ E (.ref CW) none H))) ∨ (OddN K H (nms rows) v ∧ E (.ref CN) none H))
def spIsWord2 (K : PySem.W.Frag) : Sp := fun vs H Q _ => ∃ v : V, vs = [v] ∧ ((∃ x ∈ leftW, v = .str x ∧ Q (.bl true) H) ∨ (OddN K H leftW v ∧ Q (.bl false) H))
section
variable {P : Program} {w : World} {K : PySem.W.Frag} {mg : Str → Option Value} {base : Heap} {aL C CN CW : Addr} {left : List (Key × V)}
theorem par_val (rows : List RowM) (x : Str) : (valV (rows.map fun r => ((Sum.inr r.name : Key), V.str r.above)) (Sum.inr x)).isSome = decide (x ∈ nms rows) := by
  by_cases c : x ∈ nms rows
  · rw [decide_eq_true c]
    refine val_some ?_
    rw [List.map_map]
    obtain ⟨r, hr, e⟩ := List.mem_map.mp c
    exact List.mem_map.mpr ⟨r, hr, by rw [← e]; rfl⟩
  · rw [decide_eq_false c]
    rw [keys_none fun m => c ?_]
    · rfl
    · rw [List.map_map] at m
      obtain ⟨r, hr, e⟩ := List.mem_map.mp m
      exact List.mem_map.mpr ⟨r, hr, Sum.inr.inj e⟩
theorem ok_isWord2 {f : Addr} {fd : FuncData} (F : Fun K "is_word" "is_word" sIsWord f fd) (T : TP P w K mg aL left) : FnOk P w K mg base CX0 1 f fd ["thing"] (spIsWord2 K) := by
  refine F.ok scIsWord (fun vs H Q E h => ?_) (fun cdv A outer s H vs Q E hr h => ?_)
  · obtain ⟨v, rfl, _⟩ := h
    rfl
  obtain ⟨v, rfl, h⟩ := h
  refine ⟨_, (pss_one (ps_ret (pe_and (pe_callB call_isi (by rfl) T.z_isinstance (by decide +kernel) (pa_cons (pv 0) (pa_cons (pe_bltn (v := .ty "str") (u := .type "str") (by rfl) T.z_str (by decide +kernel) rfl) pa_nil))) (pe_one (pe_cmpR op_inT (pv 0) (pe_glob (v := .ref aL) rfl T.g_LEFT_OUT rfl) (by first | exact nomark _ | rfl)))))), ?_⟩
  rcases h with ⟨x, hx, rfl, q⟩ | ⟨⟨t, ty, kt⟩ | ⟨x, rfl, hx⟩, q⟩
  · refine ⟨_, rfl, _, _, _, _, true, rfl, .ty _, .base (.str _), kit_ty (by decide +kernel), true, rfl, ?_⟩
    refine ⟨_, rfl, aL, left, Sum.inr x, rfl, rfl, T.tab, ?_⟩
    rw [val_some (k := (Sum.inr x : Key)) (by rw [T.keys]; exact List.mem_map.mpr ⟨x, hx, rfl⟩)]
    exact q
  · exact ⟨_, rfl, _, _, _, _, false, rfl, .ty _, ty, kit_ty kt, false, rfl, iteF q⟩
  · refine ⟨_, rfl, _, _, _, _, true, rfl, .ty _, .base (.str _), kit_ty (by decide +kernel), true, rfl, ?_⟩
    refine ⟨_, rfl, aL, left, Sum.inr x, rfl, rfl, T.tab, ?_⟩
    rw [keys_none (k := (Sum.inr x : Key)) (by
      rw [T.keys]
      intro m
      obtain ⟨y, hy, e⟩ := List.mem_map.mp m
      exact hx (Sum.inr.inj e ▸ hy))]
    exact q
theorem ok_checkGroup {f : Addr} {fd : FuncData} (F : Fun K "check_group" "check_group" sCheckGroup f fd) (T : TP P w K mg aL left) (TCl : TC K mg C) (XN : XN K mg "NoName" CN) : FnOk P w K mg base (L2.CX P w) 1 f fd ["tree", "name"] (spCG K C CN) := by
  refine F.okX scCheckGroup (fun vs H Q E h => ?_) (fun cdv A outer s H vs Q E hr h => ?_)
  · obtain ⟨p, v, rows, h, tk, rfl, _⟩ := h
    rfl
  obtain ⟨p, v, rows, h, tk, rfl, ⟨dx, po, pp, pk, pt, o1, o2, o3, o4, o5, o6⟩, q⟩ := h
  have hu := hu_of hr
  refine ⟨_, (pss_one (ps_if (PW.pt (pw_or (pt_not (pt_val (pe_callB call_isi (by rfl) T.z_isinstance (by decide +kernel) (pa_cons (pv 1) (pa_cons (pe_bltn (v := .ty "str") (u := .type "str") (by rfl) T.z_str (by decide +kernel) rfl) pa_nil))))) (pw_or1 (pt_cmp (pc_dnotin hu (pv 1) (pe_fld (pv 0) rfl)))))) (pss_one (ps_raise rfl (takes_of rfl rfl rfl rfl) (pmk_own PySem.F.excBase_ValueError XN.q XN.g XN.k (raises_own XN.r1 XN.r2) rfl))) pss_nil)), ?_⟩
  rcases q with ⟨x, rfl, hx, q⟩ | ⟨⟨t, ty, kt⟩ | ⟨x, rfl, hx⟩, q⟩
  · refine ⟨_, rfl, _, _, _, _, true, rfl, .ty _, .base (.str _), kit_ty (by decide +kernel), true, rfl, ?_⟩
    refine iteF ?_
    refine ⟨_, rfl, _, rfl, p, C, dx, _, _, rfl, o1, TCl.cl, TCl.n_parents, tf5_parents, pp, _, rfl, DGet.k (k := Sum.inr x) o3, ?_⟩
    rw [par_val, decide_eq_true hx]
    exact ⟨false, rfl, iteF q⟩
  · exact ⟨_, rfl, _, _, _, _, false, rfl, .ty _, ty, kit_ty kt, false, rfl, iteT q⟩
  · refine ⟨_, rfl, _, _, _, _, true, rfl, .ty _, .base (.str _), kit_ty (by decide +kernel), true, rfl, ?_⟩
    refine iteF ?_
    refine ⟨_, rfl, _, rfl, p, C, dx, _, _, rfl, o1, TCl.cl, TCl.n_parents, tf5_parents, pp, _, rfl, DGet.k (k := Sum.inr x) o3, ?_⟩
    rw [par_val, decide_eq_false hx]
    exact ⟨true, rfl, iteT q⟩
theorem ok_tnames {f : Addr} {fd : FuncData} (F : Fun K "names" "Tree.names" sTNames f fd) (T : TP P w K mg aL left) (TCl : TC K mg C) : FnOk P w K mg base CX0 1 f fd ["self"] (spTNames K C) := by
  refine F.ok scTNames (fun vs H Q E h => ?_) (fun cdv A outer s H vs Q E hr h => ?_)
  · obtain ⟨p, rows, h, tk, rfl, _⟩ := h
    rfl
  obtain ⟨p, rows, h, tk, rfl, ⟨dx, po, pp, pk, pt, o1, o2, o3, o4, o5, o6⟩, q⟩ := h
  refine ⟨_, (pss_one (ps_ret (pe_callTy call_list_of (by rfl) T.z_list (by decide +kernel) (pa_cons (pe_fld (pv 0) rfl) pa_nil)))), ?_⟩
  refine ⟨_, rfl, p, C, dx, _, _, rfl, o1, TCl.cl, TCl.n_order, tf5_order, po, _, rfl, .inl (SqL.of o2), fun l hl => ?_⟩
  have := q l hl
  unfold nms at this
  rw [List.map_map] at this
  exact this
theorem ok_thanding {f : Addr} {fd : FuncData} (F : Fun K "handing" "Tree.handing" sTHanding f fd) (TCl : TC K mg C) : FnOk P w K mg base CX0 1 f fd ["self"] (spTHanding K C) := by
  refine F.ok scTHanding (fun vs H Q E h => ?_) (fun cdv A outer s H vs Q E hr h => ?_)
  · obtain ⟨p, rows, h, tk, rfl, _⟩ := h
    rfl
  obtain ⟨p, rows, h, tk, rfl, ⟨dx, po, pp, pk, pt, o1, o2, o3, o4, o5, o6⟩, q⟩ := h
  refine ⟨_, (pss_one (ps_ret (pe_fld (pv 0) rfl))), ?_⟩
  exact ⟨_, rfl, p, C, dx, _, _, rfl, o1, TCl.cl, TCl.n_hands, tf5_hands, q⟩
theorem par_get {rows : List RowM} (nd : (nms rows).Nodup) {r : RowM} (hr : r ∈ rows) : valV (rows.map fun r => ((Sum.inr r.name : Key), V.str r.above)) (Sum.inr r.name) = some (.str r.above) := by
  have nk : ((rows.map fun r => ((Sum.inr r.name : Key), V.str r.above)).map (·.1)).Nodup := by
    have := nodup_inr nd
    unfold nms at this
    rw [List.map_map] at this ⊢
    exact this
  exact val_nd nk ((Sum.inr r.name : Key), V.str r.above) (List.mem_map.mpr ⟨r, hr, rfl⟩)
theorem ok_tabove {f g : Addr} {fd gd : FuncData} (F : Fun K "above" "Tree.above" sTAbove f fd) (TCl : TC K mg C) (cG : CalX P w K mg base "check_group" ["tree", "name"] 1 (spCG K C CN) g gd) : FnOk P w K mg base (L2.CX P w) 2 f fd ["self", "name"] (spTAbove K C CN) := by
  refine F.okX scTAbove (fun vs H Q E h => ?_) (fun cdv A outer s H vs Q E hr h => ?_)
  · obtain ⟨p, v, rows, h, tk, rfl, _⟩ := h
    rfl
  obtain ⟨p, v, rows, h, tk, rfl, ht, nd, q⟩ := h
  have hu := hu_of hr
  refine ⟨_, (pss_cons (ps_expr (pe_call cG.ok (hr.mono (by decide)) rfl cG.mg cG.kp cG.bd .nil (passes_call (takes_of rfl rfl rfl rfl) fun _ _ _ _ h => h) (pa_cons (pv 0) (pa_cons (pv 1) pa_nil)))) (pss_one (ps_ret (pe_dget hu (pe_fld (pv 0) rfl) (pv 1) (fun _ _ => rfl))))), ?_⟩
  rcases q with ⟨r, hrm, rfl, q⟩ | ⟨odd, q⟩
  · refine ⟨_, rfl, _, rfl, p, _, rows, h, tk, rfl, ht, .inl ⟨_, rfl, List.mem_map.mpr ⟨r, hrm, rfl⟩, ?_⟩⟩
    obtain ⟨dx, po, pp, pk, pt, o1, o2, o3, o4, o5, o6⟩ := ht
    exact ⟨_, rfl, p, C, dx, _, _, rfl, o1, TCl.cl, TCl.n_parents, tf5_parents, _, rfl, pp, _, rfl, dget_of o3 (par_get nd hrm), q⟩
  · exact ⟨_, rfl, _, rfl, p, _, rows, h, tk, rfl, ht, .inr ⟨odd, q⟩⟩
theorem kid_get {H : Hp} {pk : Addr} {rows : List RowM} (h : KidsAt H pk rows) (nd : (nms rows).Nodup) (ne : ("" : Str) ∉ nms rows) {x : Str} (hx : x ∈ ("" : Str) :: nms rows) : ∃ l ks, H pk = some (.dK ks) ∧ valV ks (Sum.inr x) = some (.ref l) ∧ H l = some (.lst ((kidsOf rows (Sum.inr x)).map .str)) := by
  obtain ⟨ks, k1, k2, k3⟩ := h
  have hk : (Sum.inr x : Key) ∈ ks.map (·.1) := by
    rw [k2]
    rcases List.mem_cons.mp hx with rfl | m
    · exact List.mem_cons_self
    · obtain ⟨r, hr, rfl⟩ := List.mem_map.mp m
      exact List.mem_cons_of_mem _ (List.mem_map.mpr ⟨r, hr, rfl⟩)
  obtain ⟨kv, hkv, e⟩ := List.mem_map.mp hk
  have nk : (ks.map (·.1)).Nodup := by
    rw [k2]
    refine List.nodup_cons.mpr ⟨fun m => ?_, ?_⟩
    · obtain ⟨r, hr, e⟩ := List.mem_map.mp m
      exact ne (List.mem_map.mpr ⟨r, hr, Sum.inr.inj e⟩)
    · have := nodup_inr nd
      unfold nms at this
      rw [List.map_map] at this
      exact this
  obtain ⟨l, e1, e2⟩ := k3 kv hkv
  have := val_nd nk kv hkv
  rw [e, e1] at this
  rw [e] at e2
  exact ⟨l, ks, k1, this, e2⟩
theorem kid_val {ks : List (Key × V)} {rows : List RowM} (k2 : ks.map (·.1) = (Sum.inr "" : Key) :: rows.map (fun r => (Sum.inr r.name : Key))) (x : Str) : (valV ks (Sum.inr x)).isSome = decide (x ∈ ("" : Str) :: nms rows) := by
  have e : (Sum.inr x : Key) ∈ ks.map (·.1) ↔ x ∈ ("" : Str) :: nms rows := by
    rw [k2, List.mem_cons, List.mem_cons]
    constructor
    · rintro (z | m)
      · exact .inl (Sum.inr.inj z)
      · obtain ⟨r, hr, z⟩ := List.mem_map.mp m
        exact .inr (List.mem_map.mpr ⟨r, hr, Sum.inr.inj z⟩)
    · rintro (rfl | m)
      · exact .inl rfl
      · obtain ⟨r, hr, rfl⟩ := List.mem_map.mp m
        exact .inr (List.mem_map.mpr ⟨r, hr, rfl⟩)
  by_cases c : x ∈ ("" : Str) :: nms rows
  · rw [decide_eq_true c]
    exact val_some (e.mpr c)
  · rw [decide_eq_false c, keys_none fun m => c (e.mp m)]
    rfl
theorem nms_nd {rows : List RowM} (h : RowsOk rows) : (nms rows).Nodup := by
  have := names_nd h rows.length
  rw [List.take_length] at this
  exact this
theorem nms_ne {rows : List RowM} (h : RowsOk rows) : ("" : Str) ∉ nms rows := fun m => by
  obtain ⟨r, hr, e⟩ := List.mem_map.mp m
  obtain ⟨i, hi⟩ := List.mem_iff_getElem?.mp hr
  have := (h i r hi).1.1
  rw [e] at this
  exact absurd this (by decide +kernel)
theorem ok_tkids {f : Addr} {fd : FuncData} (F : Fun K "children" "Tree.children" sTKids f fd) (T : TP P w K mg aL left) (TCl : TC K mg C) (XN : XN K mg "NoName" CN) : FnOk P w K mg base (L2.CX P w) 1 f fd ["self", "name"] (spTKids K C CN) := by
  refine F.okX scTKids (fun vs H Q E h => ?_) (fun cdv A outer s H vs Q E hr h => ?_)
  · obtain ⟨p, v, rows, h, tk, rfl, _⟩ := h
    rfl
  obtain ⟨p, v, rows, h, tk, rfl, ⟨dx, po, pp, pk, pt, o1, o2, o3, o4, o5, o6⟩, ok, q⟩ := h
  have hu := hu_of hr
  refine ⟨_, (pss_cons (ps_if (PW.pt (pw_or (pt_not (pt_val (pe_callB call_isi (by rfl) T.z_isinstance (by decide +kernel) (pa_cons (pv 1) (pa_cons (pe_bltn (v := .ty "str") (u := .type "str") (by rfl) T.z_str (by decide +kernel) rfl) pa_nil))))) (pw_or1 (pt_cmp (pc_dnotin hu (pv 1) (pe_fld (pv 0) rfl)))))) (pss_one (ps_raise rfl (takes_of rfl rfl rfl rfl) (pmk_own PySem.F.excBase_ValueError XN.q XN.g XN.k (raises_own XN.r1 XN.r2) rfl))) pss_nil) (pss_one (ps_ret (pe_callTy call_list_of (by rfl) T.z_list (by decide +kernel) (pa_cons (pe_dget hu (pe_fld (pv 0) rfl) (pv 1) (fun _ _ => rfl)) pa_nil))))), ?_⟩
  obtain ⟨ks, k1, k2, k3⟩ := id o6
  rcases q with ⟨x, rfl, hx, q⟩ | ⟨⟨t, ty, kt⟩ | ⟨x, rfl, hx⟩, q⟩
  · refine ⟨_, rfl, _, _, _, _, true, rfl, .ty _, .base (.str _), kit_ty (by decide +kernel), true, rfl, ?_⟩
    refine iteF ?_
    refine ⟨_, rfl, _, rfl, p, C, dx, _, _, rfl, o1, TCl.cl, TCl.n_kids, tf5_kids, pk, _, rfl, DGet.k (k := Sum.inr x) k1, ?_⟩
    rw [kid_val k2, decide_eq_true hx]
    refine ⟨false, rfl, iteF ?_⟩
    obtain ⟨l, ks', e1, e2, e3⟩ := kid_get o6 (nms_nd ok) (nms_ne ok) hx
    exact ⟨_, rfl, p, C, dx, _, _, rfl, o1, TCl.cl, TCl.n_kids, tf5_kids, _, rfl, pk, _, rfl, dget_of e1 e2, l, _, rfl, .inl (SqL.of e3), q⟩
  · exact ⟨_, rfl, _, _, _, _, false, rfl, .ty _, ty, kit_ty kt, false, rfl, iteT q⟩
  · refine ⟨_, rfl, _, _, _, _, true, rfl, .ty _, .base (.str _), kit_ty (by decide +kernel), true, rfl, ?_⟩
    refine iteF ?_
    refine ⟨_, rfl, _, rfl, p, C, dx, _, _, rfl, o1, TCl.cl, TCl.n_kids, tf5_kids, pk, _, rfl, DGet.k (k := Sum.inr x) k1, ?_⟩
    rw [kid_val k2, decide_eq_false hx]
    exact ⟨true, rfl, iteT q⟩

end
end Bd
end

section
namespace Bd
open PySem L2
section
variable {P : Program} {w : World} {K : PySem.W.Frag} {mg : Str → Option Value} {base : Heap} {aL C CN CW : Addr} {left : List (Key × V)}
theorem kids_empty (rows : List RowM) (x : Str) : ((kidsOf rows (Sum.inr x)).map V.str).isEmpty = !(rows.any fun q => decide (q.above = x)) := by
  have e : ((kidsOf rows (Sum.inr x)).map V.str).isEmpty = (kidsOf rows (Sum.inr x)).isEmpty := by
    cases kidsOf rows (Sum.inr x) <;> rfl
  rw [e]
  unfold kidsOf
  cases z : rows.any fun q => decide (q.above = x) with
  | true =>
    obtain ⟨q, hq, e⟩ := List.any_eq_true.mp z
    have : q ∈ rows.filter fun r => decide ((Sum.inr r.above : Key) = Sum.inr x) := List.mem_filter.mpr ⟨hq, by simpa using e⟩
    cases w : rows.filter fun r => decide ((Sum.inr r.above : Key) = Sum.inr x) with
    | nil =>
      rw [w] at this
      cases this
    | cons a b => rfl
  | false =>
    have : rows.filter (fun r => decide ((Sum.inr r.above : Key) = Sum.inr x)) = [] := List.filter_eq_nil_iff.mpr fun q hq => by
      have := List.any_eq_false.mp z q hq
      simpa using this
    rw [this]
    rfl
theorem up_of {rows : List RowM} (nd : (nms rows).Nodup) {r : RowM} (hr : r ∈ rows) : upOf rows r.name = r.above := by
  unfold upOf
  cases e : rows.find? fun q => decide (q.name = r.name) with
  | none =>
    have := List.find?_eq_none.mp e r hr
    simp at this
  | some q =>
    have h1 := List.mem_of_find?_eq_some e
    have h2 : q.name = r.name := by
      have := List.find?_some e
      simpa using this
    have : q = r := by
      obtain ⟨i, hi⟩ := List.mem_iff_getElem?.mp h1
      obtain ⟨j, hj⟩ := List.mem_iff_getElem?.mp hr
      have li := (List.getElem?_eq_some_iff.mp hi)
      have lj := (List.getElem?_eq_some_iff.mp hj)
      obtain ⟨li, ei⟩ := li
      obtain ⟨lj, ej⟩ := lj
      have : i = j := (List.getElem_inj nd (h₀ := by unfold nms; rw [List.length_map]; exact li) (h₁ := by unfold nms; rw [List.length_map]; exact lj)).mp (by
        unfold nms
        rw [List.getElem_map, List.getElem_map, ei, ej, h2])
      subst this
      rw [← ei, ej]
    rw [this]
    rfl
theorem ok_tdue {f g e : Addr} {fd gd ed : FuncData} (F : Fun K "due" "Tree.due" sTDue f fd) (TCl : TC K mg C) (XW : XN K mg "NoWord" CW) (cG : CalX P w K mg base "check_group" ["tree", "name"] 1 (spCG K C CN) g gd) (cW : Cal P w K mg base "is_word" ["thing"] 1 (spIsWord2 K) e ed) :
    FnOk P w K mg base (L2.CX P w) 2 f fd ["self", "name", "word"] (spTDue K C CN CW) := by
  refine F.okX scTDue (fun vs H Q E h => ?_) (fun cdv A outer s H vs Q E hr h => ?_)
  · obtain ⟨p, v, wv, rows, h, tk, rfl, _⟩ := h
    rfl
  obtain ⟨p, v, wv, rows, h, tk, rfl, ht, nd, q⟩ := h
  have hu := hu_of hr
  refine ⟨_, (pss_cons (ps_expr (pe_call cG.ok (hr.mono (by decide)) rfl cG.mg cG.kp cG.bd .nil (passes_call (takes_of rfl rfl rfl rfl) fun _ _ _ _ h => h) (pa_cons (pv 0) (pa_cons (pv 1) pa_nil)))) (pss_cons (ps_if (pt_not (pt_val (pe_call cW.ok (hr.mono (by decide)) rfl cW.mg cW.kp cW.bd .nil pass0 (pa_cons (pv 2) pa_nil)))) (pss_one (ps_raise rfl (takes_of rfl rfl rfl rfl) (pmk_own PySem.F.excBase_ValueError XW.q XW.g XW.k (raises_own XW.r1 XW.r2) rfl))) pss_nil) (pss_one (ps_ret (pe_dget hu (pe_dget hu (pe_fld (pv 0) rfl) (pv 1) (fun _ _ => rfl)) (pv 2) (fun _ _ => rfl)))))), ?_⟩
  rcases q with ⟨r, hrm, rfl, q⟩ | ⟨odd, q⟩
  · refine ⟨_, rfl, _, rfl, p, _, rows, h, tk, rfl, ht, .inl ⟨_, rfl, List.mem_map.mpr ⟨r, hrm, rfl⟩, ?_⟩⟩
    obtain ⟨dx, po, pp, pk, pt, o1, o2, o3, o4, o5, o6⟩ := ht
    rcases q with ⟨x, hx, rfl, q⟩ | ⟨odd, q⟩
    · refine ⟨_, rfl, _, rfl, .inl ⟨x, hx, rfl, true, rfl, iteF ?_⟩⟩
      obtain ⟨kv, hkv, hk1, d, hk2, fk, fk1, fk2⟩ := paired_of o5 r hrm
      have nt : (tk.map (·.1)).Nodup := by
        rw [td_keys (fun _ _ z => z.1) o5]
        have := nodup_inr nd
        unfold nms at this
        rw [List.map_map] at this
        exact this
      have g1 : valV tk (Sum.inr r.name : Key) = some (.ref d) := by
        have := val_nd nt kv hkv
        rw [hk1, hk2] at this
        exact this
      obtain ⟨u, du, g2, g3, g4⟩ : ∃ u du, valV fk (Sum.inr x : Key) = some u ∧ dueOf (fullD r.dues) x = some du ∧ Dp K H u du := by
        rcases val_due x fk2 with ⟨_, z⟩ | ⟨u, d2, z1, z2, z3⟩
        · exfalso
          unfold fullD at z
          unfold dueOf at z
          rw [Option.map_eq_none_iff, List.find?_eq_none] at z
          rw [← leftD_words] at hx
          obtain ⟨wd, h1, h2⟩ := List.mem_map.mp hx
          exact z _ (List.mem_map.mpr ⟨wd, h1, rfl⟩) (by simpa using h2)
        · exact ⟨u, d2, z1, z2, z3⟩
      exact ⟨_, rfl, p, C, dx, _, _, rfl, o1, TCl.cl, TCl.n_table, tf5_table, _, rfl, pt, _, rfl, dget_of o4 g1, _, rfl, d, _, rfl, dget_of fk1 g2, q u du g3 g4⟩
    · exact ⟨_, rfl, _, rfl, .inr ⟨odd, false, rfl, iteT q⟩⟩
  · exact ⟨_, rfl, _, rfl, p, _, rows, h, tk, rfl, ht, .inr ⟨odd, q⟩⟩
end
end Bd
end

section
namespace Bd
open PySem L2
abbrev sNames2 : Stmt := (top 48)
theorem scNames2 : FnScope ["_law_source_here", "_law_many", "_law_some", "_law_found", "_law_turn"] ["_law_source_here", "_law_many"] (defScope sNames2) := ⟨rfl, rfl, rfl, by decide +kernel, rfl, by decide +kernel, by decide +kernel⟩
def menu : List Str := ["a", "b", "c", "d", "e", "f", "g", "h", "k", "m", "pit", "shed", "tenletters", "zz"]
def spNames2 : Sp := fun vs H Q _ => ∃ (s : Addr) (m : Nat), vs = [.ref s, .int (m : Int)] ∧ Src H s ∧ m ≤ 12 ∧
  ∀ r H' (xs : List Str), H r = none → H' r = some (.lst (xs.map .str)) → xs.Nodup → (∀ x ∈ xs, x ∈ menu) → xs.length = m → Src H' s → Kept s H H' → Q (.ref r) H'
section
variable {P : Program} {w : World} {K : PySem.W.Frag} {mg : Str → Option Value} {base : Heap}
theorem src_ne {H : Hp} {p r : Addr} (h : Src H p) (hr : H r = none) : p ≠ r := by
  obtain ⟨_, _, _, h⟩ := h
  exact ne_of_none h hr
theorem src_new {H : Hp} {p r : Addr} {o : HO} (h : Src H p) (hr : H r = none) : Src (upd H r o) p := by
  have n := src_ne h hr
  obtain ⟨x, y, z, h⟩ := h
  exact ⟨x, y, z, by rw [upd_ne n]; exact h⟩
theorem src_upd {H : Hp} {p r : Addr} {o : HO} (h : Src H p) (hr : p ≠ r) : Src (upd H r o) p := by
  obtain ⟨x, y, z, h⟩ := h
  exact ⟨x, y, z, by rw [upd_ne hr]; exact h⟩
theorem seq_nat {k n : Nat} (h : k < n) : seqIndex? (k : Int) n = some k := by
  rw [seqIndex_of (by omega) (by omega)]
  rfl
theorem map_erase {α β : Type} (f : α → β) : ∀ (xs : List α) (i : Nat), (xs.map f).eraseIdx i = (xs.eraseIdx i).map f
  | [], _ => rfl
  | x :: xs, 0 => rfl
  | x :: xs, i + 1 => by
    rw [List.map_cons, List.eraseIdx_cons_succ, List.eraseIdx_cons_succ, List.map_cons, map_erase f xs i]
theorem perm_erase {α : Type} : ∀ (ys : List α) (k : Nat) (h : k < ys.length), (ys[k] :: ys.eraseIdx k).Perm ys
  | y :: ys, 0, _ => List.Perm.refl _
  | y :: ys, k + 1, h => by
    rw [List.eraseIdx_cons_succ, List.getElem_cons_succ]
    exact (List.Perm.swap _ _ _).trans ((perm_erase ys k (by simpa using h)).cons y)
theorem ok_names2 {f g : Addr} {fd gd : FuncData} (F : Fun K "_law_names" "_law_names" sNames2 f fd) (T : TA mg) (cN : Cal P w K mg base "_law_next" ["_law_source_here", "_law_many"] 2 spNext g gd) : FnOk P w K mg base CX0 3 f fd ["_law_source_here", "_law_many"] spNames2 := by
  refine F.ok scNames2 (fun vs H Q E h => ?_) (fun cdv A outer s H vs Q E hr h => ?_)
  · obtain ⟨p, m, rfl, _⟩ := h
    rfl
  obtain ⟨p, m, rfl, hp, hm, q⟩ := h
  refine ⟨_, (pss_cons (ps_set (i := 2) scNames2.nd rfl (Or.inl rfl) (pe_lst (pa_cons pe_str (pa_cons pe_str (pa_cons pe_str (pa_cons pe_str (pa_cons pe_str (pa_cons pe_str (pa_cons pe_str (pa_cons pe_str (pa_cons pe_str (pa_cons pe_str (pa_cons pe_str (pa_cons pe_str (pa_cons pe_str (pa_cons pe_str pa_nil)))))))))))))))) (pss_cons (ps_set (i := 3) scNames2.nd rfl (Or.inl rfl) (pe_lst pa_nil)) (pss_cons (ps_for PassesOwn.never rfl (pi_range1 rfl T.z_range (pa_cons (pv 1) pa_nil)) (pg_name (i := 4) scNames2.nd rfl (Or.inl rfl)) (pss_one (ps_expr (pe_bm PySem.F.plainAttrs_list PySem.F.slot_list_append PySem.F.type_list_append mt_append (pv 3) (pa_cons (pe_bm PySem.F.plainAttrs_list PySem.F.slot_list_pop PySem.F.type_list_pop mt_popAt (pv 2) (pa_cons (pe_call cN.ok (hr.mono (by decide)) rfl cN.mg cN.kp cN.bd .nil pass0 (pa_cons (pv 0) (pa_cons (pe_callB call_len_seq (by rfl) T.z_len PySem.boot_len (pa_cons (pv 2) pa_nil)) pa_nil))) pa_nil)) pa_nil))))) (pss_one (ps_ret (pv 3)))))), ?_⟩
  refine ⟨by show 14 ≤ sizeLine; decide, fun a ha => ?_⟩
  refine ⟨Nat.zero_le _, fun r hr' => ?_⟩
  obtain ⟨nra, hr0⟩ := none_upd hr'
  have npa := src_ne hp ha
  have npr := src_ne hp hr0
  refine ⟨_, rfl, _, rfl, ?_, ?_, for_range (n := m) (fun i σ H' => ∃ (o : Option V) (xs ys : List Str), σ = [some (.ref p), some (.int (m : Int)), some (.ref a), some (.ref r), o] ∧ Src H' p ∧ Kept p H H' ∧ H' a = some (.lst (ys.map .str)) ∧ H' r = some (.lst (xs.map .str)) ∧ (xs ++ ys).Perm menu ∧ xs.length = i)
    ⟨none, [], menu, rfl, src_new (src_new hp ha) hr', ((Kept.refl p H).new ha _).new hr' _, by rw [upd_ne nra.symm]; exact upd_same, upd_same, List.Perm.refl _, rfl⟩ ?_ ?_⟩
  · omega
  · omega
  · rintro i σ H1 hi ⟨o, xs, ys, rfl, hs, k1, ea, er, hperm, hlen⟩
    have l14 : (xs ++ ys).length = 14 := hperm.length_eq
    rw [List.length_append] at l14
    have yl : (ys.map V.str).length = ys.length := List.length_map _
    refine ⟨_, rfl, .inl ⟨rfl, _, SqL.of er⟩, _, rfl, .inl ⟨rfl, _, SqL.of ea⟩, _, rfl, _, rfl, a, _, rfl, .inl (SqL.of ea), p, (ys.map V.str).length, rfl, hs, by omega, by omega, fun k H2 hk hs2 kk => ?_⟩
    have ea2 := kk a _ npa.symm ea
    have er2 := kk r _ npr.symm er
    have hk' : k < ys.length := by omega
    have hy : (ys.map V.str)[k]? = some (V.str ys[k]) := by rw [List.getElem?_map, List.getElem?_eq_getElem hk']; rfl
    refine ⟨a, _, (k : Int), k, V.str ys[k], rfl, rfl, ea2, by omega, by omega, seq_nat (by omega), hy, r, _, _, rfl, rfl, (upd_ne nra).trans er2, ?_, ?_⟩
    · rw [List.length_map]
      exact small1000 (by omega)
    · refine ⟨_, xs ++ [ys[k]], ys.eraseIdx k, rfl, src_upd (src_upd hs2 npa) npr, ?_, ?_, ?_, ?_, ?_⟩
      · intro b2 o2 hb e
        have e1 := k1 b2 o2 hb e
        have e2 := kk b2 o2 hb e1
        rw [upd_ne (ne_of_none e hr0), upd_ne (ne_of_none e ha)]
        exact e2
      · rw [upd_ne nra.symm, upd_same, map_erase]
      · rw [upd_same, List.map_append]
        rfl
      · refine List.Perm.trans ?_ hperm
        rw [List.append_assoc]
        exact (List.perm_append_left_iff xs).mpr (perm_erase ys k hk')
      · rw [List.length_append, hlen]
        rfl
  · rintro σ H1 ⟨o, xs, ys, rfl, hs, k1, ea, er, hperm, hlen⟩
    have nd : (xs ++ ys).Nodup := hperm.nodup_iff.mpr (by decide +kernel)
    exact ⟨_, rfl, q r H1 xs hr0 er (List.nodup_append.mp nd).1 (fun x hx => hperm.mem_iff.mp (List.mem_append_left _ hx)) hlen hs k1⟩

end
end Bd
end

section
namespace Bd
open PySem L2 PySem.Spec PyProof.Rows
/-- the answer of looking up each pair of one dict in another, by the answers at the values -/
inductive HitsV (F : V → V → Bool → Prop) (ls : List (Key × V)) : List (Key × V) → Bool → Prop
  | nil : HitsV F ls [] true
  | miss {k : Key} {v : V} {r : List (Key × V)} : valV ls k = none → HitsV F ls ((k, v) :: r) false
  | hit {k : Key} {v y : V} {r : List (Key × V)} {e b : Bool} : valV ls k = some y → F v y e → HitsV F ls r b → HitsV F ls ((k, v) :: r) (e && b)
/-- x == y is r: data, or dicts of such, n deep -/
def EqF (K : PySem.W.Frag) (H : Hp) : Nat → V → V → Bool → Prop
  | 0 => fun x y r => ∃ d e, Dp K H x d ∧ Dp K H y e ∧ SeqAt.shaped d = true ∧ SeqAt.shaped e = true ∧ r = PyData.eqv d e
  | n + 1 => fun x y r => ∃ (a b : Addr), x = .ref a ∧ y = .ref b ∧ ((a = b ∧ r = true) ∨ (a ≠ b ∧ ∃ ks ls q, H a = some (.dK ks) ∧ H b = some (.dK ls) ∧ (ks.length = ls.length → HitsV (EqF K H n) ls ks q) ∧ r = (ks.length == ls.length && q)))
theorem hits_runV {P : Program} {w : World} {A : Around} {s : Shared} {F : V → V → Bool → Prop} (ih : ∀ x y v u r, F x y r → RelV x v → RelV y u → SeqAt.EqP P w A s v u r) {ls : List (Key × V)} {vb : List (Key × Value)} (rb : KV ls vb) {ks : List (Key × V)} {b : Bool} (h : HitsV F ls ks b) :
    ∀ {va : List (Key × Value)}, KV ks va → PySem.W.KeqHitsP P w A s vb va b := by
  induction h with
  | nil =>
    intro va ra
    cases ra
    exact .nil
  | @miss k v r hn =>
    intro va ra
    cases ra with
    | cons h1 t =>
      rename_i q qs
      obtain ⟨h1, h2⟩ := h1
      obtain ⟨k2, v2⟩ := q
      have h1 : k = k2 := h1
      subst h1
      have rr := rb.val k
      rw [hn] at rr
      refine .miss ?_
      cases z : valueAt vb k with
      | none => rfl
      | some y =>
        rw [z] at rr
        exact (show False from rr).elim
  | @hit k v y r e b hy hf hr k3 =>
    intro va ra
    cases ra with
    | cons h1 t =>
      rename_i q qs
      obtain ⟨h1, h2⟩ := h1
      obtain ⟨k2, v2⟩ := q
      have h1 : k = k2 := h1
      subst h1
      have rr := rb.val k
      rw [hy] at rr
      obtain ⟨z, hz, rz⟩ := rr.some_of
      exact .hit hz (ih _ _ _ _ _ hf h2 rz) (k3 t)
section
variable {X : Cx} {pins : List (Addr × Obj)} {σ : L2.St} {H : Hp} {s : Shared}
theorem eqF_run (I : Inv X pins σ H s) : ∀ (n : Nat) (A : Around), A.units + n + 65 < cLine → ∀ (x y : V) (v u : Value) (r : Bool), EqF X.K H n x y r → RelV x v → RelV y u → SeqAt.EqP X.prog X.w A s v u r
  | 0, A, hu, x, y, v, u, r, h, rx, ry => by
    obtain ⟨d, e, hd, he, sd, se, rfl⟩ := h
    obtain ⟨as, r1⟩ := Dp.reads I d x v hd rx
    obtain ⟨bs, r2⟩ := Dp.reads I e y u he ry
    exact (SeqAt.eqAt_reads d e A s v u as bs r1 r2 (SeqAt.canLay_of_shaped sd) (SeqAt.canLay_of_shaped se) (SeqAt.room_of_shaped sd (by omega))).eqP
  | n + 1, A, hu, x, y, v, u, r, h, rx, ry => by
    obtain ⟨a, b, rfl, rfl, h⟩ := h
    cases (show v = Value.ref a from rx)
    cases (show u = Value.ref b from ry)
    rcases h with ⟨rfl, rfl⟩ | ⟨hab, ks, ls, q, ha, hb, hits, rfl⟩
    · exact (SeqAt.EqAt.same _).eqP
    · refine SeqAt.eqP_refs hab fun E Q hq => ?_
      obtain ⟨_, ya, va, ra, da⟩ := (show ObjOk X.prog X.w H s.heap a (.dK ks) from I.hok a _ ha)
      obtain ⟨_, yb, vb, rb, db⟩ := (show ObjOk X.prog X.w H s.heap b (.dK ls) from I.hok b _ hb)
      refine PySem.W.rcP_dicts (knd := mixKind X.prog X.w) (r := q) ya yb da db (by omega) (fun hl => hits_runV (eqF_run I n A.in1 (by show A.units + 1 + n + 65 < cLine; omega)) rb (hits (by rw [ra.length, rb.length]; exact hl)) ra) E Q ?_
      rw [← ra.length, ← rb.length]
      exact hq
end
section
variable {X : Cx}
theorem op_eqF (hu : X.A.units + 100 < cLine) : OpR X (compareOp .Eq) (fun x y H Q => ∃ (a b : Addr) (ks ls : List (Key × V)) (q : Bool) (n : Nat), n ≤ 10 ∧ x = .ref a ∧ y = .ref b ∧ H a = some (.dK ks) ∧ H b = some (.dK ls) ∧ (ks.length = ls.length → HitsV (EqF X.K H n) ls ks q) ∧ Q (.bl (ks.length == ls.length && q)) H) := by
  intro pins s σ H x y v u Q I rx ry h
  obtain ⟨a, b, ks, ls, q, n, hn, rfl, rfl, ha, hb, hits, hq⟩ := h
  cases (show v = Value.ref a from rx)
  cases (show u = Value.ref b from ry)
  obtain ⟨_, ya, va, ra, da⟩ := (show ObjOk X.prog X.w H s.heap a (.dK ks) from I.hok a _ ha)
  obtain ⟨_, yb, vb, rb, db⟩ := (show ObjOk X.prog X.w H s.heap b (.dK ls) from I.hok b _ hb)
  refine PySem.W.rcP_dicts (knd := mixKind X.prog X.w) (r := q) ya yb da db (by omega) (fun hl => hits_runV (eqF_run I n X.A.in1 (by show X.A.units + 1 + n + 65 < cLine; omega)) rb (hits (by rw [ra.length, rb.length]; exact hl)) ra) _ _ ?_
  rw [← ra.length, ← rb.length]
  exact ⟨.bl _, H, I, rfl, hq⟩
end
end Bd
end

section
namespace Bd
open PySem L2 PySem.Spec PyProof.Rows
section
variable {prog : Program} {w : World} {A : Around} {E : Value → Shared → Prop} {s : Shared} {K : PySem.W.Frag} {x C f : Addr} {ox : Obj} {od : Option Obj} {b tb : Value}
theorem ne_bound {M : Model} {Q : Option Value → Shared → Prop} (X : K.In s.heap) (I : PySem.W.InstAt s.heap x ox C od) (hne : PySem.W.findIn K (.ref C) "__ne__" = some (some (.builtin "object.__ne__")))
    (h : wpAny M A (call (.builtin "object.__ne__") [.ref x, b]) (fun v => Q (some v)) E s) : wpAny M A (callSpecialIfBound? (.ref x) "__ne__" [b]) Q E s := by
  simp only [callSpecialIfBound?, bindSpecialIfBound?]
  refine wpAny_holding (wpAny_bind (wpAny_bind (wpAny_bind (I.type.here ((PySem.W.looks_findIn X hne).here ?_)))))
  simp only [PySem.F.cmp_object.ne.bind]
  refine wpAny_bind (wpAny_askSetting (wpAny_ite ?_))
  have fin : wpAny M A (call (.builtin "object.__ne__") ([.ref x] ++ [b]) >>= fun v => pure (some v)) Q E s := wpAny_bind (wpAny_mono h (fun v s' h' => wpAny_pure h') fun _ _ h' => h')
  split
  · exact wpAny_bind (wpAny_pure (wpAny_pure fin))
  · exact wpAny_tryCatch (wpAny_bind (wpAny_pure (wpAny_pure fin)))
theorem ne_check {M : Model} {Q : Unit → Shared → Prop} (X : K.In s.heap) (I : PySem.W.InstAt s.heap x ox C od) (hob : PySem.W.subIn K (.ref C) (.type "object") = some true) (q : Q () s) :
    wpAny M A (checkBuiltinCall "object.__ne__" ⟨[.ref x, b], []⟩) Q E s := by
  simp only [checkBuiltinCall, PySem.F.cmpKind_ne, PySem.F.cmpSplit_ne]
  refine wpAny_bind ?_
  unfold isInstance
  refine wpAny_bind (I.type.here ((PySem.W.looks_subIn X hob).here ?_))
  have ha : argsOk "object.__ne__" ⟨[.ref x, b], []⟩ := PySem.F.cmpArgs_ne _ _
  rw [if_neg (by decide)]
  cases hsig : Manifest.signature? "object.__ne__" with
  | none => exact wpAny_pure q
  | some sig =>
    simp only [argsOk, hsig] at ha
    have h2 : Bind.checkArgs "object.__ne__" sig ⟨[.ref x, b], []⟩ = pure () := ha
    show wpAny M A (Bind.checkArgs "object.__ne__" sig ⟨[.ref x, b], []⟩) Q E _
    rw [h2]
    exact wpAny_pure q
theorem ne_run {Q : Fin → Shared → Prop} (hu : A.units < cLine) (X : K.In s.heap) (I : PySem.W.InstAt s.heap x ox C od) (hs : PySem.W.findIn K (.ref C) "__eq__" = some (some (.ref f))) (hf : PySem.W.isFn K (.ref f) = true)
    (h : wpAny (model prog w) A (call (.ref f) [.ref x, b]) (fun v s' => ∃ r, v = .bool r ∧ Q (.done (.ret (.bool (!r)))) s') E s) :
    wpAny (model prog w) A (Builtin.«object.__ne__» ⟨[.ref x, b], []⟩) Q E s := by
  obtain ⟨hp, g, d, t, os⟩ := s
  unfold Builtin.«object.__ne__»
  repeat (first
    | with_reducible refine wpAny_cRoomFor hu ?_
    | (refine wpAny_bind (m := callSpecialIfBound? (.ref x) (Str.ofString "__eq__") [b])
        (PySem.W.ifBound_K X I hs hf (wpAny_mono h (fun v s' hr => by
          obtain ⟨r, rfl, hq⟩ := hr
          repeat (first | exact hq | exact wpAny_pure hq | exact wpAny_truthy_bool hq | (refine wpAny_bind (m := truthy (.bool _)) (wpAny_truthy_bool ?_)) | wp_step)) fun _ _ e => e)))
    | wp_step)
theorem ne_K {Q : Value → Shared → Prop} (hu : A.units + 1 < cLine) (X : K.In s.heap) (I : PySem.W.InstAt s.heap x ox C od) (hb : PySem.W.Looks (model prog w) s.heap (typeOf b) tb) (hn : PySem.W.notFirst K C tb = true)
    (hne : PySem.W.findIn K (.ref C) "__ne__" = some (some (.builtin "object.__ne__"))) (hob : PySem.W.subIn K (.ref C) (.type "object") = some true)
    (hs : PySem.W.findIn K (.ref C) "__eq__" = some (some (.ref f))) (hf : PySem.W.isFn K (.ref f) = true)
    (h : wpAny (model prog w) A.in1 (call (.ref f) [.ref x, b]) (fun v s' => ∃ r, v = .bool r ∧ Q (.bool (!r)) s') E s) : wpAny (model prog w) A (richCompare .NotEq (.ref x) b) Q E s := by
  have one : wpAny (model prog w) A (tryCompare (.ref x) "__ne__" b) (fun r s' => ∃ v, r = some v ∧ Q v s') E s := by
    simp only [tryCompare]
    refine wpAny_bind (ne_bound X I hne (wpAny_call (codeAny_call_builtin PySem.F.cmp_object.ne.plain PySem.F.cmpEntry_ne (ne_check X I hob (ne_run (A := A.in1) (by show A.units + 1 < cLine; exact hu) X I hs hf (wpAny_mono h (fun v s' hv => ?_) fun _ _ e => e))))))
    obtain ⟨r, rfl, hq⟩ := hv
    first | exact ⟨r, rfl, wpAny_pure ⟨_, rfl, hq⟩⟩ | exact ⟨r, rfl, wpAny_pure (wpAny_pure ⟨_, rfl, hq⟩)⟩ | exact ⟨r, rfl, _, rfl, hq⟩
  unfold richCompare
  simp only [oneThing_ref]
  refine wpAny_holding (wpAny_bind (wpAny_cRoomFor (Nat.lt_of_succ_lt hu) ?_))
  rw [cmpInfo_NotEq]
  dsimp only
  refine wpAny_bind (I.type.here (wpAny_bind (hb.here ?_)))
  split
  · rename_i q
    have e : PySem.W.subIn K tb (.ref C) = some false := by
      rcases Bool.or_eq_true_iff.mp hn with e | e
      · rw [beq_iff_eq.mp e] at q
        simp at q
      · exact beq_iff_eq.mp e
    refine wpAny_bind ((PySem.W.looks_subIn X e).here ?_)
    simp only [Bool.false_eq_true, if_false]
    refine wpAny_bind (wpAny_mono one (fun r s' z => ?_) fun _ _ e => e)
    obtain ⟨v, rfl, hq⟩ := z
    exact wpAny_pure hq
  · refine wpAny_bind (wpAny_pure ?_)
    simp only [Bool.false_eq_true, if_false]
    refine wpAny_bind (wpAny_mono one (fun r s' z => ?_) fun _ _ e => e)
    obtain ⟨v, rfl, hq⟩ := z
    exact wpAny_pure hq
end
end Bd
end

section
namespace Bd
open PySem L2 PySem.Spec PyProof.Rows
section
variable {prog : Program} {w : World} {A : Around} {E : Value → Shared → Prop} {s : Shared} {K : PySem.W.Frag} {x C dx f : Addr} {ox : Obj} {od : Option Obj} {b tb : Value}
theorem dec_none : wpAny (model prog w) A (call (.builtin "NoneType.__eq__") [.none, .ref x]) (fun v s1 => v = .notImplemented ∧ s1 = s) E s := by
  refine wpAny_call_entry PySem.F.slot_NoneType_eq rfl PySem.F.entry_NoneType_eq ?_ (PySem.F.args_NoneType_eq_2 _ _)
  obtain ⟨hp, g, d, tk, os⟩ := s
  wp_walk
  exact ⟨_, rfl, rfl, rfl⟩
theorem dec_int {i : Int} {t : Tok} (hx : s.heap.get? x = some (PySem.W.instObj C dx)) : wpAny (model prog w) A (call (.builtin "int.__eq__") [.int i t, .ref x]) (fun v s1 => v = .notImplemented ∧ s1 = s) E s := by
  refine wpAny_call_entry PySem.F.slot_int_eq (typeIs_int s i t) PySem.F.entry_int_eq ?_ (PySem.F.args_int_eq_2 _ _)
  obtain ⟨hp, g, d, tk, os⟩ := s
  wp_walk using AutoSeq1.wpAny_loadPart' hx
  exact ⟨_, rfl, rfl, rfl⟩
theorem dec_str {i : Str} {t : Tok} (hx : s.heap.get? x = some (PySem.W.instObj C dx)) : wpAny (model prog w) A (call (.builtin "str.__eq__") [.str i t, .ref x]) (fun v s1 => v = .notImplemented ∧ s1 = s) E s := by
  refine wpAny_call_entry PySem.F.slot_str_eq (typeIs_str s i t) PySem.F.entry_str_eq ?_ (PySem.F.args_str_eq_2 _ _)
  obtain ⟨hp, g, d, tk, os⟩ := s
  wp_walk using AutoSeq1.wpAny_loadPart' hx
  exact ⟨_, rfl, rfl, rfl⟩
theorem not_inst {M : Model} {T : String} {Q : Bool → Shared → Prop} (X : K.In s.heap) (I : PySem.W.InstAt s.heap x ox C od) (hsub : PySem.W.subIn K (.ref C) (.type T) = some false) (q : Q false s) : wpAny M A (isInstance (.ref x) (.type T)) Q E s := by
  unfold isInstance
  exact wpAny_bind (I.type.here ((PySem.W.looks_subIn X hsub).here q))
theorem dec_list {l : Addr} (hl : s.TypeIs (.ref l) "list") (X : K.In s.heap) (I : PySem.W.InstAt s.heap x ox C od) (hsub : PySem.W.subIn K (.ref C) (.type "list") = some false) :
    wpAny (model prog w) A (call (.builtin "list.__eq__") [.ref l, .ref x]) (fun v s1 => v = .notImplemented ∧ s1 = s) E s := by
  refine wpAny_call_entry PySem.F.slot_list_eq hl PySem.F.entry_list_eq ?_ (PySem.F.args_list_eq_2 _ _)
  obtain ⟨hp, g, d, tk, os⟩ := s
  unfold Builtin.«list.__eq__»
  repeat (first
    | (refine wpAny_bind (m := isInstance (.ref x) (.type "list")) (not_inst X I hsub ?_))
    | wp_step)
  exact ⟨_, rfl, rfl, rfl⟩
theorem dec_tup {l : Addr} (hl : s.TypeIs (.ref l) "tuple") (X : K.In s.heap) (I : PySem.W.InstAt s.heap x ox C od) (hsub : PySem.W.subIn K (.ref C) (.type "tuple") = some false) :
    wpAny (model prog w) A (call (.builtin "tuple.__eq__") [.ref l, .ref x]) (fun v s1 => v = .notImplemented ∧ s1 = s) E s := by
  refine wpAny_call_entry PySem.F.slot_tuple_eq hl PySem.F.entry_tuple_eq ?_ (PySem.F.args_tuple_eq_2 _ _)
  obtain ⟨hp, g, d, tk, os⟩ := s
  unfold Builtin.«tuple.__eq__»
  repeat (first
    | (refine wpAny_bind (m := isInstance (.ref x) (.type "tuple")) (not_inst X I hsub ?_))
    | wp_step)
  exact ⟨_, rfl, rfl, rfl⟩
theorem eq_right {v : Value} {T id : String} {Q : Value → Shared → Prop} (hu : A.units < cLine) (X : K.In s.heap) (I : PySem.W.InstAt s.heap x ox C od) (hv : s.TypeIs v T) (h1 : Slot T (cmpInfo .Eq).2.1 id) (hone : oneThing? .Eq v (.ref x) = none)
    (hsub : PySem.W.subIn K (.ref C) (.type T) = some false) (hdec : wpAny (model prog w) A (call (.builtin id) [v, .ref x]) (fun r s1 => r = .notImplemented ∧ s1 = s) E s)
    (hs : PySem.W.findIn K (.ref C) "__eq__" = some (some (.ref f))) (hf : PySem.W.isFn K (.ref f) = true)
    (h : wpAny (model prog w) A (call (.ref f) [.ref x, v]) (PySem.W.CmpBack Q) E s) : wpAny (model prog w) A (richCompare .Eq v (.ref x)) Q E s := by
  have two : wpAny (model prog w) A (tryCompare (.ref x) "__eq__" v) (fun r s' => ∃ z, r = some z ∧ Q z s') E s := by
    unfold tryCompare
    refine wpAny_bind (PySem.W.ifBound_K X I hs hf (wpAny_mono h (fun z s' hz => ?_) fun _ _ e => e))
    cases z <;> first | exact hz.elim | exact wpAny_pure ⟨_, rfl, hz⟩
  unfold richCompare
  rw [hone]
  refine wpAny_holding (wpAny_bind (wpAny_cRoomFor hu ?_))
  have hi : cmpInfo CmpOp.Eq = (("==" : String), ("__eq__" : Str), ("__eq__" : Str)) := rfl
  rw [hi] at h1 ⊢
  dsimp only at h1 ⊢
  refine wpAny_bind (wpAny_typeOf hv (wpAny_bind (I.type.here ?_)))
  rw [show (Value.type T != Value.ref C) = true from rfl]
  rw [if_pos rfl]
  refine wpAny_bind ((PySem.W.looks_subIn X hsub).here ?_)
  simp only [Bool.false_eq_true, if_false, Bool.not_false, if_true]
  refine wpAny_bind (m := tryCompare v _ (.ref x)) (wpAny_tryCompare_declines hv h1 (wpAny_mono hdec (fun r s1 hr => ⟨hr.1, ?_⟩) fun _ _ e => e))
  obtain ⟨rfl, rfl⟩ := hr
  refine wpAny_bind (wpAny_mono two (fun r s' z => ?_) fun _ _ e => e)
  obtain ⟨z, rfl, hq⟩ := z
  exact wpAny_pure hq
end
/-- what of the class the comparisons ask -/
structure OwnCmp (K : PySem.W.Frag) (C f : Addr) : Prop where
  eq : PySem.W.findIn K (.ref C) "__eq__" = some (some (.ref f))
  fn : PySem.W.isFn K (.ref f) = true
  ne : PySem.W.findIn K (.ref C) "__ne__" = some (some (.builtin "object.__ne__"))
  ob : PySem.W.subIn K (.ref C) (.type "object") = some true
  li : PySem.W.subIn K (.ref C) (.type "list") = some false
  tu : PySem.W.subIn K (.ref C) (.type "tuple") = some false
  st : PySem.W.subIn K (.ref C) (.type "str") = some false
  it : PySem.W.subIn K (.ref C) (.type "int") = some false
  nt : PySem.W.subIn K (.ref C) (.type "NoneType") = some false
  li' : PySem.W.subIn K (.type "list") (.ref C) = some false
  tu' : PySem.W.subIn K (.type "tuple") (.ref C) = some false
  st' : PySem.W.subIn K (.type "str") (.ref C) = some false
  it' : PySem.W.subIn K (.type "int") (.ref C) = some false
  nt' : PySem.W.subIn K (.type "NoneType") (.ref C) = some false
/-- things an instance is compared with -/
inductive YTy (K : PySem.W.Frag) (H : Hp) (C : Addr) : V → Prop
  | non : YTy K H C .non
  | int (i : Int) : YTy K H C (.int i)
  | str (i : Str) : YTy K H C (.str i)
  | lst {a : Addr} {xs : List V} : SqL K H a xs → YTy K H C (.ref a)
  | tup {a : Addr} {xs : List V} : SqT K H a xs → YTy K H C (.ref a)
  | ins {a dx : Addr} {fs : List (Str × V)} : H a = some (.ins C dx fs) → YTy K H C (.ref a)
section
variable {X : Cx} {pins : List (Addr × Obj)} {σ : L2.St} {H : Hp} {s : Shared} {C f : Addr}
theorem looks_ty {M : Model} {h : Heap} {a : Addr} {T : String} {o : Obj} (ho : h.get? a = some o) (hc : o.cls = .type T) : PySem.W.Looks M h (typeOf (.ref a)) (.type T) := fun _ _ _ s k q => wpAny_typeOf (s := s) ⟨o, k _ _ ho, hc⟩ q
theorem yty_look (O : OwnCmp X.K C f) (I : Inv X pins σ H s) {y : V} {u : Value} (t : YTy X.K H C y) (r : RelV y u) : ∃ tb, PySem.W.Looks (model X.prog X.w) s.heap (typeOf u) tb ∧ PySem.W.notFirst X.K C tb = true := by
  have nf : ∀ {tb : Value}, PySem.W.subIn X.K tb (.ref C) = some false → PySem.W.notFirst X.K C tb = true := fun {tb} e => by
    unfold PySem.W.notFirst
    rw [e]
    simp
  cases t with
  | non =>
    cases r
    exact ⟨.type "NoneType", .of_pure rfl, nf O.nt'⟩
  | int i =>
    obtain ⟨t, rfl⟩ := r
    exact ⟨.type "int", .of_pure rfl, nf O.it'⟩
  | str i =>
    obtain ⟨t, rfl⟩ := r
    exact ⟨.type "str", .of_pure rfl, nf O.st'⟩
  | lst h =>
    cases r
    obtain ⟨its, _, ⟨o, n, ho, hc, _⟩, _⟩ := I.list h
    exact ⟨.type "list", looks_ty ho hc, nf O.li'⟩
  | tup h =>
    cases r
    obtain ⟨its, _, ⟨o, ho, hc, _⟩, _⟩ := I.tuple h
    exact ⟨.type "tuple", looks_ty ho hc, nf O.tu'⟩
  | ins h =>
    cases r
    obtain ⟨mA, J, _⟩ := ins_get I.hok h
    obtain ⟨od, J, _⟩ := J.look
    exact ⟨.ref C, J.type, by simp [PySem.W.notFirst]⟩
/-- tree == y -/
theorem op_eqL {CX : CXT} {n : Nat} {fd : FuncData} {ps : List Str} {sp : Sp} {E : XK} (O : OwnCmp X.K C f) (F : FnOk X.prog X.w X.K X.mg X.base CX n f fd ps sp) (hb : Binds X.K fd ps []) (hr : Room n X.A) (hx : Passes CX X E) :
    OpR X (compareOp .Eq) (fun x y H Q => ∃ a dx fs, x = .ref a ∧ H a = some (.ins C dx fs) ∧ YTy X.K H C y ∧ sp [x, y] H (fun v H' => ∃ b, v = .bl b ∧ Q (.bl b) H') E) := by
  intro pins s σ H x y v u Q I rx ry h
  obtain ⟨a, dx, fs, rfl, ha, ty, q⟩ := h
  cases (show v = Value.ref a from rx)
  obtain ⟨mA, J, _⟩ := ins_get I.hok ha
  obtain ⟨od, J, _⟩ := J.look
  obtain ⟨tb, lk, nf⟩ := yty_look O I ty ry
  obtain ⟨m, hF⟩ := I.fr
  show wpAny _ _ (richCompare .Eq _ _) _ _ _
  refine PySem.W.cmp_K (op := .Eq) (tb := tb) hr.units0 hF I.ok.mod.kin J lk nf O.eq O.fn ?_
  refine wpAny_mono (wpAny_call (run_fnR (us := [.ref a, u]) (vs := [.ref a, y]) (FnOk.raw F hb .nil) hr hx I (.cons rfl (.cons ry .nil)) q)) (fun w s' z => ?_) fun _ _ x => x
  obtain ⟨z', H', I', rz, b, rfl, qz⟩ := z
  exact SlX.cmpback rz ⟨.bl b, H', I', rz, qz⟩
/-- tree != y -/
theorem op_neL {CX : CXT} {n : Nat} {fd : FuncData} {ps : List Str} {sp : Sp} {E : XK} (O : OwnCmp X.K C f) (F : FnOk X.prog X.w X.K X.mg X.base CX n f fd ps sp) (hb : Binds X.K fd ps []) (hr : Room (n + 1) X.A) (hx : Passes CX X E) :
    OpR X (compareOp .NotEq) (fun x y H Q => ∃ a dx fs, x = .ref a ∧ H a = some (.ins C dx fs) ∧ YTy X.K H C y ∧ sp [x, y] H (fun v H' => ∃ b, v = .bl b ∧ Q (.bl (!b)) H') E) := by
  intro pins s σ H x y v u Q I rx ry h
  obtain ⟨a, dx, fs, rfl, ha, ty, q⟩ := h
  cases (show v = Value.ref a from rx)
  obtain ⟨mA, J, _⟩ := ins_get I.hok ha
  obtain ⟨od, J, _⟩ := J.look
  obtain ⟨tb, lk, nf⟩ := yty_look O I ty ry
  show wpAny _ _ (richCompare .NotEq _ _) _ _ _
  refine ne_K (by have := hr.un; omega) I.kIn J lk nf O.ne O.ob O.eq O.fn ?_
  refine wpAny_mono (wpAny_call (SlX.run_at (A := X.A.in1) (us := [.ref a, u]) (ws := [.ref a, y]) (FnOk.raw F hb .nil) hr.in1 I.env0.in1 hx I (.cons rfl (.cons ry .nil)) q)) (fun w s' z => ?_) fun _ _ x => x
  obtain ⟨z', H', I', rz, b, rfl, qz⟩ := z
  cases (show w = Value.bool b from rz)
  exact ⟨b, rfl, .bl (!b), H', I', rfl, qz⟩
/-- y == tree, y no instance -/
theorem op_eqR {CX : CXT} {n : Nat} {fd : FuncData} {ps : List Str} {sp : Sp} {E : XK} (O : OwnCmp X.K C f) (F : FnOk X.prog X.w X.K X.mg X.base CX n f fd ps sp) (hb : Binds X.K fd ps []) (hr : Room n X.A) (hx : Passes CX X E) :
    OpR X (compareOp .Eq) (fun y x H Q => ∃ a dx fs, x = .ref a ∧ H a = some (.ins C dx fs) ∧ YTy X.K H C y ∧ sp [x, y] H (fun v H' => ∃ b, v = .bl b ∧ Q (.bl b) H') E ∧ (∀ c dy gs, y = .ref c → H c = some (.ins C dy gs) → sp [y, x] H (fun v H' => ∃ b, v = .bl b ∧ Q (.bl b) H') E)) := by
  intro pins s σ H y x u v Q I ry rx h
  obtain ⟨a, dx, fs, rfl, ha, ty, q, q2⟩ := h
  cases (show v = Value.ref a from rx)
  obtain ⟨mA, J0, _⟩ := ins_get I.hok ha
  have hat : s.heap.get? a = some (PySem.W.instObj C dx) := J0.1
  obtain ⟨od, J, _⟩ := J0.look
  obtain ⟨m, hF⟩ := I.fr
  have fin : wpAny (model X.prog X.w) X.A (call (.ref f) [.ref a, u]) (PySem.W.CmpBack (EP X pins σ Q)) X.xe s := by
    refine wpAny_mono (wpAny_call (run_fnR (us := [.ref a, u]) (vs := [.ref a, y]) (FnOk.raw F hb .nil) hr hx I (.cons rfl (.cons ry .nil)) q)) (fun w s' z => ?_) fun _ _ x => x
    obtain ⟨z', H', I', rz, b, rfl, qz⟩ := z
    exact SlX.cmpback rz ⟨.bl b, H', I', rz, qz⟩
  show wpAny _ _ (richCompare .Eq _ _) _ _ _
  cases ty with
  | non =>
    cases ry
    exact eq_right hr.units0 I.kIn J rfl PySem.F.slot_NoneType_eq rfl O.nt dec_none O.eq O.fn fin
  | int i =>
    obtain ⟨t, rfl⟩ := ry
    exact eq_right hr.units0 I.kIn J (typeIs_int s i t) PySem.F.slot_int_eq rfl O.it (dec_int hat) O.eq O.fn fin
  | str i =>
    obtain ⟨t, rfl⟩ := ry
    exact eq_right hr.units0 I.kIn J (typeIs_str s i t) PySem.F.slot_str_eq rfl O.st (dec_str hat) O.eq O.fn fin
  | lst h =>
    cases ry
    obtain ⟨its, _, ⟨o, n, ho, hc, _⟩, _⟩ := I.list h
    exact eq_right hr.units0 I.kIn J ⟨o, ho, hc⟩ PySem.F.slot_list_eq (oneThing_ref ..) O.li (dec_list ⟨o, ho, hc⟩ I.kIn J O.li) O.eq O.fn fin
  | tup h =>
    cases ry
    obtain ⟨its, _, ⟨o, ho, hc, _⟩, _⟩ := I.tuple h
    exact eq_right hr.units0 I.kIn J ⟨o, ho, hc⟩ PySem.F.slot_tuple_eq (oneThing_ref ..) O.tu (dec_tup ⟨o, ho, hc⟩ I.kIn J O.tu) O.eq O.fn fin
  | @ins c dy gs hc =>
    cases ry
    have q3 := q2 c dy gs rfl hc
    obtain ⟨mB, K0, _⟩ := ins_get I.hok hc
    obtain ⟨od2, J2, _⟩ := K0.look
    refine PySem.W.cmp_K (op := .Eq) (tb := .ref C) hr.units0 hF I.ok.mod.kin J2 J.type (by simp [PySem.W.notFirst]) O.eq O.fn ?_
    · refine wpAny_mono (wpAny_call (run_fnR (us := [.ref c, .ref a]) (vs := [.ref c, .ref a]) (FnOk.raw F hb .nil) hr hx I (.cons rfl (.cons rfl .nil)) q3)) (fun w s' z => ?_) fun _ _ x => x
      obtain ⟨z', H', I', rz, b, rfl, qz⟩ := z
      exact SlX.cmpback rz ⟨.bl b, H', I', rz, qz⟩
end
end Bd
end

section
namespace Bd
open PySem L2
abbrev sTEq : Stmt := (inClass (top 30) 1)
theorem scTEq : FnScope ["self", "other"] ["self", "other"] (defScope sTEq) := ⟨rfl, rfl, rfl, by decide +kernel, rfl, by decide +kernel, by decide +kernel⟩

def duesEqB (a b : List (Str × PyData)) : Bool := (List.zipWith (fun x y => PyData.eqv x.2 y.2) a b).all id
def treeEqB (rows : List RowM) (h : Bool) (rows' : List RowM) (h' : Bool) : Bool :=
  decide (rows.map (·.name) = rows'.map (·.name)) && (decide (rows.map (·.above) = rows'.map (·.above)) && ((List.zipWith (fun r r' => duesEqB (fullD r.dues) (fullD r'.dues)) rows rows').all id && decide (h = h')))
/-- three lists in step -/
inductive P3 {α β γ : Type} (F : α → β → γ → Prop) : List α → List β → List γ → Prop
  | nil : P3 F [] [] []
  | cons {a : α} {b : β} {c : γ} {as : List α} {bs : List β} {cs : List γ} : F a b c → P3 F as bs cs → P3 F (a :: as) (b :: bs) (c :: cs)
theorem hits_al {F : V → V → Bool → Prop} {ls : List (Key × V)} (nd : (ls.map (·.1)).Nodup) {ks us : List (Key × V)} {rs : List Bool} (h : P3 (fun (k u : Key × V) r => k.1 = u.1 ∧ F k.2 u.2 r) ks us rs) (hu : ∀ u ∈ us, u ∈ ls) : HitsV F ls ks (rs.all id) := by
  induction h with
  | nil => exact .nil
  | @cons k u r ks us rs h1 h2 ih =>
    obtain ⟨k1, k2⟩ := k
    have e : valV ls k1 = some u.2 := by
      have := val_nd nd u (hu u List.mem_cons_self)
      rw [← h1.1] at this
      exact this
    rw [List.all_cons]
    exact .hit e h1.2 (ih fun x hx => hu x (List.mem_cons_of_mem _ hx))
theorem eqv_strs : ∀ (xs ys : List Str), PyData.eqvAll (xs.map .str) (ys.map .str) = decide (xs = ys)
  | [], [] => by simp [PyData.eqvAll]
  | [], y :: ys => by simp [PyData.eqvAll]
  | x :: xs, [] => by simp [PyData.eqvAll]
  | x :: xs, y :: ys => by
    rw [List.map_cons, List.map_cons, PyData.eqvAll, eqv_strs xs ys, PyData.eqv]
    by_cases a : x = y
    · subst a
      simp
    · simp [a]
theorem eqv_strL (xs ys : List Str) : PyData.eqv (.list (xs.map .str)) (.list (ys.map .str)) = decide (xs = ys) := by
  rw [PyData.eqv]
  exact eqv_strs xs ys
theorem lay_strs : ∀ xs : List Str, (∀ x ∈ xs, PyData.canLay0 (.str x) = true) → PyData.canLayAll0 (xs.map .str) = true
  | [], _ => by simp [PyData.canLayAll0]
  | x :: xs, h => by
    rw [List.map_cons, PyData.canLayAll0, lay_strs xs fun y hy => h y (List.mem_cons_of_mem _ hy), h x List.mem_cons_self]
    rfl
theorem dep_strs : ∀ xs : List Str, PyData.depthAll (xs.map .str) = 0
  | [] => by simp [PyData.depthAll]
  | x :: xs => by
    rw [List.map_cons, PyData.depthAll, dep_strs xs, PyData.depth]
    rfl
theorem shaped_strs {xs : List Str} (h : ∀ x ∈ xs, PyData.canLay0 (.str x) = true) : SeqAt.shaped (.list (xs.map .str)) = true := by
  unfold SeqAt.shaped
  rw [PyData.canLay0, lay_strs xs h, PyData.depth, dep_strs]
  rfl
theorem lay_name {x : Str} (h : NameOk x) : PyData.canLay0 (.str x) = true := by
  have e : PyData.canLay0 (.str x) = x.cps.all (· < 0x110000) := by
    rw [PyData.canLay0]
    rfl
  rw [e, Array.all_eq_true']
  intro c hc
  have := (h.2.2 c (Array.mem_toList_iff.mpr hc)).2
  exact decide_eq_true (by omega)
theorem lay_ints : ∀ xs : List Int, PyData.canLayAll0 (xs.map .int) = true
  | [] => by simp [PyData.canLayAll0]
  | x :: xs => by
    rw [List.map_cons, PyData.canLayAll0, lay_ints xs, PyData.canLay0]
    rfl
theorem dep_ints : ∀ xs : List Int, PyData.depthAll (xs.map .int) = 0
  | [] => by simp [PyData.depthAll]
  | x :: xs => by
    rw [List.map_cons, PyData.depthAll, dep_ints xs, PyData.depth]
    rfl
theorem shaped_ints (xs : List Int) : SeqAt.shaped (.tuple (xs.map .int)) = true := by
  unfold SeqAt.shaped
  rw [PyData.canLay0, lay_ints xs, PyData.depth, dep_ints]
  rfl
theorem shaped_val {x : Str} {d : PyData} (h : ValOk x d) : SeqAt.shaped d = true := by
  cases h with
  | amt => exact shaped_ints [_, _]
  | endl => decide +kernel
  | none => decide +kernel
  | set => exact shaped_ints _
  | alone =>
    unfold SeqAt.shaped
    rw [PyData.canLay0, PyData.depth]
    rfl
theorem shaped_name {x : Str} (h : PyData.canLay0 (.str x) = true) : SeqAt.shaped (.str x) = true := by
  unfold SeqAt.shaped
  rw [h, PyData.depth]
  rfl
/-- aboves, too, are names or the root's -/
theorem lay_above {rows : List RowM} (h : RowsOk rows) {i : Nat} {r : RowM} (e : rows[i]? = some r) : PyData.canLay0 (.str r.above) = true := by
  rcases (h i r e).2.2.2 with z | ⟨q, hq, z, _⟩
  · rw [z]
    decide +kernel
  · rw [← z]
    obtain ⟨m, hm⟩ := List.mem_iff_getElem?.mp (List.mem_of_mem_take hq)
    exact lay_name (h m q hm).1
theorem dp_strs {K : PySem.W.Frag} {H : Hp} : ∀ xs : List Str, DpAll K H (xs.map V.str) (xs.map .str)
  | [] => .nil
  | x :: xs => .cons (.str x) (dp_strs xs)
/-- a thing that is no instance of the class -/
def NonIns (K : PySem.W.Frag) (H : Hp) (C : Addr) (y : V) : Prop := ∃ t, TyX K H y t ∧ PySem.W.kitOne K t (.ref C) = some false
/-- what isinstance asks of the class -/
structure TI (K : PySem.W.Frag) (C : Addr) : Prop where
  ha : PySem.W.findIn K (.ref C) "__class__" = some (some (.builtin "object.__class__"))
  hn : PySem.W.specialIn K (.builtin "object.__class__") "__get__" = some (some (.builtin "getset_descriptor.__get__"))
  htk : PySem.W.takesIn K (.builtin "object.__class__") = some true
  hm : PySem.W.mroIn K C (.type "object") = some true
def spTEq (K : PySem.W.Frag) (C : Addr) : Sp := fun vs H Q _ => ∃ (p : Addr) (y : V) (rows : List RowM) (h : Bool) (tk : List (Key × V)), vs = [.ref p, y] ∧ TreeAt K H C p rows h tk ∧ RowsOk rows ∧
  ((NonIns K H C y ∧ Q (.bl false) H) ∨ ∃ p' rows' h' tk', y = .ref p' ∧ TreeAt K H C p' rows' h' tk' ∧ RowsOk rows' ∧ (∀ kv ∈ tk, ∀ kv' ∈ tk', kv.2 ≠ kv'.2) ∧ Q (.bl (treeEqB rows h rows' h')) H)
section
variable {P : Program} {w : World} {K : PySem.W.Frag} {mg : Str → Option Value} {base : Heap} {aL C : Addr} {left : List (Key × V)}
theorem hu100 {A : Around} {k : Nat} (hr : Room k A) : A.units + 100 < cLine := by
  have := hr.un
  omega
theorem p3_dues {H : Hp} : ∀ {kvs lvs : List (Key × V)} {a b : List (Str × PyData)}, Paired (PV K H) kvs a → Paired (PV K H) lvs b → a.map (·.1) = b.map (·.1) → (∀ x ∈ a, ValOk x.1 x.2) → (∀ x ∈ b, ValOk x.1 x.2) →
    P3 (fun (k u : Key × V) r => k.1 = u.1 ∧ EqF K H 0 k.2 u.2 r) kvs lvs (List.zipWith (fun x y => PyData.eqv x.2 y.2) a b)
  | _, _, _, _, .nil, .nil, _, _, _ => .nil
  | _, _, _, _, .cons x1 x2, .cons y1 y2, e, h1, h2 => by
    rw [List.map_cons, List.map_cons] at e
    injection e with e1 e2
    exact .cons ⟨by rw [x1.1, y1.1, e1], _, _, x1.2, y1.2, shaped_val (h1 _ List.mem_cons_self), shaped_val (h2 _ List.mem_cons_self), rfl⟩ (p3_dues x2 y2 e2 (fun z hz => h1 z (List.mem_cons_of_mem _ hz)) fun z hz => h2 z (List.mem_cons_of_mem _ hz))
  | _, _, _, _, .nil, .cons _ _, e, _, _ => by cases e
  | _, _, _, _, .cons _ _, .nil, e, _, _ => by cases e
theorem fullD_keys (a : List (Str × PyData)) : (fullD a).map (·.1) = leftW := by
  rw [← leftD_words]
  unfold fullD
  rw [List.map_map]
  rfl
theorem full_nd {H : Hp} {kvs : List (Key × V)} {a : List (Str × PyData)} (h : Paired (PV K H) kvs (fullD a)) : (kvs.map (·.1)).Nodup := by
  have e : (fullD a).map (fun du => (Sum.inr du.1 : Key)) = leftW.map fun x => (Sum.inr x : Key) := by
    rw [← fullD_keys a, List.map_map]
    rfl
  rw [pv_keys h, e]
  exact nodup_inr leftW_nd
theorem p3_table {H : Hp} : ∀ {tk tk' : List (Key × V)} {rows rows' : List RowM}, Paired (fun (kv : Key × V) (r : RowM) => kv.1 = (Sum.inr r.name : Key) ∧ ∃ d, kv.2 = .ref d ∧ FullAt K H d r.dues) tk rows →
    Paired (fun (kv : Key × V) (r : RowM) => kv.1 = (Sum.inr r.name : Key) ∧ ∃ d, kv.2 = .ref d ∧ FullAt K H d r.dues) tk' rows' → rows.map (·.name) = rows'.map (·.name) → (∀ r ∈ rows, DuesOk r.dues) → (∀ r ∈ rows', DuesOk r.dues) →
    (∀ kv ∈ tk, ∀ kv' ∈ tk', kv.2 ≠ kv'.2) → P3 (fun (k u : Key × V) r => k.1 = u.1 ∧ EqF K H 1 k.2 u.2 r) tk tk' (List.zipWith (fun r r' => duesEqB (fullD r.dues) (fullD r'.dues)) rows rows')
  | _, _, _, _, .nil, .nil, _, _, _, _ => .nil
  | _, _, _, _, .cons (a := kv) (b := r) x1 x2, .cons (a := kv') (b := r') y1 y2, e, h1, h2, h3 => by
    rw [List.map_cons, List.map_cons] at e
    injection e with e1 e2
    obtain ⟨k1, d, k2, fk, f1, f2⟩ := x1
    obtain ⟨l1, d', l2, gk, g1, g2⟩ := y1
    refine .cons ⟨by rw [k1, l1, e1], d, d', k2, l2, .inr ⟨fun z => h3 kv List.mem_cons_self kv' List.mem_cons_self (by rw [k2, l2, z]), fk, gk, _, f1, g1, fun _ => hits_al (full_nd g2) (p3_dues f2 g2 ?_ ?_ ?_) fun u hu => hu, ?_⟩⟩
      (p3_table x2 y2 e2 (fun z hz => h1 z (List.mem_cons_of_mem _ hz)) (fun z hz => h2 z (List.mem_cons_of_mem _ hz)) fun z hz z' hz' => h3 z (List.mem_cons_of_mem _ hz) z' (List.mem_cons_of_mem _ hz'))
    · rw [fullD_keys, fullD_keys]
    · exact fullD_ok (h1 _ List.mem_cons_self)
    · exact fullD_ok (h2 _ List.mem_cons_self)
    · have z1 : fk.length = gk.length := by
        rw [Paired.length f2, Paired.length g2]
        unfold fullD
        rw [List.length_map, List.length_map]
      unfold duesEqB
      rw [z1]
      simp
  | _, _, _, _, .nil, .cons _ _, e, _, _, _ => by cases e
  | _, _, _, _, .cons _ _, .nil, e, _, _, _ => by cases e
theorem p3_above {H : Hp} : ∀ {rows rows' : List RowM}, rows.map (·.name) = rows'.map (·.name) → (∀ r ∈ rows, PyData.canLay0 (.str r.above) = true) → (∀ r ∈ rows', PyData.canLay0 (.str r.above) = true) →
    P3 (fun (k u : Key × V) r => k.1 = u.1 ∧ EqF K H 0 k.2 u.2 r) (rows.map fun r => ((Sum.inr r.name : Key), V.str r.above)) (rows'.map fun r => ((Sum.inr r.name : Key), V.str r.above)) (List.zipWith (fun r r' => decide (r.above = r'.above)) rows rows')
  | [], [], _, _, _ => .nil
  | r :: rows, r' :: rows', e, h1, h2 => by
    rw [List.map_cons, List.map_cons] at e
    injection e with e1 e2
    refine .cons ⟨congrArg Sum.inr e1, _, _, .str _, .str _, shaped_name (h1 _ List.mem_cons_self), shaped_name (h2 _ List.mem_cons_self), ?_⟩ (p3_above e2 (fun z hz => h1 z (List.mem_cons_of_mem _ hz)) fun z hz => h2 z (List.mem_cons_of_mem _ hz))
    rw [PyData.eqv]
    show decide (r.above = r'.above) = (r.above == r'.above)
    by_cases c : r.above = r'.above
    · rw [decide_eq_true c, c]
      exact (beq_self_eq_true _).symm
    · rw [decide_eq_false c]
      exact (beq_eq_false_iff_ne.mpr c).symm
  | [], _ :: _, e, _, _ => by cases e
  | _ :: _, [], e, _, _ => by cases e
theorem above_all : ∀ {rows rows' : List RowM}, rows.length = rows'.length → (List.zipWith (fun (r r' : RowM) => decide (r.above = r'.above)) rows rows').all id = decide (rows.map (·.above) = rows'.map (·.above))
  | [], [], _ => by simp
  | r :: rows, r' :: rows', e => by
    rw [List.zipWith_cons_cons, List.all_cons, above_all (by simpa using e), List.map_cons, List.map_cons]
    by_cases c : r.above = r'.above
    · simp [c]
    · simp [c]
  | [], _ :: _, e => by cases e
  | _ :: _, [], e => by cases e
theorem ok_teq {f : Addr} {fd : FuncData} (F : Fun K "__eq__" "Tree.__eq__" sTEq f fd) (T : TP P w K mg aL left) (TCl : TC K mg C) (TIs : TI K C) : FnOk P w K mg base CX0 1 f fd ["self", "other"] (spTEq K C) := by
  refine F.ok scTEq (fun vs H Q E h => ?_) (fun cdv A outer s H vs Q E hr h => ?_)
  · obtain ⟨p, y, rows, h, tk, rfl, _⟩ := h
    rfl
  obtain ⟨p, y, rows, h, tk, rfl, ht, hok, hy⟩ := h
  refine ⟨_, (pss_one (ps_ret (pe_and (pe_callB call_isi (by rfl) T.z_isinstance (by decide +kernel) (pa_cons (pv 1) (pa_cons (pe_glob (v := .ref C) rfl TCl.g_Tree rfl) pa_nil))) (pe_and (pe_cmpR (op_eqD hr.units) (pe_fld (pv 0) rfl) (pe_fld (pv 1) rfl) (nomark _)) (pe_and (pe_cmpR (op_eqF (hu100 hr)) (pe_fld (pv 0) rfl) (pe_fld (pv 1) rfl) (nomark _)) (pe_and (pe_cmpR (op_eqF (hu100 hr)) (pe_fld (pv 0) rfl) (pe_fld (pv 1) rfl) (nomark _)) (pe_one (pe_cmpR op_eq (pe_fld (pv 0) rfl) (pe_fld (pv 1) rfl) (nomark _))))))))), ?_⟩
  rcases hy with ⟨⟨t, ty, kt⟩, q⟩ | ⟨p', rows', h', tk', rfl, ht', hok', hdis, q⟩
  · exact ⟨_, rfl, _, _, _, _, false, rfl, .own C, ty, kt, false, rfl, iteF q⟩
  obtain ⟨dx, po, pp, pk, pt, o1, o2, o3, o4, o5, _⟩ := ht
  obtain ⟨dx', po', pp', pk', pt', w1, w2, w3, w4, w5, _⟩ := ht'
  refine ⟨_, rfl, _, _, _, _, true, rfl, .own C, .base (.ins w1 TCl.cl TIs.ha TIs.hn TIs.htk TIs.hm), by simp [PySem.W.kitOne], true, rfl, iteT ?_⟩
  refine ⟨_, rfl, p, C, dx, _, _, rfl, o1, TCl.cl, TCl.n_order, tf5_order, _, rfl, p', C, dx', _, _, rfl, w1, TCl.cl, TCl.n_order, tf5_order, ?_⟩
  have mem : ∀ {rs : List RowM}, RowsOk rs → ∀ r ∈ rs, NameOk r.name ∧ DuesOk r.dues ∧ PyData.canLay0 (.str r.above) = true := fun ok r hr => by
    obtain ⟨m, hm⟩ := List.mem_iff_getElem?.mp hr
    exact ⟨(ok m r hm).1, (ok m r hm).2.1, lay_above ok hm⟩
  have lays : ∀ {rs : List RowM}, RowsOk rs → ∀ x ∈ rs.map (·.name), PyData.canLay0 (.str x) = true := fun ok x hx => by
    obtain ⟨r, hr, rfl⟩ := List.mem_map.mp hx
    exact lay_name (mem ok r hr).1
  refine ⟨.list ((rows.map (·.name)).map .str), .list ((rows'.map (·.name)).map .str), .lst (SqL.of o2) ?_, .lst (SqL.of w2) ?_, shaped_strs (lays hok), shaped_strs (lays hok'), ?_⟩
  · have := dp_strs (K := K) (H := H) (rows.map (·.name))
    rw [List.map_map] at this
    exact this
  · have := dp_strs (K := K) (H := H) (rows'.map (·.name))
    rw [List.map_map] at this
    exact this
  rw [eqv_strL]
  unfold treeEqB at q
  by_cases en : rows.map (·.name) = rows'.map (·.name)
  · rw [decide_eq_true en]
    rw [decide_eq_true en, Bool.true_and] at q
    have el : rows.length = rows'.length := by
      have := congrArg List.length en
      simpa using this
    refine ⟨true, rfl, iteT ?_⟩
    refine ⟨_, rfl, p, C, dx, _, _, rfl, o1, TCl.cl, TCl.n_parents, tf5_parents, _, rfl, p', C, dx', _, _, rfl, w1, TCl.cl, TCl.n_parents, tf5_parents, ?_⟩
    have ndp : ((rows'.map fun r => ((Sum.inr r.name : Key), V.str r.above)).map (·.1)).Nodup := by
      have := names_nd hok' rows'.length
      rw [List.take_length] at this
      have := nodup_inr this
      rw [List.map_map] at this ⊢
      exact this
    refine ⟨pp, pp', _, _, _, 0, by decide, rfl, rfl, o3, w3, fun _ => hits_al ndp (p3_above en (fun r hr => (mem hok r hr).2.2) fun r hr => (mem hok' r hr).2.2) fun u hu => hu, ?_⟩
    rw [above_all el, List.length_map, List.length_map, el, beq_self_eq_true, Bool.true_and]
    by_cases ea : rows.map (·.above) = rows'.map (·.above)
    · rw [decide_eq_true ea]
      rw [decide_eq_true ea, Bool.true_and] at q
      refine ⟨true, rfl, iteT ?_⟩
      refine ⟨_, rfl, p, C, dx, _, _, rfl, o1, TCl.cl, TCl.n_table, tf5_table, _, rfl, p', C, dx', _, _, rfl, w1, TCl.cl, TCl.n_table, tf5_table, ?_⟩
      have ndt : (tk'.map (·.1)).Nodup := by
        rw [td_keys (fun _ _ z => z.1) w5]
        rw [List.map_map] at ndp
        exact ndp
      refine ⟨pt, pt', _, _, _, 1, by decide, rfl, rfl, o4, w4, fun _ => hits_al ndt (p3_table o5 w5 en (fun r hr => (mem hok r hr).2.1) (fun r hr => (mem hok' r hr).2.1) hdis) fun u hu => hu, ?_⟩
      rw [Paired.length o5, Paired.length w5, el, beq_self_eq_true, Bool.true_and]
      cases et : (List.zipWith (fun r r' => duesEqB (fullD r.dues) (fullD r'.dues)) rows rows').all id with
      | false =>
        rw [et, Bool.false_and] at q
        exact ⟨false, rfl, iteF q⟩
      | true =>
        rw [et, Bool.true_and] at q
        refine ⟨true, rfl, iteT ?_⟩
        refine ⟨_, rfl, p, C, dx, _, _, rfl, o1, TCl.cl, TCl.n_hands, tf5_hands, _, rfl, p', C, dx', _, _, rfl, w1, TCl.cl, TCl.n_hands, tf5_hands, rfl, ?_⟩
        have e : decide (V.bl h = V.bl h') = decide (h = h') := by
          by_cases c : h = h'
          · rw [c]
            simp
          · rw [decide_eq_false c, decide_eq_false fun z => c (V.bl.inj z)]
        show Q (.bl (decide (V.bl h = V.bl h'))) H
        rw [e]
        exact q
    · rw [decide_eq_false ea]
      rw [decide_eq_false ea, Bool.false_and] at q
      exact ⟨false, rfl, iteF q⟩
  · rw [decide_eq_false en]
    rw [decide_eq_false en, Bool.false_and] at q
    exact ⟨false, rfl, iteF q⟩
end
end Bd
end

section
namespace Bd
open PySem L2
theorem full_val {dues : List (Str × PyData)} (h : ∀ x ∈ dues, ValOk x.1 x.2) : ∀ wd ∈ fullD dues, ValOk wd.1 wd.2 := by
  intro wd m
  unfold fullD at m
  obtain ⟨ld, hl, rfl⟩ := List.mem_map.mp m
  show ValOk ld.1 ((dueOf dues ld.1).getD ld.2)
  cases c : dueOf dues ld.1 with
  | none => exact (leftD_ok ld hl).2
  | some d => exact h _ (dueOf_mem c)
theorem rows_due {rows : List RowM} (h : RowsOk rows) : ∀ r ∈ rows, DuesOk r.dues := fun r hr => by
  obtain ⟨j, hj⟩ := List.mem_iff_getElem?.mp hr
  exact (h j r hj).2.1
theorem TreeAt.same {K : PySem.W.Frag} {H H' : Hp} {C p : Addr} {rows : List RowM} {h : Bool} {tk : List (Key × V)} (k : Same H H') (ok : RowsOk rows) (t : TreeAt K H C p rows h tk) : TreeAt K H' C p rows h tk := by
  obtain ⟨dx, po, pp, pk, pt, o1, o2, o3, o4, o5, ks, k1, k2, k3⟩ := t
  refine ⟨dx, po, pp, pk, pt, k _ _ o1, k _ _ o2, k _ _ o3, k _ _ o4, paired_monoM (fun kv r hr z => ?_) o5, ks, k _ _ k1, k2, fun kv hkv => ?_⟩
  · obtain ⟨z1, d, z2, kvs, z3, z4⟩ := z
    exact ⟨z1, d, z2, kvs, k _ _ z3, paired_monoM (fun kv wd hw z => ⟨z.1, (TK.of k).val (full_val (fun x hx => ((rows_due ok r hr).2 x hx).2) wd hw) z.2⟩) z4⟩
  · obtain ⟨l, e1, e2⟩ := k3 kv hkv
    exact ⟨l, e1, k _ _ e2⟩
theorem rows_same {K : PySem.W.Frag} {H H' : Hp} (k : Same H H') {xs : List V} {rows : List RowM} (h : Paired (RowAt K H) xs rows) : Paired (RowAt K H') xs rows := paired_mono (fun _ _ z => RowAt.same k z) h
theorem kids_flt (rows : List RowM) (x : Str) : kidsOf rows (Sum.inr x) = (rows.filter fun r => decide (r.above = x)).map (·.name) := by
  unfold kidsOf
  congr 1
  refine List.filter_congr fun r _ => ?_
  by_cases c : r.above = x
  · rw [decide_eq_true c, c]
    simp
  · rw [decide_eq_false c]
    exact decide_eq_false fun z => c (Sum.inr.inj z)
theorem dec_strs (a b : Str) : decide (V.str a = V.str b) = decide (a = b) := by
  by_cases c : a = b
  · rw [c]
    simp
  · rw [decide_eq_false c]
    exact decide_eq_false fun z => c (V.str.inj z)
theorem flt_take (f : RowM → Bool) {rows : List RowM} {i : Nat} {r : RowM} (h : rows[i]? = some r) : (((rows.take (i + 1)).filter f).map (·.name)).map V.str = (((rows.take i).filter f).map (·.name)).map V.str ++ (if f r = true then [V.str r.name] else []) := by
  rw [List.take_add_one, h, Option.toList_some, List.filter_append, List.map_append, List.map_append]
  cases z : f r with
  | true =>
    rw [List.filter_cons_of_pos z]
    rfl
  | false =>
    rw [List.filter_cons_of_neg (by rw [z]; decide)]
    rfl
theorem ne_self {xs ys : List Str} (e : xs = ys) : (!PyData.eqv (.list (xs.map .str)) (.list (ys.map .str))) = false := by
  rw [eqv_strL, decide_eq_true e]
  rfl
theorem dp_strL {K : PySem.W.Frag} {H : Hp} {a : Addr} {xs : List Str} (h : H a = some (.lst (xs.map V.str))) : Dp K H (.ref a) (.list (xs.map .str)) := .lst (SqL.of h) (dp_strs xs)
theorem lay_nms {rows : List RowM} (ok : RowsOk rows) : ∀ x ∈ nms rows, PyData.canLay0 (.str x) = true := fun x hx => by
  obtain ⟨r, hr, rfl⟩ := List.mem_map.mp hx
  obtain ⟨m, hm⟩ := List.mem_iff_getElem?.mp hr
  exact lay_name (ok m r hm).1
theorem kids_in (rows : List RowM) (k : Key) : ∀ x ∈ kidsOf rows k, x ∈ nms rows := fun x hx => by
  obtain ⟨r, hr, rfl⟩ := List.mem_map.mp hx
  exact List.mem_map.mpr ⟨r, (List.mem_filter.mp hr).1, rfl⟩
theorem leaves_in (rows : List RowM) : ∀ x ∈ leavesOf rows, x ∈ nms rows := fun x hx => by
  obtain ⟨r, hr, rfl⟩ := List.mem_map.mp hx
  exact List.mem_map.mpr ⟨r, (List.mem_filter.mp hr).1, rfl⟩
theorem same_upd2 {H : Hp} {a b : Addr} {o u : HO} (ha : H a = none) (hb : upd H a o b = none) : Same H (upd (upd H a o) b u) := Same.new (Same.new (Same.refl H) ha o) hb u
theorem none_of_same {H H' : Hp} {a : Addr} (s : Same H H') (h : H' a = none) : H a = none := s.free h
/-- a list that is not in H may be changed -/
theorem Same.ch {H H1 : Hp} {a : Addr} (s : Same H H1) (h : H a = none) (o : HO) : Same H (upd H1 a o) := fun b u e => by
  rw [upd_ne (ne_of_none e h)]
  exact s b u e
end Bd
end

section
namespace Bs
/-- a group as the law of sets sees it: who asks for what -/
structure SR (N : Type) where
  nm : N
  up : N
  ask : Option (List Int)
  al : Bool
section
variable {N : Type} [DecidableEq N]
def kidsS (rows : List (SR N)) (n : N) : List (SR N) := rows.filter fun r => decide (r.up = n)
def withoutS (xs gone : List Int) : List Int := xs.filter fun x => !decide (x ∈ gone)
def asksB (ask : Option (List Int)) (x : Int) : Bool := match ask with
  | none => false
  | some a => decide (x ∈ a)
def sharedS (ask : Option (List Int)) (free : List Int) : List Int := if (free.filter (asksB ask)).isEmpty then free else free.filter (asksB ask)
def mayS (r : SR N) (free : List Int) : Bool := r.al && match r.ask with
  | none => false
  | some a => !a.isEmpty && (a.all (fun x => decide (x ∈ free)) && decide (a.length < free.length))
def pStep (s : List N × List Int) (r : SR N) : List N × List Int := if mayS r s.2 then (s.1 ++ [r.nm], withoutS s.2 (r.ask.getD [])) else s
def pick (alone : Bool) (kids : List (SR N)) (own : List Int) : List N × List Int := if alone then kids.foldl pStep ([], own) else ([], own)
/-- names once each, each below the root or one ahead of it, none the root -/
def OkS (rt : N) (rows : List (SR N)) : Prop := (rows.map (·.nm)).Nodup ∧ ∀ i r, rows[i]? = some r → r.nm ≠ rt ∧ (r.up = rt ∨ ∃ q ∈ rows.take i, q.nm = r.up)
structure Handed (rt : N) (rows : List (SR N)) (whole : List Int) (has : N → List Int) (al : N → Bool) : Prop where
  h0 : has rt = whole
  a0 : al rt = true
  a1 : ∀ r ∈ rows, al r.nm = decide (r.nm ∈ (pick (al r.up) (kidsS rows r.up) (has r.up)).1)
  h1 : ∀ r ∈ rows, has r.nm = if al r.nm then r.ask.getD [] else sharedS r.ask (pick (al r.up) (kidsS rows r.up) (has r.up)).2
theorem OkS.uniq {rt : N} {rows : List (SR N)} (ok : OkS rt rows) {q r : SR N} (hq : q ∈ rows) (hr : r ∈ rows) (e : q.nm = r.nm) : q = r := by
  obtain ⟨i, hi⟩ := List.mem_iff_getElem?.mp hq
  obtain ⟨j, hj⟩ := List.mem_iff_getElem?.mp hr
  obtain ⟨li, ei⟩ := List.getElem?_eq_some_iff.mp hi
  obtain ⟨lj, ej⟩ := List.getElem?_eq_some_iff.mp hj
  have : i = j := (List.getElem_inj ok.1 (h₀ := by rw [List.length_map]; exact li) (h₁ := by rw [List.length_map]; exact lj)).mp (by
    rw [List.getElem_map, List.getElem_map, ei, ej, e])
  subst this
  rw [← ei, ej]
/-- what holds of the root, and of each group if it holds of the one above it, holds of all -/
theorem OkS.ind {rt : N} {rows : List (SR N)} (ok : OkS rt rows) {p : N → Prop} (h0 : p rt) (hs : ∀ r ∈ rows, p r.up → p r.nm) : ∀ r ∈ rows, p r.nm := by
  have main : ∀ (i : Nat) (r : SR N), rows[i]? = some r → p r.nm := by
    intro i
    induction i using Nat.strongRecOn with
    | ind i ih =>
      intro r hr
      have hm := List.mem_of_getElem? hr
      refine hs r hm ?_
      rcases (ok.2 i r hr).2 with e | ⟨q, hq, e⟩
      · rw [e]; exact h0
      · obtain ⟨j, hj⟩ := List.mem_iff_getElem?.mp hq
        have lt : j < i := by
          have := (List.getElem?_eq_some_iff.mp hj).1
          rw [List.length_take] at this
          omega
        rw [List.getElem?_take_of_lt lt] at hj
        rw [← e]
        exact ih j lt q hj
  intro r hr
  obtain ⟨i, hi⟩ := List.mem_iff_getElem?.mp hr
  exact main i r hi
theorem OkS.up_in {rt : N} {rows : List (SR N)} (ok : OkS rt rows) {r : SR N} (hr : r ∈ rows) : r.up = rt ∨ ∃ q ∈ rows, q.nm = r.up := by
  obtain ⟨i, hi⟩ := List.mem_iff_getElem?.mp hr
  rcases (ok.2 i r hi).2 with e | ⟨q, hq, e⟩
  · exact .inl e
  · exact .inr ⟨q, List.mem_of_mem_take hq, e⟩
theorem OkS.ne {rt : N} {rows : List (SR N)} (ok : OkS rt rows) {r : SR N} (hr : r ∈ rows) : r.nm ≠ rt := by
  obtain ⟨i, hi⟩ := List.mem_iff_getElem?.mp hr
  exact (ok.2 i r hi).1
/-- what is handed down is one thing -/
theorem handed_uniq {rt : N} {rows : List (SR N)} {whole : List Int} {has has' : N → List Int} {al al' : N → Bool} (ok : OkS rt rows) (h : Handed rt rows whole has al) (h' : Handed rt rows whole has' al') :
    ∀ r ∈ rows, has r.nm = has' r.nm ∧ al r.nm = al' r.nm := by
  refine ok.ind (p := fun n => has n = has' n ∧ al n = al' n) ⟨by rw [h.h0, h'.h0], by rw [h.a0, h'.a0]⟩ fun r hr ⟨e1, e2⟩ => ?_
  have ea : al r.nm = al' r.nm := by rw [h.a1 r hr, h'.a1 r hr, e1, e2]
  exact ⟨by rw [h.h1 r hr, h'.h1 r hr, e1, e2, ea], ea⟩
theorem mem_without {x : Int} {xs gone : List Int} : x ∈ withoutS xs gone ↔ x ∈ xs ∧ x ∉ gone := by
  unfold withoutS
  rw [List.mem_filter]
  simp
theorem mem_kids {rows : List (SR N)} {n : N} {r : SR N} : r ∈ kidsS rows n ↔ r ∈ rows ∧ r.up = n := by
  unfold kidsS
  rw [List.mem_filter]
  simp
/-! ### strictly rising -/
abbrev Rise (xs : List Int) : Prop := xs.Pairwise (· < ·)
theorem Rise.filter {xs : List Int} (h : Rise xs) (p : Int → Bool) : Rise (xs.filter p) := List.Pairwise.filter p h
theorem Rise.nodup {xs : List Int} (h : Rise xs) : xs.Nodup := List.Pairwise.imp (fun h => Int.ne_of_lt h) h
/-- two rising lists with the same members are one -/
theorem Rise.ext : ∀ {xs ys : List Int}, Rise xs → Rise ys → (∀ x, x ∈ xs ↔ x ∈ ys) → xs = ys
  | [], [], _, _, _ => rfl
  | [], y :: ys, _, _, h => absurd ((h y).mpr List.mem_cons_self) (by simp)
  | x :: xs, [], _, _, h => absurd ((h x).mp List.mem_cons_self) (by simp)
  | x :: xs, y :: ys, hx, hy, h => by
    obtain ⟨x1, x2⟩ := List.pairwise_cons.mp hx
    obtain ⟨y1, y2⟩ := List.pairwise_cons.mp hy
    have exy : x = y := by
      rcases List.mem_cons.mp ((h x).mp List.mem_cons_self) with e | m
      · exact e
      · rcases List.mem_cons.mp ((h y).mpr List.mem_cons_self) with e | m'
        · exact e.symm
        · have := x1 y m'
          have := y1 x m
          omega
    subst exy
    rw [Rise.ext x2 y2 fun z => ⟨fun m => ?_, fun m => ?_⟩]
    · rcases List.mem_cons.mp ((h z).mp (List.mem_cons_of_mem _ m)) with e | k
      · have := x1 z m
        omega
      · exact k
    · rcases List.mem_cons.mp ((h z).mpr (List.mem_cons_of_mem _ m)) with e | k
      · have := y1 z m
        omega
      · exact k
theorem len_without : ∀ {free gone : List Int}, free.Nodup → free.length ≤ (withoutS free gone).length + gone.length
  | free, [], _ => by
    have : withoutS free [] = free := List.filter_eq_self.mpr fun x _ => by simp
    rw [this]
    exact Nat.le_refl _
  | free, g :: gone, h => by
    have ih := len_without (gone := gone) h
    have e : withoutS free (g :: gone) = (withoutS free gone).filter fun x => !decide (x = g) := by
      unfold withoutS
      rw [List.filter_filter]
      refine List.filter_congr fun x _ => ?_
      simp
    have hn : (withoutS free gone).Nodup := List.Pairwise.filter _ h
    have : (withoutS free gone).length ≤ ((withoutS free gone).filter fun x => !decide (x = g)).length + 1 := by
      generalize withoutS free gone = zs at hn
      clear e ih h
      induction zs with
      | nil => exact Nat.zero_le _
      | cons z zs ih =>
        obtain ⟨n1, n2⟩ := List.nodup_cons.mp hn
        by_cases c : z = g
        · subst c
          have : (zs.filter fun x => !decide (x = z)) = zs := List.filter_eq_self.mpr fun x hx => by
            have : x ≠ z := fun e => n1 (e ▸ hx)
            simpa using this
          rw [List.filter_cons_of_neg (by simp), this, List.length_cons]
          exact Nat.le_refl _
        · rw [List.filter_cons_of_pos (by simpa using c), List.length_cons, List.length_cons]
          have := ih n2
          omega
    rw [e, List.length_cons]
    omega
/-! ### the choice of those that stand alone -/
theorem may_ask {r : SR N} {free : List Int} (h : mayS r free = true) : r.al = true ∧ ∃ a, r.ask = some a ∧ a ≠ [] ∧ (∀ x ∈ a, x ∈ free) ∧ a.length < free.length := by
  unfold mayS at h
  rw [Bool.and_eq_true] at h
  refine ⟨h.1, ?_⟩
  cases e : r.ask with
  | none =>
    rw [e] at h
    exact absurd h.2 (by simp)
  | some a =>
    rw [e] at h
    have h2 := h.2
    simp only [Bool.and_eq_true, Bool.not_eq_true', List.all_eq_true, decide_eq_true_eq, List.isEmpty_eq_false_iff] at h2
    exact ⟨a, rfl, h2.1, h2.2.1, h2.2.2⟩
theorem may_of {r : SR N} {free a : List Int} (h0 : r.al = true) (h1 : r.ask = some a) (h2 : a ≠ []) (h3 : ∀ x ∈ a, x ∈ free) (h4 : a.length < free.length) : mayS r free = true := by
  unfold mayS
  rw [h0, h1]
  simp only [Bool.true_and, Bool.and_eq_true, Bool.not_eq_true', List.all_eq_true, decide_eq_true_eq, List.isEmpty_eq_false_iff]
  exact ⟨h2, h3, h4⟩
/-- the state of the choice after some kids -/
structure PickOk (kids : List (SR N)) (own : List Int) (s : List N × List Int) : Prop where
  sub : ∀ n ∈ s.1, ∃ r ∈ kids, r.nm = n ∧ r.al = true ∧ ∃ a, r.ask = some a ∧ a ≠ [] ∧ (∀ x ∈ a, x ∈ own) ∧ ∀ x ∈ a, x ∉ s.2
  left : ∀ x, x ∈ s.2 ↔ x ∈ own ∧ ∀ r ∈ kids, r.nm ∈ s.1 → x ∉ r.ask.getD []
  ne : s.2 ≠ []
  rise : Rise s.2
  apart : ∀ q ∈ kids, ∀ r ∈ kids, q.nm ∈ s.1 → r.nm ∈ s.1 → q.nm ≠ r.nm → ∀ x ∈ q.ask.getD [], x ∉ r.ask.getD []
theorem PickOk.start {own : List Int} (hr : Rise own) (hn : own ≠ []) : PickOk ([] : List (SR N)) own ([], own) :=
  ⟨fun n h => by simp at h, fun x => by simp, hn, hr, fun q h => by simp at h⟩
theorem PickOk.step {kids : List (SR N)} {own : List Int} {s : List N × List Int} {r : SR N} (h : PickOk kids own s) (hn : ∀ q ∈ kids, q.nm ≠ r.nm) : PickOk (kids ++ [r]) own (pStep s r) := by
  have hs1 : r.nm ∉ s.1 := fun m => by
    obtain ⟨q, hq, e, _⟩ := h.sub _ m
    exact hn q hq e
  unfold pStep
  cases c : mayS r s.2 with
  | false =>
    rw [if_neg (by decide)]
    refine ⟨fun n m => ?_, fun x => ?_, h.ne, h.rise, ?_⟩
    · obtain ⟨q, hq, z⟩ := h.sub n m
      exact ⟨q, List.mem_append_left _ hq, z⟩
    · rw [h.left]
      constructor
      · rintro ⟨a, b⟩
        refine ⟨a, fun q hq m => ?_⟩
        rcases List.mem_append.mp hq with hq | hq
        · exact b q hq m
        · rw [List.mem_singleton.mp hq] at m
          exact absurd m hs1
      · rintro ⟨a, b⟩
        exact ⟨a, fun q hq m => b q (List.mem_append_left _ hq) m⟩
    · intro q hq q' hq' m m' ne
      rcases List.mem_append.mp hq with hq | hq
      · rcases List.mem_append.mp hq' with hq' | hq'
        · exact h.apart q hq q' hq' m m' ne
        · rw [List.mem_singleton.mp hq'] at m'
          exact absurd m' hs1
      · rw [List.mem_singleton.mp hq] at m
        exact absurd m hs1
  | true =>
    rw [if_pos rfl]
    obtain ⟨h0, a, ha, h2, h3, h4⟩ := may_ask c
    have eg : r.ask.getD [] = a := by rw [ha]; rfl
    rw [eg]
    have old : ∀ q ∈ kids, q.nm ∈ s.1 → ∀ x ∈ q.ask.getD [], x ∉ a := fun q hq m x hx hxa => ((h.left x).mp (h3 x hxa)).2 q hq m hx
    refine ⟨fun n m => ?_, fun x => ?_, ?_, h.rise.filter _, ?_⟩
    · rcases List.mem_append.mp m with m | m
      · obtain ⟨q, hq, e1, e2, a', e3, e4, e5, e6⟩ := h.sub n m
        exact ⟨q, List.mem_append_left _ hq, e1, e2, a', e3, e4, e5, fun x hx hw => e6 x hx (mem_without.mp hw).1⟩
      · exact ⟨r, List.mem_append_right _ List.mem_cons_self, (List.mem_singleton.mp m).symm, h0, a, ha, h2, fun x hx => ((h.left x).mp (h3 x hx)).1, fun x hx hw => (mem_without.mp hw).2 hx⟩
    · show x ∈ withoutS s.2 a ↔ _
      rw [mem_without, h.left]
      constructor
      · rintro ⟨⟨b1, b2⟩, b3⟩
        refine ⟨b1, fun q hq m => ?_⟩
        rcases List.mem_append.mp hq with hq | hq
        · rcases List.mem_append.mp m with m | m
          · exact b2 q hq m
          · exact absurd (List.mem_singleton.mp m) (hn q hq)
        · rw [List.mem_singleton.mp hq, eg]
          exact b3
      · rintro ⟨b1, b2⟩
        refine ⟨⟨b1, fun q hq m => b2 q (List.mem_append_left _ hq) (List.mem_append_left _ m)⟩, ?_⟩
        have := b2 r (List.mem_append_right _ List.mem_cons_self) (List.mem_append_right _ List.mem_cons_self)
        rw [eg] at this
        exact this
    · intro e
      have := len_without (gone := a) h.rise.nodup
      have e' : withoutS s.2 a = [] := e
      rw [e', List.length_nil] at this
      omega
    · intro q hq q' hq' m m' ne
      rcases List.mem_append.mp hq with hq | hq
      · rcases List.mem_append.mp m with m | m
        · rcases List.mem_append.mp hq' with hq' | hq'
          · rcases List.mem_append.mp m' with m' | m'
            · exact h.apart q hq q' hq' m m' ne
            · exact absurd (List.mem_singleton.mp m') (hn q' hq')
          · rw [List.mem_singleton.mp hq', eg]
            exact old q hq m
        · exact absurd (List.mem_singleton.mp m) (hn q hq)
      · rcases List.mem_append.mp hq' with hq' | hq'
        · rcases List.mem_append.mp m' with m' | m'
          · rw [List.mem_singleton.mp hq, eg]
            exact fun x hx hx' => old q' hq' m' x hx' hx
          · exact absurd (List.mem_singleton.mp m') (hn q' hq')
        · rw [List.mem_singleton.mp hq, List.mem_singleton.mp hq'] at ne
          exact absurd rfl ne
theorem pick_ok {own : List Int} (hr : Rise own) (hn : own ≠ []) {kids : List (SR N)} (nd : (kids.map (·.nm)).Nodup) (b : Bool) : PickOk kids own (pick b kids own) := by
  unfold pick
  cases b with
  | false =>
    rw [if_neg (by decide)]
    exact ⟨fun n h => by simp at h, fun x => by simp, hn, hr, fun q _ r _ m => by simp at m⟩
  | true =>
    rw [if_pos rfl]
    have main : ∀ (more done : List (SR N)) (s : List N × List Int), ((done ++ more).map (·.nm)).Nodup → PickOk done own s → PickOk (done ++ more) own (more.foldl pStep s) := by
      intro more
      induction more with
      | nil =>
        intro done s _ h
        rw [List.append_nil]
        exact h
      | cons r more ih =>
        intro done s nd h
        have e : done ++ r :: more = (done ++ [r]) ++ more := by simp
        rw [e] at nd ⊢
        refine ih (done ++ [r]) _ nd (h.step fun q hq e => ?_)
        rw [List.map_append, List.map_append, List.nodup_append, List.nodup_append] at nd
        exact nd.1.2.2 q.nm (List.mem_map_of_mem hq) r.nm (by simp) e
    exact main kids [] _ nd (.start hr hn)
theorem kids_nd {rows : List (SR N)} (nd : (rows.map (·.nm)).Nodup) (n : N) : ((kidsS rows n).map (·.nm)).Nodup := nd.sublist (List.Sublist.map _ List.filter_sublist)
/-! ### facts of what is handed down -/
theorem shared_sub {ask : Option (List Int)} {free : List Int} : ∀ x ∈ sharedS ask free, x ∈ free := by
  intro x
  unfold sharedS
  split
  · exact id
  · exact fun h => (List.mem_filter.mp h).1
theorem shared_ne {ask : Option (List Int)} {free : List Int} (h : free ≠ []) : sharedS ask free ≠ [] := by
  unfold sharedS
  cases c : (free.filter (asksB ask)).isEmpty with
  | true => exact h
  | false =>
    intro e
    have e' : free.filter (asksB ask) = [] := e
    rw [e'] at c
    exact absurd c (by decide)
theorem shared_rise {ask : Option (List Int)} {free : List Int} (h : Rise free) : Rise (sharedS ask free) := by
  unfold sharedS
  split
  · exact h
  · exact h.filter _
/-- all asks rise -/
def AskOk (rows : List (SR N)) : Prop := ∀ r ∈ rows, ∀ a, r.ask = some a → Rise a
theorem handed_has {rt : N} {rows : List (SR N)} {whole : List Int} {has : N → List Int} {al : N → Bool} (ok : OkS rt rows) (asks : AskOk rows) (hw : Rise whole) (hn : whole ≠ []) (h : Handed rt rows whole has al) :
    ∀ r ∈ rows, has r.nm ≠ [] ∧ Rise (has r.nm) := by
  refine ok.ind (p := fun n => has n ≠ [] ∧ Rise (has n)) (by rw [h.h0]; exact ⟨hn, hw⟩) fun r hr ⟨e1, e2⟩ => ?_
  have pk := pick_ok e2 e1 (kids_nd ok.1 r.up) (al r.up)
  rw [h.h1 r hr]
  cases c : al r.nm with
  | false =>
    rw [if_neg (by decide)]
    exact ⟨shared_ne pk.ne, shared_rise pk.rise⟩
  | true =>
    rw [if_pos rfl]
    have m := h.a1 r hr
    rw [c] at m
    obtain ⟨q, hq, e, _, a, ea, na, _⟩ := pk.sub _ (of_decide_eq_true m.symm)
    have := ok.uniq (mem_kids.mp hq).1 hr e
    subst this
    rw [ea]
    exact ⟨na, asks q hr a ea⟩
end
end Bs
end

section
namespace Bs
/-- a stands on the line from n up to the root -/
inductive Anc {N : Type} (rows : List (SR N)) : N → N → Prop
  | refl (n : N) : Anc rows n n
  | step {a : N} {r : SR N} (h : r ∈ rows) (u : Anc rows a r.up) : Anc rows a r.nm
section
variable {N : Type} [DecidableEq N]
/-- the line as the law tells it: the rows from the last to the first -/
def lineS : List (SR N) → N → List N
  | [], _ => []
  | r :: rs, n => if r.nm = n then n :: lineS rs r.up else lineS rs n
theorem anc_root {rt : N} {rows : List (SR N)} (ok : OkS rt rows) {a : N} (h : Anc rows a rt) : a = rt := by
  have main : ∀ n, Anc rows a n → n = rt → a = rt := by
    intro n h
    induction h with
    | refl => exact id
    | step hr u ih => exact fun e => absurd e (ok.ne hr)
  exact main rt h rfl
theorem anc_line {rt : N} {rows : List (SR N)} (ok : OkS rt rows) {a : N} (ha : a ≠ rt) : ∀ {r : SR N}, r ∈ rows → Anc rows a r.nm → a ∈ lineS rows.reverse r.nm := by
  have main : ∀ (k : Nat), k ≤ rows.length → ∀ (i : Nat) (r : SR N), i < k → rows[i]? = some r → Anc rows a r.nm → a ∈ lineS (rows.take k).reverse r.nm := by
    intro k
    induction k with
    | zero => intro _ i r h; omega
    | succ k ih =>
      intro hk i r hi hr ha'
      have hlt : k < rows.length := by omega
      have e : (rows.take (k + 1)).reverse = rows[k] :: (rows.take k).reverse := by
        rw [List.take_add_one, List.getElem?_eq_getElem hlt, Option.toList_some, List.reverse_append]
        rfl
      rw [e, lineS]
      by_cases c : i = k
      · subst c
        rw [List.getElem?_eq_getElem hlt] at hr
        cases hr
        rw [if_pos rfl]
        have hm : rows[i] ∈ rows := List.getElem_mem hlt
        have key : ∀ n, Anc rows a n → n = rows[i].nm → a = rows[i].nm ∨ Anc rows a rows[i].up := by
          intro n h
          induction h with
          | refl => exact fun e => .inl e
          | step hr u _ => exact fun e => .inr (by rw [← ok.uniq hr hm e]; exact u)
        rcases key _ ha' rfl with e | u
        · rw [e]
          exact List.mem_cons_self
        · refine List.mem_cons_of_mem _ ?_
          rcases (ok.2 i rows[i] (List.getElem?_eq_getElem hlt)).2 with e | ⟨q, hq, e⟩
          · rw [e] at u
            exact absurd (anc_root ok u) ha
          · obtain ⟨j, hj⟩ := List.mem_iff_getElem?.mp hq
            have lt : j < i := by
              have := (List.getElem?_eq_some_iff.mp hj).1
              rw [List.length_take] at this
              omega
            rw [List.getElem?_take_of_lt lt] at hj
            rw [← e] at u ⊢
            exact ih (by omega) j q lt hj u
      · have ne : rows[k].nm ≠ r.nm := fun e => by
          have h1 := ok.uniq (List.getElem_mem hlt) (List.mem_of_getElem? hr) e
          obtain ⟨li, ei⟩ := List.getElem?_eq_some_iff.mp hr
          have : k = i := (List.getElem_inj ok.1 (h₀ := by rw [List.length_map]; exact hlt) (h₁ := by rw [List.length_map]; exact li)).mp (by
            rw [List.getElem_map, List.getElem_map, ei, e])
          omega
        rw [if_neg ne]
        exact ih (by omega) i r (by omega) hr ha'
  intro r hr h
  obtain ⟨i, hi⟩ := List.mem_iff_getElem?.mp hr
  have := main rows.length (Nat.le_refl _) i r (List.getElem?_eq_some_iff.mp hi).1 hi h
  rw [List.take_length] at this
  exact this
theorem anc_child {rows : List (SR N)} {a n : N} (h : Anc rows a n) : a = n ∨ ∃ c ∈ rows, c.up = a ∧ Anc rows c.nm n := by
  induction h with
  | refl => exact .inl rfl
  | step hr u ih =>
    rcases ih with e | ⟨c, hc, e, k⟩
    · exact .inr ⟨_, hr, e.symm, .refl _⟩
    · exact .inr ⟨c, hc, e, .step hr k⟩
section
variable {rt : N} {rows : List (SR N)} {whole : List Int} {has : N → List Int} {al : N → Bool}
/-- what a group's choice is, its own known -/
theorem pick_at (ok : OkS rt rows) (asks : AskOk rows) (hw : Rise whole) (hn : whole ≠ []) (h : Handed rt rows whole has al) {n : N} (hm : n = rt ∨ ∃ r ∈ rows, r.nm = n) : PickOk (kidsS rows n) (has n) (pick (al n) (kidsS rows n) (has n)) := by
  have : has n ≠ [] ∧ Rise (has n) := by
    rcases hm with e | ⟨r, hr, e⟩
    · rw [e, h.h0]
      exact ⟨hn, hw⟩
    · rw [← e]
      exact handed_has ok asks hw hn h r hr
  exact pick_ok this.2 this.1 (kids_nd ok.1 n) _
theorem up_or {r : SR N} (ok : OkS rt rows) (hr : r ∈ rows) : r.up = rt ∨ ∃ q ∈ rows, q.nm = r.up := ok.up_in hr
/-- one that stands alone has what it asks, it is marked, and the one above it stands alone -/
theorem alone_is (ok : OkS rt rows) (asks : AskOk rows) (hw : Rise whole) (hn : whole ≠ []) (h : Handed rt rows whole has al) {r : SR N} (hr : r ∈ rows) (ha : al r.nm = true) :
    r.al = true ∧ r.ask = some (has r.nm) ∧ al r.up = true ∧ ∀ x ∈ has r.nm, x ∈ has r.up := by
  have pk := pick_at ok asks hw hn h (up_or ok hr)
  have m := h.a1 r hr
  rw [ha] at m
  have m' := of_decide_eq_true m.symm
  obtain ⟨q, hq, e, e2, a, ea, na, sb, _⟩ := pk.sub _ m'
  have := ok.uniq (mem_kids.mp hq).1 hr e
  subst this
  have eh := h.h1 q hr
  rw [ha, if_pos rfl, ea] at eh
  have eh : has q.nm = a := eh
  refine ⟨e2, by rw [ea, eh], ?_, by rw [eh]; exact sb⟩
  cases c : al q.up with
  | true => rfl
  | false =>
    rw [c] at m'
    unfold pick at m'
    rw [if_neg (by decide)] at m'
    simp at m'
theorem has_sub (ok : OkS rt rows) (asks : AskOk rows) (hw : Rise whole) (hn : whole ≠ []) (h : Handed rt rows whole has al) {r : SR N} (hr : r ∈ rows) : ∀ x ∈ has r.nm, x ∈ has r.up := by
  cases c : al r.nm with
  | true => exact (alone_is ok asks hw hn h hr c).2.2.2
  | false =>
    have pk := pick_at ok asks hw hn h (up_or ok hr)
    intro x hx
    rw [h.h1 r hr, c, if_neg (by decide)] at hx
    exact ((pk.left x).mp (shared_sub x hx)).1
theorem anc_sub (ok : OkS rt rows) (asks : AskOk rows) (hw : Rise whole) (hn : whole ≠ []) (h : Handed rt rows whole has al) {a n : N} (u : Anc rows a n) : ∀ x ∈ has n, x ∈ has a := by
  induction u with
  | refl => exact fun x hx => hx
  | step hr u ih => exact fun x hx => ih x (has_sub ok asks hw hn h hr x hx)
theorem anc_alone (ok : OkS rt rows) (asks : AskOk rows) (hw : Rise whole) (hn : whole ≠ []) (h : Handed rt rows whole has al) {a n : N} (u : Anc rows a n) (hx : al n = true) : al a = true := by
  induction u with
  | refl => exact hx
  | step hr u ih => exact ih (alone_is ok asks hw hn h hr hx).2.2.1
theorem sib (ok : OkS rt rows) (asks : AskOk rows) (hw : Rise whole) (hn : whole ≠ []) (h : Handed rt rows whole has al) {c r : SR N} (hc : c ∈ rows) (hr : r ∈ rows) (e : c.up = r.up) (ne : c.nm ≠ r.nm) (ha : al c.nm = true) {x : Int} (h1 : x ∈ has c.nm) (h2 : x ∈ has r.nm) : False := by
  have pk := pick_at ok asks hw hn h (up_or ok hr)
  have mc := h.a1 c hc
  rw [ha, e] at mc
  have mc := of_decide_eq_true mc.symm
  have kc : c ∈ kidsS rows r.up := mem_kids.mpr ⟨hc, e⟩
  have kr : r ∈ kidsS rows r.up := mem_kids.mpr ⟨hr, rfl⟩
  have ec := (alone_is ok asks hw hn h hc ha).2.1
  cases d : al r.nm with
  | true =>
    have mr := h.a1 r hr
    rw [d] at mr
    have er := (alone_is ok asks hw hn h hr d).2.1
    refine pk.apart c kc r kr mc (of_decide_eq_true mr.symm) ne x ?_ ?_
    · rw [ec]; exact h1
    · rw [er]; exact h2
  | false =>
    rw [h.h1 r hr, d, if_neg (by decide)] at h2
    have := ((pk.left x).mp (shared_sub x h2)).2 c kc mc
    rw [ec] at this
    exact this h1
/-- what two groups share, of which one stands alone: then one stands on the other's line -/
theorem handed_apart (ok : OkS rt rows) (asks : AskOk rows) (hw : Rise whole) (hn : whole ≠ []) (h : Handed rt rows whole has al) {p : SR N} (hp : p ∈ rows) (ha : al p.nm = true) {x : Int} (hx : x ∈ has p.nm) :
    ∀ r ∈ rows, x ∈ has r.nm → Anc rows p.nm r.nm ∨ Anc rows r.nm p.nm := by
  refine ok.ind (p := fun n => x ∈ has n → Anc rows p.nm n ∨ Anc rows n p.nm) (fun _ => .inr ?_) fun r hr ih hx2 => ?_
  · exact ok.ind (p := fun n => Anc rows rt n) (.refl rt) (fun r hr u => .step hr u) p hp
  · rcases ih (has_sub ok asks hw hn h hr x hx2) with u | u
    · exact .inl (.step hr u)
    · rcases anc_child u with e | ⟨c, hc, e, k⟩
      · exact .inl (.step hr (by rw [← e]; exact .refl _))
      · by_cases ne : c.nm = r.nm
        · rw [← ne]
          exact .inr k
        · exact (sib ok asks hw hn h hc hr e ne (anc_alone ok asks hw hn h k ha) (anc_sub ok asks hw hn h k x hx) hx2).elim
/-- what is left of a group's own: what none of the chosen has -/
theorem left_is (ok : OkS rt rows) (asks : AskOk rows) (hw : Rise whole) (hn : whole ≠ []) (h : Handed rt rows whole has al) {n : N} (hm : n = rt ∨ ∃ r ∈ rows, r.nm = n) :
    (pick (al n) (kidsS rows n) (has n)).2 = (has n).filter fun x => !(((kidsS rows n).filter fun r => al r.nm).any fun r => decide (x ∈ has r.nm)) := by
  have pk := pick_at ok asks hw hn h hm
  have hr : Rise (has n) := by
    rcases hm with e | ⟨r, hr, e⟩
    · rw [e, h.h0]; exact hw
    · rw [← e]; exact (handed_has ok asks hw hn h r hr).2
  refine Rise.ext pk.rise (hr.filter _) fun x => ?_
  rw [pk.left, List.mem_filter]
  refine and_congr_right fun _ => ?_
  rw [Bool.not_eq_true', List.any_eq_false]
  constructor
  · intro z q hq
    obtain ⟨hq, ha⟩ := List.mem_filter.mp hq
    obtain ⟨hq1, hq2⟩ := mem_kids.mp hq
    have m := h.a1 q hq1
    rw [ha, hq2] at m
    have := z q hq (of_decide_eq_true m.symm)
    rw [(alone_is ok asks hw hn h hq1 ha).2.1] at this
    simpa using this
  · intro z q hq hmem
    obtain ⟨hq1, hq2⟩ := mem_kids.mp hq
    have m := h.a1 q hq1
    rw [hq2, decide_eq_true hmem] at m
    have := z q (List.mem_filter.mpr ⟨hq, m⟩)
    rw [(alone_is ok asks hw hn h hq1 m).2.1]
    simpa using this
theorem has_is (h : Handed rt rows whole has al) {r : SR N} (hr : r ∈ rows) (ha : al r.nm = false) : has r.nm = sharedS r.ask (pick (al r.up) (kidsS rows r.up) (has r.up)).2 := by
  rw [h.h1 r hr, ha, if_neg (by decide)]
/-! ### one leaf less -/
theorem pick_mono (x : N) : ∀ (kids : List (SR N)) (s : List N × List Int), x ∈ s.1 → x ∈ (kids.foldl pStep s).1
  | [], _, h => h
  | r :: rs, s, h => pick_mono x rs (pStep s r) (by
    unfold pStep
    split
    · exact List.mem_append_left _ h
    · exact h)
theorem pick_less (x : N) : ∀ (kids : List (SR N)) (s : List N × List Int), x ∉ (kids.foldl pStep s).1 → (kids.filter fun r => !decide (r.nm = x)).foldl pStep s = kids.foldl pStep s
  | [], _, _ => rfl
  | r :: rs, s, h => by
    by_cases c : r.nm = x
    · rw [List.filter_cons_of_neg (by simpa using c)]
      have h' : x ∉ (rs.foldl pStep (pStep s r)).1 := h
      have e : pStep s r = s := by
        unfold pStep
        cases d : mayS r s.2 with
        | false => rw [if_neg (by decide)]
        | true =>
          exfalso
          refine h' (pick_mono x rs _ ?_)
          unfold pStep
          rw [d, if_pos rfl, ← c]
          exact List.mem_append_right _ List.mem_cons_self
      show _ = rs.foldl pStep (pStep s r)
      rw [e] at h' ⊢
      exact pick_less x rs s h'
    · rw [List.filter_cons_of_pos (by simpa using c)]
      exact pick_less x rs (pStep s r) h
theorem less_ok (ok : OkS rt rows) {x : N} (hx : ∀ r ∈ rows, r.up ≠ x) : OkS rt (rows.filter fun r => !decide (r.nm = x)) := by
  refine ⟨ok.1.sublist (List.Sublist.map _ List.filter_sublist), fun i r hi => ?_⟩
  have hm := List.mem_of_getElem? hi
  obtain ⟨hr, _⟩ := List.mem_filter.mp hm
  refine ⟨ok.ne hr, ?_⟩
  -- the part ahead of it
  have key : ∀ (l : List (SR N)) (i : Nat) (r : SR N), (l.filter fun r => !decide (r.nm = x))[i]? = some r → ∃ j, l[j]? = some r ∧ ∀ q ∈ l.take j, q.nm ≠ x → q ∈ (l.filter fun r => !decide (r.nm = x)).take i := by
    intro l
    induction l with
    | nil => intro i r h; simp at h
    | cons a l ih =>
      intro i r h
      by_cases c : a.nm = x
      · rw [List.filter_cons_of_neg (by simpa using c)] at h ⊢
        obtain ⟨j, h1, h2⟩ := ih i r h
        refine ⟨j + 1, by simpa using h1, fun q hq nq => ?_⟩
        rw [List.take_succ_cons] at hq
        rcases List.mem_cons.mp hq with e | hq
        · exact absurd (by rw [e]; exact c) nq
        · exact h2 q hq nq
      · rw [List.filter_cons_of_pos (by simpa using c)] at h ⊢
        cases i with
        | zero =>
          have : a = r := by simpa using h
          exact ⟨0, by rw [this]; rfl, fun q hq => by simp at hq⟩
        | succ i =>
          obtain ⟨j, h1, h2⟩ := ih i r (by simpa using h)
          refine ⟨j + 1, by simpa using h1, fun q hq nq => ?_⟩
          rw [List.take_succ_cons] at hq ⊢
          rcases List.mem_cons.mp hq with e | hq
          · rw [e]; exact List.mem_cons_self
          · exact List.mem_cons_of_mem _ (h2 q hq nq)
  obtain ⟨j, hj, hsub⟩ := key rows i r hi
  rcases (ok.2 j r hj).2 with e | ⟨q, hq, e⟩
  · exact .inl e
  · exact .inr ⟨q, hsub q hq (by rw [e]; exact hx r hr), e⟩
theorem kids_less {x : N} (n : N) : kidsS (rows.filter fun r => !decide (r.nm = x)) n = (kidsS rows n).filter fun r => !decide (r.nm = x) := by
  unfold kidsS
  rw [List.filter_filter, List.filter_filter]
  refine List.filter_congr fun r _ => ?_
  rw [Bool.and_comm]
theorem handed_less (ok : OkS rt rows) (h : Handed rt rows whole has al) {p : SR N} (hp : p ∈ rows) (ha : al p.nm = false) : Handed rt (rows.filter fun r => !decide (r.nm = p.nm)) whole has al := by
  have key : ∀ r ∈ rows, pick (al r.up) (kidsS (rows.filter fun r => !decide (r.nm = p.nm)) r.up) (has r.up) = pick (al r.up) (kidsS rows r.up) (has r.up) := by
    intro r hr
    rw [kids_less]
    by_cases c : p.up = r.up
    · have m := h.a1 p hp
      rw [ha, c] at m
      have m := of_decide_eq_false m.symm
      unfold pick at m ⊢
      cases d : al r.up with
      | false => rfl
      | true =>
        rw [d, if_pos rfl] at m
        rw [if_pos rfl, if_pos rfl]
        exact pick_less p.nm _ _ m
    · have : ((kidsS rows r.up).filter fun r => !decide (r.nm = p.nm)) = kidsS rows r.up := List.filter_eq_self.mpr fun q hq => by
        obtain ⟨h1, h2⟩ := mem_kids.mp hq
        have : q.nm ≠ p.nm := fun e => c (by rw [← h2, ok.uniq h1 hp e])
        simpa using this
      rw [this]
  refine ⟨h.h0, h.a0, fun r hr => ?_, fun r hr => ?_⟩
  · have hr := (List.mem_filter.mp hr).1
    rw [key r hr]
    exact h.a1 r hr
  · have hr := (List.mem_filter.mp hr).1
    rw [key r hr]
    exact h.h1 r hr
/-! ### one processor alone -/
theorem handed_one (ok : OkS rt rows) {z : Int} (h : Handed rt rows [z] has al) : ∀ r ∈ rows, has r.nm = [z] ∧ al r.nm = false := by
  have no : ∀ r : SR N, mayS r [z] = false := fun r => by
    cases c : mayS r [z] with
    | false => rfl
    | true =>
      obtain ⟨_, a, _, na, _, la⟩ := may_ask c
      have : a.length ≠ 0 := fun e => na (List.eq_nil_of_length_eq_zero e)
      rw [List.length_singleton] at la
      omega
  have pk : ∀ (kids : List (SR N)) (b : Bool), pick b kids [z] = ([], [z]) := fun kids b => by
    unfold pick
    split
    · induction kids with
      | nil => rfl
      | cons r rs ih =>
        show rs.foldl pStep (pStep _ r) = _
        unfold pStep
        rw [no r, if_neg (by decide)]
        exact ih
    · rfl
  have main : ∀ r ∈ rows, has r.nm = [z] := by
    refine ok.ind (p := fun n => has n = [z]) h.h0 fun r hr e => ?_
    have ha : al r.nm = false := by
      rw [h.a1 r hr, e, pk]
      simp
    rw [has_is h hr ha, e, pk]
    unfold sharedS
    cases c : ([z].filter (asksB r.ask)).isEmpty with
    | true => rfl
    | false =>
      show [z].filter (asksB r.ask) = [z]
      by_cases d : asksB r.ask z = true
      · exact List.filter_cons_of_pos d
      · rw [List.filter_cons_of_neg d] at c
        exact absurd c (by simp)
  intro r hr
  refine ⟨main r hr, ?_⟩
  have : has r.up = [z] := by
    rcases ok.up_in hr with e | ⟨q, hq, e⟩
    · rw [e, h.h0]
    · rw [← e]; exact main q hq
  rw [h.a1 r hr, this, pk]
  simp
end
end
end Bs
end

section
namespace Bs
section
variable {N : Type} [DecidableEq N]
/-- what the program keeps while it hands down -/
structure HS (N : Type) where
  has : List (N × List Int)
  al : List N
def lookL (has : List (N × List Int)) (x : N) : Option (List Int) := (has.find? fun kv => decide (kv.1 = x)).map (·.2)
def putL (has : List (N × List Int)) (x : N) (v : List Int) : List (N × List Int) := if has.any (fun kv => decide (kv.1 = x)) then has.map fun kv => if kv.1 = x then (kv.1, v) else kv else has ++ [(x, v)]
def putA (al : List N) (x : N) : List N := if x ∈ al then al else al ++ [x]
def k1Step (n : N) (s : HS N × List Int) (r : SR N) : HS N × List Int := if decide (n ∈ s.1.al) && mayS r s.2 then (⟨putL s.1.has r.nm (r.ask.getD []), putA s.1.al r.nm⟩, withoutS s.2 (r.ask.getD [])) else s
def k2Step (free : List Int) (s : HS N) (r : SR N) : HS N := if r.nm ∈ s.al then s else ⟨putL s.has r.nm (sharedS r.ask free), s.al⟩
def nodeStep (rows : List (SR N)) (s : HS N) (n : N) : HS N :=
  (kidsS rows n).foldl (k2Step ((kidsS rows n).foldl (k1Step n) (s, (lookL s.has n).getD [])).2) ((kidsS rows n).foldl (k1Step n) (s, (lookL s.has n).getD [])).1
def start (rt : N) (whole : List Int) : HS N := ⟨[(rt, whole)], [rt]⟩
theorem look_put (has : List (N × List Int)) (x y : N) (v : List Int) : lookL (putL has x v) y = if y = x then some v else lookL has y := by
  unfold putL
  by_cases c : has.any (fun kv => decide (kv.1 = x)) = true
  · rw [if_pos c]
    have main : ∀ l : List (N × List Int), lookL (l.map fun kv => if kv.1 = x then (kv.1, v) else kv) y = if y = x ∧ l.any (fun kv => decide (kv.1 = x)) = true then some v else lookL l y := by
      intro l
      induction l with
      | nil => simp [lookL]
      | cons a l ih =>
        unfold lookL at ih ⊢
        rw [List.map_cons, List.find?_cons, List.find?_cons, List.any_cons]
        by_cases e : a.1 = x
        · rw [if_pos e]
          by_cases f : a.1 = y
          · have : y = x := by rw [← f, e]
            simp [e, this]
          · have : ¬ y = x := fun z => f (by rw [e, z])
            simp only [f, decide_false]
            rw [ih]
            simp [this]
        · rw [if_neg e]
          by_cases f : a.1 = y
          · have : ¬ y = x := fun z => e (by rw [f, z])
            simp [f, this]
          · simp only [f, e, decide_false, Bool.false_or]
            exact ih
    rw [main, c]
    by_cases e : y = x <;> simp [e]
  · rw [if_neg c]
    have c' : ∀ kv ∈ has, kv.1 ≠ x := by
      intro kv hkv e
      exact c (List.any_eq_true.mpr ⟨kv, hkv, by simpa using e⟩)
    unfold lookL
    rw [List.find?_append]
    by_cases e : y = x
    · subst e
      have : has.find? (fun kv => decide (kv.1 = y)) = none := List.find?_eq_none.mpr fun kv hkv => by simpa using c' kv hkv
      rw [this]
      simp
    · rw [if_neg e]
      have : ¬ x = y := fun z => e z.symm
      simp [this]
theorem mem_putA {al : List N} {x y : N} : y ∈ putA al x ↔ y ∈ al ∨ y = x := by
  unfold putA
  split
  · rename_i h
    constructor
    · exact .inl
    · rintro (m | e)
      · exact m
      · rw [e]; exact h
  · simp
/-- the first loop over a group's children -/
theorem loop1 {rt n : N} {s : HS N} {own : List Int} : ∀ (kids : List (SR N)), (kids.map (·.nm)).Nodup → (∀ r ∈ kids, r.nm ≠ n) → (∀ r ∈ kids, r.nm ∉ s.al) →
    (kids.foldl (k1Step n) (s, own)).2 = (pick (decide (n ∈ s.al)) kids own).2 ∧
    (∀ x, x ∈ (kids.foldl (k1Step n) (s, own)).1.al ↔ x ∈ s.al ∨ x ∈ (pick (decide (n ∈ s.al)) kids own).1) ∧
    (∀ r ∈ kids, r.nm ∈ (pick (decide (n ∈ s.al)) kids own).1 → lookL (kids.foldl (k1Step n) (s, own)).1.has r.nm = some (r.ask.getD [])) ∧
    (∀ x, x ∉ (pick (decide (n ∈ s.al)) kids own).1 → lookL (kids.foldl (k1Step n) (s, own)).1.has x = lookL s.has x) ∧
    (∀ x ∈ (pick (decide (n ∈ s.al)) kids own).1, ∃ r ∈ kids, r.nm = x) := by
  intro kids
  -- by the list's end
  have main : ∀ (m : Nat) (kids : List (SR N)), kids.length = m → (kids.map (·.nm)).Nodup → (∀ r ∈ kids, r.nm ≠ n) → (∀ r ∈ kids, r.nm ∉ s.al) →
    (kids.foldl (k1Step n) (s, own)).2 = (pick (decide (n ∈ s.al)) kids own).2 ∧
    (∀ x, x ∈ (kids.foldl (k1Step n) (s, own)).1.al ↔ x ∈ s.al ∨ x ∈ (pick (decide (n ∈ s.al)) kids own).1) ∧
    (∀ r ∈ kids, r.nm ∈ (pick (decide (n ∈ s.al)) kids own).1 → lookL (kids.foldl (k1Step n) (s, own)).1.has r.nm = some (r.ask.getD [])) ∧
    (∀ x, x ∉ (pick (decide (n ∈ s.al)) kids own).1 → lookL (kids.foldl (k1Step n) (s, own)).1.has x = lookL s.has x) ∧
    (∀ x ∈ (pick (decide (n ∈ s.al)) kids own).1, ∃ r ∈ kids, r.nm = x) := by
    intro m
    induction m with
    | zero =>
      intro kids hl _ _ _
      obtain rfl := List.eq_nil_of_length_eq_zero hl
      have e : pick (decide (n ∈ s.al)) ([] : List (SR N)) own = ([], own) := by
        unfold pick
        split <;> rfl
      rw [e]
      exact ⟨rfl, fun x => by simp, fun r h => by simp at h, fun x _ => rfl, fun x h => by simp at h⟩
    | succ m ih =>
      intro kids hl nd hn ha
      obtain ⟨init, r, rfl⟩ : ∃ init r, kids = init ++ [r] := by
        rcases List.eq_nil_or_concat kids with e | ⟨i, r, e⟩
        · rw [e] at hl; simp at hl
        · exact ⟨i, r, by rw [e]; simp⟩
      rw [List.map_append, List.nodup_append] at nd
      have hl' : init.length = m := by simpa using hl
      obtain ⟨i1, i2, i3, i4, i5⟩ := ih init hl' nd.1 (fun q hq => hn q (List.mem_append_left _ hq)) fun q hq => ha q (List.mem_append_left _ hq)
      have fresh : ∀ q ∈ init, q.nm ≠ r.nm := fun q hq => nd.2.2 q.nm (List.mem_map_of_mem hq) r.nm (by simp)
      have ef : (init ++ [r]).foldl (k1Step n) (s, own) = k1Step n (init.foldl (k1Step n) (s, own)) r := by rw [List.foldl_append]; rfl
      have hb : decide (n ∈ (init.foldl (k1Step n) (s, own)).1.al) = decide (n ∈ s.al) := by
        refine decide_eq_decide.mpr ?_
        rw [i2]
        constructor
        · rintro (h | h)
          · exact h
          · obtain ⟨q, hq, e⟩ := i5 n h
            exact absurd e (hn q (List.mem_append_left _ hq))
        · exact .inl
      rw [ef]
      clear ef ih
      generalize init.foldl (k1Step n) (s, own) = st at i1 i2 i3 i4 hb ⊢
      cases b : decide (n ∈ s.al) with
      | false =>
        have ep : ∀ l : List (SR N), pick false l own = ([], own) := fun l => rfl
        rw [b] at i1 i2 i3 i4 i5 hb
        rw [ep] at i1 i2 i3 i4 i5 ⊢
        unfold k1Step
        rw [hb, Bool.false_and, if_neg (by decide)]
        exact ⟨i1, i2, fun q hq h => by simp at h, i4, fun x h => by simp at h⟩
      | true =>
        have ep : pick true (init ++ [r]) own = pStep (pick true init own) r := by
          unfold pick
          rw [if_pos rfl, if_pos rfl, List.foldl_append]
          rfl
        rw [b] at i1 i2 i3 i4 i5 hb
        rw [ep]
        unfold k1Step pStep
        rw [hb, Bool.true_and, i1]
        have hrn : r.nm ∉ (pick true init own).1 := fun m => by
          obtain ⟨q, hq, e⟩ := i5 _ m
          exact fresh q hq e
        cases c : mayS r (pick true init own).2 with
        | false =>
          rw [if_neg (by decide), if_neg (by decide)]
          refine ⟨i1, i2, fun q hq h => ?_, i4, fun x h => ?_⟩
          · rcases List.mem_append.mp hq with hq | hq
            · exact i3 q hq h
            · rw [List.mem_singleton.mp hq] at h
              exact absurd h hrn
          · obtain ⟨q, hq, e⟩ := i5 x h
            exact ⟨q, List.mem_append_left _ hq, e⟩
        | true =>
          rw [if_pos rfl, if_pos rfl]
          refine ⟨rfl, fun x => ?_, fun q hq h => ?_, fun x h => ?_, fun x h => ?_⟩
          · show x ∈ putA _ r.nm ↔ _
            rw [mem_putA, i2, List.mem_append, List.mem_singleton, or_assoc]
          · show lookL (putL _ r.nm _) q.nm = _
            rw [look_put]
            rcases List.mem_append.mp hq with hq | hq
            · rw [if_neg (fresh q hq)]
              rcases List.mem_append.mp h with h | h
              · exact i3 q hq h
              · exact absurd (List.mem_singleton.mp h) (fresh q hq)
            · rw [List.mem_singleton.mp hq, if_pos rfl]
          · show lookL (putL _ r.nm _) x = _
            rw [look_put, if_neg fun e => h (List.mem_append_right _ (by rw [e]; exact List.mem_singleton.mpr rfl))]
            exact i4 x fun m => h (List.mem_append_left _ m)
          · rcases List.mem_append.mp h with h | h
            · obtain ⟨q, hq, e⟩ := i5 x h
              exact ⟨q, List.mem_append_left _ hq, e⟩
            · exact ⟨r, List.mem_append_right _ List.mem_cons_self, (List.mem_singleton.mp h).symm⟩
  exact main kids.length kids rfl
/-- the second loop -/
theorem loop2 {free : List Int} : ∀ (kids : List (SR N)) (s : HS N), (kids.map (·.nm)).Nodup →
    (kids.foldl (k2Step free) s).al = s.al ∧
    (∀ r ∈ kids, lookL (kids.foldl (k2Step free) s).has r.nm = if r.nm ∈ s.al then lookL s.has r.nm else some (sharedS r.ask free)) ∧
    (∀ x, (∀ r ∈ kids, r.nm ≠ x) → lookL (kids.foldl (k2Step free) s).has x = lookL s.has x)
  | [], s, _ => ⟨rfl, fun r h => by simp at h, fun x _ => rfl⟩
  | r :: rs, s, nd => by
    obtain ⟨n1, n2⟩ := List.nodup_cons.mp nd
    have hal : (k2Step free s r).al = s.al := by
      unfold k2Step
      split <;> rfl
    have hlk : ∀ x, lookL (k2Step free s r).has x = if x = r.nm ∧ r.nm ∉ s.al then some (sharedS r.ask free) else lookL s.has x := by
      intro x
      unfold k2Step
      by_cases c : r.nm ∈ s.al
      · rw [if_pos c, if_neg fun z => z.2 c]
      · rw [if_neg c]
        show lookL (putL _ r.nm _) x = _
        rw [look_put]
        simp [c]
    obtain ⟨j1, j2, j3⟩ := loop2 rs (k2Step free s r) n2
    refine ⟨j1.trans hal, fun q hq => ?_, fun x hx => ?_⟩
    · show lookL (rs.foldl (k2Step free) (k2Step free s r)).has q.nm = _
      rcases List.mem_cons.mp hq with e | hq
      · subst e
        rw [j3 q.nm fun z hz e => n1 (List.mem_map.mpr ⟨z, hz, e⟩), hlk]
        by_cases c : q.nm ∈ s.al <;> simp [c]
      · have ne : ¬ q.nm = r.nm := fun e => n1 (List.mem_map.mpr ⟨q, hq, e⟩)
        rw [j2 q hq, hal, hlk]
        simp [ne]
    · show lookL (rs.foldl (k2Step free) (k2Step free s r)).has x = _
      rw [j3 x fun z hz => hx z (List.mem_cons_of_mem _ hz), hlk, if_neg fun z => hx r List.mem_cons_self z.1.symm]
/-- what is kept once the groups of done had their turn -/
structure IM (rt : N) (rows : List (SR N)) (whole : List Int) (done : List N) (s : HS N) : Prop where
  r0 : lookL s.has rt = some whole
  ra : rt ∈ s.al
  key : ∀ r ∈ rows, r.up ∈ done → (lookL s.has r.nm).isSome = true
  alk : ∀ x ∈ s.al, x = rt ∨ ∃ r ∈ rows, r.nm = x ∧ r.up ∈ done
  a1 : ∀ r ∈ rows, r.up ∈ done → (r.nm ∈ s.al ↔ r.nm ∈ (pick (decide (r.up ∈ s.al)) (kidsS rows r.up) ((lookL s.has r.up).getD [])).1)
  h1 : ∀ r ∈ rows, r.up ∈ done → (lookL s.has r.nm).getD [] = if r.nm ∈ s.al then r.ask.getD [] else sharedS r.ask (pick (decide (r.up ∈ s.al)) (kidsS rows r.up) ((lookL s.has r.up).getD [])).2
theorem im_start {rt : N} {rows : List (SR N)} {whole : List Int} : IM rt rows whole [] (start rt whole) :=
  ⟨by unfold start lookL; simp, List.mem_singleton.mpr rfl, fun r _ h => (List.not_mem_nil h).elim, fun x h => .inl (List.mem_singleton.mp h), fun r _ h => (List.not_mem_nil h).elim, fun r _ h => (List.not_mem_nil h).elim⟩
theorem im_step {rt : N} {rows : List (SR N)} {whole : List Int} {done : List N} {s : HS N} {n : N} (ok : OkS rt rows) (h : IM rt rows whole done s) (hn : n ∉ done) (hup : ∀ q ∈ rows, q.nm ∈ done → q.up ∈ done) (hnn : n = rt ∨ ∃ q ∈ rows, q.nm = n ∧ q.up ∈ done) : IM rt rows whole (done ++ [n]) (nodeStep rows s n) := by
  have nd := kids_nd ok.1 n
  have kin : ∀ {r : SR N}, r ∈ kidsS rows n ↔ r ∈ rows ∧ r.up = n := mem_kids
  have kn : ∀ r ∈ kidsS rows n, r.nm ≠ n := fun r hr e => by
    obtain ⟨h1, h2⟩ := kin.mp hr
    rcases hnn with e2 | ⟨q, hq, e2, hd⟩
    · exact ok.ne h1 (by rw [e, e2])
    · have := ok.uniq h1 hq (by rw [e, e2])
      subst this
      rw [h2] at hd
      exact hn hd
  have kal : ∀ r ∈ kidsS rows n, r.nm ∉ s.al := fun r hr m => by
    obtain ⟨h1, h2⟩ := kin.mp hr
    rcases h.alk _ m with e | ⟨q, hq, e, hd⟩
    · exact ok.ne h1 e
    · have := ok.uniq hq h1 e
      subst this
      rw [h2] at hd
      exact hn hd
  obtain ⟨p1, p2, p3, p4, p5⟩ := loop1 (rt := rt) (s := s) (own := (lookL s.has n).getD []) (kidsS rows n) nd kn kal
  obtain ⟨q1, q2, q3⟩ := loop2 (free := ((kidsS rows n).foldl (k1Step n) (s, (lookL s.has n).getD [])).2) (kidsS rows n) ((kidsS rows n).foldl (k1Step n) (s, (lookL s.has n).getD [])).1 nd
  have eN : nodeStep rows s n = (kidsS rows n).foldl (k2Step ((kidsS rows n).foldl (k1Step n) (s, (lookL s.has n).getD [])).2) ((kidsS rows n).foldl (k1Step n) (s, (lookL s.has n).getD [])).1 := rfl
  generalize (kidsS rows n).foldl (k1Step n) (s, (lookL s.has n).getD []) = s1 at p1 p2 p3 p4 q1 q2 q3 eN
  rw [← eN] at q1 q2 q3
  generalize nodeStep rows s n = s2 at q1 q2 q3
  clear eN
  -- at names that are no children
  have lk : ∀ x, (∀ r ∈ kidsS rows n, r.nm ≠ x) → lookL s2.has x = lookL s.has x := fun x hx => by
    rw [q3 x hx, p4 x fun m => by
      obtain ⟨r, hr, e⟩ := p5 x m
      exact hx r hr e]
  have la : ∀ x, (∀ r ∈ kidsS rows n, r.nm ≠ x) → (x ∈ s2.al ↔ x ∈ s.al) := fun x hx => by
    rw [q1, p2]
    exact ⟨fun z => z.elim id fun m => by
      obtain ⟨r, hr, e⟩ := p5 x m
      exact (hx r hr e).elim, .inl⟩
  have nrt : ∀ r ∈ kidsS rows n, r.nm ≠ rt := fun r hr => ok.ne (kin.mp hr).1
  have ndn : ∀ r ∈ rows, r.up ∈ done → ∀ q ∈ kidsS rows n, q.nm ≠ r.nm := fun r hr hd q hq e => by
    obtain ⟨h1, h2⟩ := kin.mp hq
    have := ok.uniq h1 hr e
    subst this
    rw [h2] at hd
    exact hn hd
  have nup : ∀ r ∈ rows, r.up ∈ done → ∀ q ∈ kidsS rows n, q.nm ≠ r.up := fun r hr hd q hq e => by
    obtain ⟨h1, h2⟩ := kin.mp hq
    have := hup q h1 (by rw [e]; exact hd)
    rw [h2] at this
    exact hn this
  have en : lookL s2.has n = lookL s.has n := lk n fun r hr => kn r hr
  have ean : decide (n ∈ s2.al) = decide (n ∈ s.al) := decide_eq_decide.mpr (la n fun r hr => kn r hr)
  have mem : ∀ {r : SR N}, r.up ∈ done ++ [n] → r.up ∈ done ∨ r.up = n := fun h => (List.mem_append.mp h).imp id List.mem_singleton.mp
  refine ⟨by rw [lk rt nrt]; exact h.r0, (la rt nrt).mpr h.ra, fun r hr hd => ?_, fun x hx => ?_, fun r hr hd => ?_, fun r hr hd => ?_⟩
  · rcases mem hd with hd | e
    · rw [lk r.nm (ndn r hr hd)]
      exact h.key r hr hd
    · have hk := kin.mpr ⟨hr, e⟩
      rw [q2 r hk]
      split
      · rename_i m
        rcases (p2 r.nm).mp m with m | m
        · exact absurd m (kal r hk)
        · rw [p3 r hk m]; rfl
      · rfl
  · rw [q1] at hx
    rcases (p2 x).mp hx with m | m
    · rcases h.alk x m with e | ⟨q, hq, e, hd⟩
      · exact .inl e
      · exact .inr ⟨q, hq, e, List.mem_append_left _ hd⟩
    · obtain ⟨r, hr, e⟩ := p5 x m
      obtain ⟨h1, h2⟩ := kin.mp hr
      exact .inr ⟨r, h1, e, by rw [h2]; exact List.mem_append_right _ (List.mem_singleton.mpr rfl)⟩
  · rcases mem hd with hd | e
    · rw [la r.nm (ndn r hr hd), lk r.up (nup r hr hd), decide_eq_decide.mpr (la r.up (nup r hr hd))]
      exact h.a1 r hr hd
    · have hk := kin.mpr ⟨hr, e⟩
      rw [e, en, ean, q1, p2]
      exact ⟨fun z => z.elim (fun m => absurd m (kal r hk)) id, .inr⟩
  · rcases mem hd with hd | e
    · have ed : (r.nm ∈ s2.al) = (r.nm ∈ s.al) := propext (la r.nm (ndn r hr hd))
      rw [lk r.nm (ndn r hr hd), lk r.up (nup r hr hd), decide_eq_decide.mpr (la r.up (nup r hr hd)), h.h1 r hr hd]
      by_cases c : r.nm ∈ s.al
      · rw [if_pos c, if_pos (by rw [ed]; exact c)]
      · rw [if_neg c, if_neg (by rw [ed]; exact c)]
    · have hk := kin.mpr ⟨hr, e⟩
      rw [e, en, ean, q2 r hk, q1]
      by_cases c : r.nm ∈ s1.1.al
      · rw [if_pos c, if_pos c]
        rcases (p2 r.nm).mp c with m | m
        · exact absurd m (kal r hk)
        · rw [p3 r hk m]; rfl
      · rw [if_neg c, if_neg c, ← p1]
        rfl
/-- all groups in their order -/
theorem im_all {rt : N} {rows : List (SR N)} {whole : List Int} (ok : OkS rt rows) : ∀ i, i ≤ rows.length + 1 → IM rt rows whole ((rt :: rows.map (·.nm)).take i) (((rt :: rows.map (·.nm)).take i).foldl (nodeStep rows) (start rt whole)) := by
  intro i
  induction i with
  | zero => intro _; exact im_start
  | succ i ih =>
    intro hi
    have ih := ih (by omega)
    have hl : i < (rt :: rows.map (·.nm)).length := by simp; omega
    have e : (rt :: rows.map (·.nm)).take (i + 1) = (rt :: rows.map (·.nm)).take i ++ [(rt :: rows.map (·.nm))[i]] := by
      rw [List.take_add_one, List.getElem?_eq_getElem hl]
      rfl
    have ndall : (rt :: rows.map (·.nm)).Nodup := List.nodup_cons.mpr ⟨fun m => by
      obtain ⟨r, hr, e⟩ := List.mem_map.mp m
      exact ok.ne hr e, ok.1⟩
    -- which is in the part ahead
    have pos : ∀ (j : Nat) (r : SR N), rows[j]? = some r → ∀ k, (r.nm ∈ (rt :: rows.map (·.nm)).take k ↔ j + 1 < k) := by
      intro j r hj k
      obtain ⟨lj, ej⟩ := List.getElem?_eq_some_iff.mp hj
      constructor
      · intro m
        obtain ⟨a, ha⟩ := List.mem_iff_getElem?.mp m
        have la : a < k := by
          have := (List.getElem?_eq_some_iff.mp ha).1
          rw [List.length_take] at this
          omega
        rw [List.getElem?_take_of_lt la] at ha
        have hj' : (rt :: rows.map (·.nm))[j + 1]? = some r.nm := by simp [hj]
        obtain ⟨l1, e1⟩ := List.getElem?_eq_some_iff.mp ha
        obtain ⟨l2, e2⟩ := List.getElem?_eq_some_iff.mp hj'
        have : a = j + 1 := (List.getElem_inj ndall (h₀ := l1) (h₁ := l2)).mp (by rw [e1, e2])
        omega
      · intro hk
        refine List.mem_iff_getElem?.mpr ⟨j + 1, ?_⟩
        rw [List.getElem?_take_of_lt hk]
        simp [hj]
    have up_lt : ∀ (j : Nat) (r : SR N), rows[j]? = some r → ∀ k, j < k → r.up ∈ (rt :: rows.map (·.nm)).take k := by
      intro j r hj k hk
      rcases (ok.2 j r hj).2 with e | ⟨q, hq, e⟩
      · rw [e]
        cases k with
        | zero => omega
        | succ k => rw [List.take_succ_cons]; exact List.mem_cons_self
      · obtain ⟨a, ha⟩ := List.mem_iff_getElem?.mp hq
        have la : a < j := by
          have := (List.getElem?_eq_some_iff.mp ha).1
          rw [List.length_take] at this
          omega
        rw [List.getElem?_take_of_lt la] at ha
        rw [← e]
        exact (pos a q ha k).mpr (by omega)
    rw [e, List.foldl_append]
    refine im_step ok ih ?_ ?_ ?_
    · intro m
      have : ((rt :: rows.map (·.nm)).take (i + 1)).Nodup := ndall.sublist (List.take_sublist _ _)
      rw [e, List.nodup_append] at this
      exact this.2.2 _ m _ (List.mem_singleton.mpr rfl) rfl
    · intro q hq m
      obtain ⟨j, hj⟩ := List.mem_iff_getElem?.mp hq
      have := (pos j q hj i).mp m
      exact up_lt j q hj i (by omega)
    · cases i with
      | zero => exact .inl rfl
      | succ i =>
        have li : i < rows.length := by omega
        refine .inr ⟨rows[i], List.getElem_mem li, by simp, up_lt i rows[i] (List.getElem?_eq_getElem li) (i + 1) (by omega)⟩
/-- what is there when a group's turn comes -/
theorem im_has {rt : N} {rows : List (SR N)} {whole : List Int} (ok : OkS rt rows) {i : Nat} {n : N} (h : (rt :: rows.map (·.nm))[i]? = some n) : (lookL (((rt :: rows.map (·.nm)).take i).foldl (nodeStep rows) (start rt whole)).has n).isSome = true := by
  have li : i < rows.length + 1 := by
    have := (List.getElem?_eq_some_iff.mp h).1
    simpa using this
  have im := im_all (whole := whole) ok i (by omega)
  cases i with
  | zero =>
    have : n = rt := by simpa using h.symm
    rw [this, im.r0]
    rfl
  | succ i =>
    have h' : rows[i]?.map (·.nm) = some n := by simpa using h
    obtain ⟨r, hr, e⟩ := Option.map_eq_some_iff.mp h'
    rw [← e]
    refine im.key r (List.mem_of_getElem? hr) ?_
    rcases (ok.2 i r hr).2 with e | ⟨q, hq, e⟩
    · rw [e, List.take_succ_cons]
      exact List.mem_cons_self
    · rw [← e, List.take_succ_cons, ← List.map_take]
      exact List.mem_cons_of_mem _ (List.mem_map_of_mem hq)
def handS (rt : N) (rows : List (SR N)) (whole : List Int) : HS N := (rt :: rows.map (·.nm)).foldl (nodeStep rows) (start rt whole)
theorem hand_im {rt : N} {rows : List (SR N)} {whole : List Int} (ok : OkS rt rows) : IM rt rows whole (rt :: rows.map (·.nm)) (handS rt rows whole) := by
  have := im_all (whole := whole) ok (rows.length + 1) (Nat.le_refl _)
  rw [List.take_of_length_le (by simp)] at this
  exact this
theorem hand_key {rt : N} {rows : List (SR N)} {whole : List Int} (ok : OkS rt rows) {r : SR N} (hr : r ∈ rows) : (lookL (handS rt rows whole).has r.nm).isSome = true := by
  refine (hand_im ok).key r hr ?_
  rcases ok.up_in hr with e | ⟨q, hq, e⟩
  · rw [e]; exact List.mem_cons_self
  · rw [← e]; exact List.mem_cons_of_mem _ (List.mem_map_of_mem hq)
def hasF (rt : N) (rows : List (SR N)) (whole : List Int) (x : N) : List Int := (lookL (handS rt rows whole).has x).getD []
def alF (rt : N) (rows : List (SR N)) (whole : List Int) (x : N) : Bool := decide (x ∈ (handS rt rows whole).al)
theorem handed {rt : N} {rows : List (SR N)} {whole : List Int} (ok : OkS rt rows) : Handed rt rows whole (hasF rt rows whole) (alF rt rows whole) := by
  have im := hand_im (whole := whole) ok
  have up : ∀ r ∈ rows, r.up ∈ rt :: rows.map (·.nm) := fun r hr => by
    rcases ok.up_in hr with e | ⟨q, hq, e⟩
    · rw [e]; exact List.mem_cons_self
    · rw [← e]; exact List.mem_cons_of_mem _ (List.mem_map_of_mem hq)
  refine ⟨by unfold hasF; rw [im.r0]; rfl, decide_eq_true im.ra, fun r hr => decide_eq_decide.mpr (im.a1 r hr (up r hr)), fun r hr => ?_⟩
  have := im.h1 r hr (up r hr)
  unfold hasF alF
  rw [this]
  by_cases c : r.nm ∈ (handS rt rows whole).al
  · rw [if_pos c, decide_eq_true c]; rfl
  · rw [if_neg c, decide_eq_false c]; rfl
end
end Bs
end

section
namespace Bd
open PySem L2 Bs
abbrev sWithout : Stmt := (top 41)
theorem scWithout : FnScope ["numbers", "gone", "number"] ["numbers", "gone"] (defScope sWithout) := ⟨rfl, rfl, rfl, by decide +kernel, rfl, by decide +kernel, by decide +kernel⟩
abbrev sShared : Stmt := (top 40)
theorem scShared : FnScope ["asked", "free", "found", "number"] ["asked", "free"] (defScope sShared) := ⟨rfl, rfl, rfl, by decide +kernel, rfl, by decide +kernel, by decide +kernel⟩
abbrev sMay : Stmt := (top 39)
theorem scMay : FnScope ["tree", "child", "free", "asked", "number"] ["tree", "child", "free"] (defScope sMay) := ⟨rfl, rfl, rfl, by decide +kernel, rfl, by decide +kernel, by decide +kernel⟩
abbrev sCTree : Stmt := (top 32)
theorem scCTree : FnScope ["thing"] ["thing"] (defScope sCTree) := ⟨rfl, rfl, rfl, by decide +kernel, rfl, by decide +kernel, by decide +kernel⟩
abbrev sCWhole : Stmt := (top 37)
theorem scCWhole : FnScope ["whole"] ["whole"] (defScope sCWhole) := ⟨rfl, rfl, rfl, by decide +kernel, rfl, by decide +kernel, by decide +kernel⟩

/-- the ints of a set's data -/
def intsOf : PyData → List Int
  | .tuple ds => ds.filterMap fun d => match d with
    | .int i => some i
    | _ => none
  | _ => []
theorem ints_map (xs : List Int) : intsOf (.tuple (xs.map .int)) = xs := by
  show (xs.map PyData.int).filterMap _ = xs
  rw [List.filterMap_map]
  exact List.filterMap_some
/-- what a group asks -/
def askOf (r : RowM) : Option (List Int) := match dueOf (fullD r.dues) "sets" with
  | some (.tuple ds) => some (intsOf (.tuple ds))
  | _ => none
def alOf (r : RowM) : Bool := match dueOf (fullD r.dues) "alone" with
  | some (.int i) => decide (i ≠ 0)
  | _ => false
def srOf (r : RowM) : SR Str := ⟨r.name, r.above, askOf r, alOf r⟩
/-- a tuple of ints -/
def SetAt (K : PySem.W.Frag) (H : Hp) (v : V) (xs : List Int) : Prop := ∃ a, v = .ref a ∧ SqT K H a (xs.map V.int)
def AskAt (K : PySem.W.Frag) (H : Hp) (v : V) (ask : Option (List Int)) : Prop := match ask with
  | none => v = .non
  | some xs => SetAt K H v xs ∧ xs.length ≤ 64
theorem SetAt.same {K : PySem.W.Frag} {H H' : Hp} {v : V} {xs : List Int} (s : Same H H') (h : SetAt K H v xs) : SetAt K H' v xs := by
  obtain ⟨a, e, h⟩ := h
  exact ⟨a, e, Same.seqT s h⟩
theorem AskAt.same {K : PySem.W.Frag} {H H' : Hp} {v : V} {ask : Option (List Int)} (s : Same H H') (h : AskAt K H v ask) : AskAt K H' v ask := by
  unfold AskAt at h ⊢
  cases ask with
  | none => exact h
  | some xs => exact ⟨h.1.same s, h.2⟩
theorem val_full {dues : List (Str × PyData)} (ok : DuesOk dues) {x : Str} {d : PyData} (h : dueOf (fullD dues) x = some d) : ValOk x d := fullD_ok ok (x, d) (dueOf_mem h)
theorem ask_of {K : PySem.W.Frag} {H : Hp} {r : RowM} (ok : DuesOk r.dues) {u : V} {d : PyData} (h : dueOf (fullD r.dues) "sets" = some d) (hd : Dp K H u d) : AskAt K H u (askOf r) ∧ ∀ xs, askOf r = some xs → RiseOk (-1) xs := by
  have hv := val_full ok h
  unfold askOf
  rw [h]
  generalize hx : ("sets" : Str) = x at hv
  cases hv with
  | amt m => rw [← hx] at m; exact absurd m (by decide +kernel)
  | endl m => rw [← hx] at m; exact absurd m (by decide +kernel)
  | none =>
    refine ⟨?_, fun xs e => by cases e⟩
    cases hd
    rfl
  | @set xs h1 h2 =>
    dsimp only
    rw [ints_map]
    refine ⟨?_, fun ys e => by cases e; exact h1⟩
    obtain ⟨a, ys, rfl, ha, hy⟩ := dp_tup hd
    cases dp_ints hy
    exact ⟨⟨a, rfl, ha⟩, h2⟩
  | alone => exact absurd hx (by decide +kernel)
theorem al_of {K : PySem.W.Frag} {H : Hp} {r : RowM} (ok : DuesOk r.dues) {u : V} {d : PyData} (h : dueOf (fullD r.dues) "alone" = some d) (hd : Dp K H u d) : u = .int (if alOf r then 1 else 0) := by
  have hv := val_full ok h
  unfold alOf
  rw [h]
  generalize hx : ("alone" : Str) = x at hv
  cases hv with
  | amt m => rw [← hx] at m; exact absurd m (by decide +kernel)
  | endl m => rw [← hx] at m; exact absurd m (by decide +kernel)
  | none => exact absurd hx (by decide +kernel)
  | set => exact absurd hx (by decide +kernel)
  | @alone i hi =>
    cases hd
    rcases hi with rfl | rfl <;> rfl
theorem in_ints (x : Int) (xs : List Int) : inV (V.int x) (xs.map V.int) = decide (x ∈ xs) := by
  unfold inV
  induction xs with
  | nil => rfl
  | cons y ys ih =>
    rw [List.map_cons, List.any_cons, ih]
    show ((y == x) || decide (x ∈ ys)) = decide (x ∈ y :: ys)
    by_cases c : y = x
    · subst c
      simp
    · have c' : ¬ x = y := fun e => c e.symm
      have e1 : (y == x) = false := by simpa using c
      simp [e1, c']
theorem flat_ints (xs : List Int) : (xs.map V.int).all flatV = true := by
  rw [List.all_map]
  exact List.all_eq_true.mpr fun _ _ => rfl
theorem flt_int (p : Int → Bool) {xs : List Int} {i : Nat} {x : Int} (h : xs[i]? = some x) : ((xs.take (i + 1)).filter p).map V.int = ((xs.take i).filter p).map V.int ++ if p x = true then [V.int x] else [] := by
  rw [List.take_add_one, h, Option.toList_some, List.filter_append, List.map_append]
  cases c : p x with
  | true => rw [List.filter_cons_of_pos c]; rfl
  | false => rw [List.filter_cons_of_neg (by rw [c]; decide)]; rfl
theorem int_at {xs : List Int} {i : Nat} {x : V} (h : (xs.map V.int)[i]? = some x) : ∃ n, xs[i]? = some n ∧ x = .int n := by
  rw [List.getElem?_map] at h
  obtain ⟨n, a, b⟩ := Option.map_eq_some_iff.mp h
  exact ⟨n, a, b.symm⟩
theorem flt_len {α : Type} (p : α → Bool) (xs : List α) (i : Nat) {n : Nat} (h : xs.length ≤ n) : ((xs.take i).filter p).length ≤ n := by
  have := List.length_filter_le p (xs.take i)
  rw [List.length_take] at this
  omega
def spWithout (K : PySem.W.Frag) : Sp := fun vs H Q _ => ∃ (u v : V) (xs gone : List Int), vs = [u, v] ∧ SetAt K H u xs ∧ SetAt K H v gone ∧ xs.length ≤ 64 ∧ ∀ y H', Same H H' → SetAt K H' y (withoutS xs gone) → Q y H'
def spShared (K : PySem.W.Frag) : Sp := fun vs H Q _ => ∃ (u v : V) (ask : Option (List Int)) (free : List Int), vs = [u, v] ∧ AskAt K H u ask ∧ SetAt K H v free ∧ free.length ≤ 64 ∧ ∀ y H', Same H H' → SetAt K H' y (sharedS ask free) → Q y H'
def spMay (K : PySem.W.Frag) (C : Addr) : Sp := fun vs H Q _ => ∃ (p : Addr) (v : V) (rows : List RowM) (h : Bool) (tk : List (Key × V)) (r : RowM) (free : List Int), vs = [.ref p, .str r.name, v] ∧ TreeAt K H C p rows h tk ∧ RowsOk rows ∧ r ∈ rows ∧ SetAt K H v free ∧
  ∀ H', Same H H' → Q (.bl (mayS (srOf r) free)) H'
def spCTree (K : PySem.W.Frag) (C : Addr) : Sp := fun vs H Q _ => ∃ (p : Addr) (rows : List RowM) (h : Bool) (tk : List (Key × V)), vs = [.ref p] ∧ TreeAt K H C p rows h tk ∧ Q .non H
def spCWhole (K : PySem.W.Frag) : Sp := fun vs H Q _ => ∃ (v : V) (xs : List Int), vs = [v] ∧ SetAt K H v xs ∧ RiseOk (-1) xs ∧ xs.length ≤ 64 ∧ xs ≠ [] ∧ Q .non H
theorem shared_len {ask : Option (List Int)} {free : List Int} : (sharedS ask free).length ≤ free.length := by
  unfold sharedS
  split
  · exact Nat.le_refl _
  · exact List.length_filter_le _ _
section
variable {P : Program} {w : World} {K : PySem.W.Frag} {mg : Str → Option Value} {base : Heap} {aL C CN CW : Addr} {left : List (Key × V)}
theorem ok_without {f : Addr} {fd : FuncData} (F : Fun K "without" "without" sWithout f fd) (T : TP P w K mg aL left) : FnOk P w K mg base CX0 1 f fd ["numbers", "gone"] (spWithout K) := by
  refine F.ok scWithout (fun vs H Q E h => ?_) (fun cdv A outer s H vs Q E hr h => ?_)
  · obtain ⟨u, v, xs, gone, rfl, _⟩ := h
    rfl
  obtain ⟨_, _, xs, gone, rfl, ⟨a, rfl, ha⟩, ⟨b, rfl, hb⟩, len, q⟩ := h
  refine ⟨_, (pss_one (ps_ret (pe_callTy call_tuple_of (by rfl) T.z_tuple (by decide +kernel) (pa_cons (pe_lc (own := [("number", 2)]) (g := gName 2) (tt := tTest (tOp (rIn K true) (tVar 2) (tVar 1))) (te := tVar 2) rfl scWithout.nd (pi_tup (pv 0)) (blkOk_by (own := [("number", 2)]) (N := ["numbers", "gone", "number"]) (sc := defScope sWithout) (by decide +kernel)) (fun _ _ _ _ _ => (pg_name (i := 2) scWithout.nd rfl (Or.inl rfl))) (fun _ _ _ _ _ => (pts_one (pt_cmpR op_notIn_seq (pv 2) (pv 1) (by first | exact nomark _ | rfl)))) (fun _ _ _ _ _ => (pv 2))) pa_nil)))), ?_⟩
  refine ⟨_, rfl, a, rfl, ⟨_, ha⟩, fun D hD => lc_tup (K := K) (a := a) (xs := xs.map V.int) (fun i G => G = upd H D (.lst ((withoutS (xs.take i) gone).map V.int))) rfl ?_ ?_ ?_⟩
  · rintro i _ _ rfl
    exact Same.seqT (Same.new (Same.refl H) hD _) ha
  · rintro i x _ hx rfl
    obtain ⟨n, hn, rfl⟩ := int_at hx
    refine ⟨rfl, ?_⟩
    refine ⟨_, rfl, _, rfl, b, _, rfl, .inr (Same.seqT (Same.new (Same.refl H) hD _) hb), rfl, flat_ints _, _, rfl, ?_⟩
    rw [if_pos rfl, in_ints]
    have e := flt_int (fun x => !decide (x ∈ gone)) hn
    unfold withoutS
    rw [e]
    refine ite2 (fun c => ?_) (fun c => ?_)
    · rw [if_pos c]
      refine ⟨_, rfl, _, upd_same, ?_, by rw [upd_upd]⟩
      rw [List.length_map]
      exact small1000 (Nat.le_trans (flt_len _ xs i len) (by decide))
    · rw [if_neg c, List.append_nil]
  · rintro _ rfl
    rw [List.length_map, List.take_length]
    have s1 : Same H (upd H D (.lst ((withoutS xs gone).map V.int))) := Same.new (Same.refl H) hD _
    exact ⟨D, _, rfl, .inl ⟨SqL.of upd_same, fun l hl => q _ _ (Same.new s1 hl _) ⟨l, rfl, SqT.of upd_same⟩⟩⟩
theorem ok_shared {f : Addr} {fd : FuncData} (F : Fun K "shared" "shared" sShared f fd) (T : TP P w K mg aL left) : FnOk P w K mg base CX0 1 f fd ["asked", "free"] (spShared K) := by
  refine F.ok scShared (fun vs H Q E h => ?_) (fun cdv A outer s H vs Q E hr h => ?_)
  · obtain ⟨u, v, ask, free, rfl, _⟩ := h
    rfl
  obtain ⟨u, _, ask, free, rfl, hu1, ⟨a, rfl, ha⟩, len, q⟩ := h
  refine ⟨_, (pss_cons (ps_set (i := 2) scShared.nd rfl (Or.inl rfl) (pe_callTy call_tuple_of (by rfl) T.z_tuple (by decide +kernel) (pa_cons (pe_lc (own := [("number", 3)]) (g := gName 3) (tt := tAnd (tTest (tOp (fun x y H Q => y = V.non ∧ Q (.bl (!decide (x = .non))) H) (tVar 0) (tC .non))) (tTest (tOp (rIn K false) (tVar 3) (tVar 0)))) (te := tVar 3) rfl scShared.nd (pi_tup (pv 1)) (blkOk_by (own := [("number", 3)]) (N := ["asked", "free", "found", "number"]) (sc := defScope sShared) (by decide +kernel)) (fun _ _ _ _ _ => (pg_name (i := 3) scShared.nd rfl (Or.inl rfl))) (fun _ _ _ _ _ => (pts_one (PW.pt (pw_and (pt_cmpR op_notN (pv 0) pe_non (nomark _)) (pw_and1 (pt_cmpR op_in_seq (pv 3) (pv 0) (by first | exact nomark _ | rfl))))))) (fun _ _ _ _ _ => (pv 3))) pa_nil))) (pss_one (ps_ret (pe_ifExp (pt_truth (pv 2) (by intro _; rfl)) (pv 2) (pv 1))))), ?_⟩
  refine ⟨_, rfl, a, rfl, ⟨_, ha⟩, fun D hD => lc_tup (K := K) (a := a) (xs := free.map V.int) (fun i G => G = upd H D (.lst (((free.take i).filter (asksB ask)).map V.int))) rfl ?_ ?_ ?_⟩
  · rintro i _ _ rfl
    exact Same.seqT (Same.new (Same.refl H) hD _) ha
  · rintro i x _ hx rfl
    obtain ⟨n, hn, rfl⟩ := int_at hx
    have e := flt_int (asksB ask) hn
    refine ⟨rfl, ?_⟩
    refine ⟨u, rfl, rfl, _, rfl, ?_⟩
    cases ask with
    | none =>
      have hu1 : u = .non := hu1
      subst hu1
      refine iteF ?_
      have e0 : (if asksB none n = true then [V.int n] else []) = ([] : List V) := rfl
      rw [e0, List.append_nil] at e
      rw [e]
      exact iteF rfl
    | some xs =>
      obtain ⟨⟨b, rfl, hb⟩, _⟩ := hu1
      refine iteT ?_
      refine ⟨_, rfl, _, rfl, b, _, rfl, .inr (Same.seqT (Same.new (Same.refl H) hD _) hb), rfl, flat_ints _, _, rfl, ?_⟩
      rw [if_neg (by decide), in_ints]
      have e1 : decide (n ∈ xs) = asksB (some xs) n := rfl
      rw [e, e1]
      refine ite2 (fun c => ?_) (fun c => ?_)
      · rw [if_pos c]
        refine ⟨_, rfl, _, upd_same, ?_, by rw [upd_upd]⟩
        rw [List.length_map]
        exact small1000 (Nat.le_trans (flt_len _ free i len) (by decide))
      · rw [if_neg c, List.append_nil]
  · rintro _ rfl
    rw [List.length_map, List.take_length]
    have s1 : Same H (upd H D (.lst ((free.filter (asksB ask)).map V.int))) := Same.new (Same.refl H) hD _
    refine ⟨D, _, rfl, .inl ⟨SqL.of upd_same, fun l hl => ?_⟩⟩
    have s2 := Same.new s1 hl (.tup ((free.filter (asksB ask)).map V.int))
    refine ⟨_, rfl, _, .inr (.inl ⟨_, SqT.of upd_same, rfl⟩), ?_⟩
    have ee : ((free.filter (asksB ask)).map V.int).isEmpty = (free.filter (asksB ask)).isEmpty := by
      cases free.filter (asksB ask) <;> rfl
    rw [ee]
    cases c : (free.filter (asksB ask)).isEmpty with
    | true =>
      refine iteF ⟨_, rfl, q _ _ s2 ?_⟩
      unfold sharedS
      rw [c]
      exact ⟨a, rfl, Same.seqT s2 ha⟩
    | false =>
      refine iteT ⟨_, rfl, q _ _ s2 ?_⟩
      unfold sharedS
      rw [c]
      exact ⟨l, rfl, SqT.of upd_same⟩
theorem ok_may {f fD : Addr} {fd dD : FuncData} (F : Fun K "may_stand_alone" "may_stand_alone" sMay f fd) (T : TP P w K mg aL left) (TCl : TC K mg C) (mD : Meth K C "due" fD) (FD : FnOk P w K mg base (L2.CX P w) 2 fD dD ["self", "name", "word"] (spTDue K C CN CW)) (bD : Binds K dD ["self", "name", "word"] []) :
    FnOk P w K mg base CX0 3 f fd ["tree", "child", "free"] (spMay K C) := by
  refine F.ok scMay (fun vs H Q E h => ?_) (fun cdv A outer s H vs Q E hr h => ?_)
  · obtain ⟨p, v, rows, h, tk, r, free, rfl, _⟩ := h
    rfl
  obtain ⟨p, _, rows, h, tk, r, free, rfl, ht, ok, hrm, ⟨a, rfl, ha⟩, q⟩ := h
  have dok : DuesOk r.dues := by
    obtain ⟨j, hj⟩ := List.mem_iff_getElem?.mp hrm
    exact (ok j r hj).2.1
  refine ⟨_, (pss_cons (ps_set (i := 3) scMay.nd rfl (Or.inl rfl) (pe_meth (pv 0) TCl.cl mD FD (hr.mono (by decide)) bD .nil passL (pa_cons (pv 1) (pa_cons pe_str pa_nil)))) (pss_cons (ps_if (PW.pt (pw_or (pt_cmpR op_eq (pe_meth (pv 0) TCl.cl mD FD (hr.mono (by decide)) bD .nil passL (pa_cons (pv 1) (pa_cons pe_str pa_nil))) pe_int (nomark _)) (pw_or1 (pt_not (pt_truth (pv 3) (by intro _; rfl)))))) (pss_one (ps_ret pe_bl)) pss_nil) (pss_one (ps_ret (pe_and (pe_callB (cr_all rfl) (by rfl) T.z_all (by decide +kernel) (pa_cons (pe_lc (own := [("number", 4)]) (g := gName 4) (tt := tYes) (te := tOp (rIn K false) (tVar 4) (tVar 2)) rfl scMay.nd (pi_tup (pv 3)) (blkOk_by (own := [("number", 4)]) (N := ["tree", "child", "free", "asked", "number"]) (sc := defScope sMay) (by decide +kernel)) (fun _ _ _ _ _ => (pg_name (i := 4) scMay.nd rfl (Or.inl rfl))) (fun _ _ _ _ _ => pts_nil) (fun _ _ _ _ _ => (pe_cmpR op_in_seq (pv 4) (pv 2) (by first | exact nomark _ | rfl)))) pa_nil)) (pe_one (pe_cmpR op_lt (pe_callB call_len_seq (by rfl) T.z_len PySem.boot_len (pa_cons (pv 3) pa_nil)) (pe_callB call_len_seq (by rfl) T.z_len PySem.boot_len (pa_cons (pv 2) pa_nil)) (nomark _)))))))), ?_⟩
  obtain ⟨dx, po, pp, pk, pt, o1, _⟩ := id ht
  refine ⟨_, rfl, p, dx, _, rfl, o1, by rfl, _, rfl, p, _, _, rows, h, tk, rfl, ht, nms_nd ok, .inl ⟨r, hrm, rfl, .inl ⟨"sets", by decide +kernel, rfl, fun u d e1 e2 => ?_⟩⟩⟩
  obtain ⟨hask, _⟩ := ask_of dok e1 e2
  refine ⟨_, rfl, p, dx, _, rfl, o1, by rfl, _, rfl, p, _, _, rows, h, tk, rfl, ht, nms_nd ok, .inl ⟨r, hrm, rfl, .inl ⟨"alone", by decide +kernel, rfl, fun u2 d2 e3 e4 => ?_⟩⟩⟩
  have hal := al_of dok e3 e4
  subst hal
  have q' := q
  unfold mayS at q'
  refine ⟨rfl, _, rfl, ?_⟩
  have q2 : ∀ H', Same H H' → Q (.bl (alOf r && match askOf r with
    | none => false
    | some a => !a.isEmpty && (a.all (fun x => decide (x ∈ free)) && decide (a.length < free.length)))) H' := q'
  cases c : alOf r with
  | false =>
    rw [c, Bool.false_and] at q2
    exact iteT (q2 H (Same.refl H))
  | true =>
    rw [c, Bool.true_and] at q2
    refine iteF ?_
    unfold AskAt at hask
    cases ea : askOf r with
    | none =>
      rw [ea] at hask q2
      have hask : u = .non := hask
      subst hask
      exact ⟨_, rfl, false, rfl, iteT (q2 H (Same.refl H))⟩
    | some xs =>
      rw [ea] at hask q2
      obtain ⟨⟨b, rfl, hb⟩, lx⟩ := hask
      have q2 : ∀ H', Same H H' → Q (.bl (!xs.isEmpty && (xs.all (fun x => decide (x ∈ free)) && decide (xs.length < free.length)))) H' := q2
      refine ⟨_, rfl, _, .inr (.inl ⟨_, hb, rfl⟩), ?_⟩
      have ee : (xs.map V.int).isEmpty = xs.isEmpty := by cases xs <;> rfl
      rw [ee]
      cases ce : xs.isEmpty with
      | true =>
        rw [ce, Bool.not_true, Bool.false_and] at q2
        exact iteT (q2 H (Same.refl H))
      | false =>
        rw [ce, Bool.not_false, Bool.true_and] at q2
        refine iteF ?_
        refine ⟨_, rfl, b, rfl, ⟨_, hb⟩, fun D hD => lc_tup (K := K) (a := b) (xs := xs.map V.int) (fun i G => G = upd H D (.lst (((xs.take i).map fun x => decide (x ∈ free)).map V.bl))) rfl ?_ ?_ ?_⟩
        · rintro i _ _ rfl
          exact Same.seqT (Same.new (Same.refl H) hD _) hb
        · rintro i x _ hx rfl
          obtain ⟨n, hn, rfl⟩ := int_at hx
          refine ⟨rfl, ?_⟩
          unfold tYes
          refine iteT ?_
          refine ⟨_, rfl, _, rfl, a, _, rfl, .inr (Same.seqT (Same.new (Same.refl H) hD _) ha), rfl, flat_ints _, ?_⟩
          rw [if_neg (by decide), in_ints]
          refine ⟨_, upd_same, ?_, ?_⟩
          · rw [List.length_map, List.length_map, List.length_take]
            exact small1000 (by omega)
          · rw [upd_upd, List.take_add_one, hn, Option.toList_some, List.map_append, List.map_append]
            rfl
        · rintro _ rfl
          rw [List.length_map, List.take_length]
          have s1 : Same H (upd H D (.lst ((xs.map fun x => decide (x ∈ free)).map V.bl))) := Same.new (Same.refl H) hD _
          refine ⟨D, _, rfl, SqL.of upd_same, _, rfl, ?_⟩
          rw [List.all_map]
          have e3 : (xs.all (id ∘ fun x => decide (x ∈ free))) = xs.all fun x => decide (x ∈ free) := rfl
          rw [e3]
          cases ca : xs.all fun x => decide (x ∈ free) with
          | false =>
            rw [ca, Bool.false_and] at q2
            exact iteF (q2 _ s1)
          | true =>
            rw [ca, Bool.true_and] at q2
            refine iteT ?_
            refine ⟨_, rfl, b, _, rfl, .inr (Same.seqT s1 hb), _, rfl, a, _, rfl, .inr (Same.seqT s1 ha), _, _, rfl, rfl, ?_⟩
            have := q2 _ s1
            rw [List.length_map, List.length_map]
            have e4 : decide (((xs.length : Nat) : Int) < ((free.length : Nat) : Int)) = decide (xs.length < free.length) := by
              by_cases cl : xs.length < free.length
              · rw [decide_eq_true cl, decide_eq_true (by omega)]
              · rw [decide_eq_false cl, decide_eq_false (by omega)]
            rw [← e4] at this
            exact this
theorem ok_ctree {f : Addr} {fd : FuncData} (F : Fun K "check_tree" "check_tree" sCTree f fd) (T : TP P w K mg aL left) (TCl : TC K mg C) (TIs : TI K C) : FnOk P w K mg base CX0 1 f fd ["thing"] (spCTree K C) := by
  refine F.ok scCTree (fun vs H Q E h => ?_) (fun cdv A outer s H vs Q E hr h => ?_)
  · obtain ⟨p, rows, h, tk, rfl, _⟩ := h
    rfl
  obtain ⟨p, rows, h, tk, rfl, ⟨dx, po, pp, pk, pt, o1, _⟩, q⟩ := h
  refine ⟨_, (pss_one (ps_if (pt_not (pt_val (pe_callB call_isi (by rfl) T.z_isinstance (by decide +kernel) (pa_cons (pv 0) (pa_cons (pe_glob (v := .ref C) rfl TCl.g_Tree rfl) pa_nil))))) (pss_one ps_never) pss_nil)), ?_⟩
  exact ⟨_, rfl, _, _, _, _, true, rfl, .own C, .base (.ins o1 TCl.cl TIs.ha TIs.hn TIs.htk TIs.hm), by simp [PySem.W.kitOne], true, rfl, iteF q⟩
theorem ok_cwhole {f g : Addr} {fd gd : FuncData} (F : Fun K "check_whole" "check_whole" sCWhole f fd) (T : TP P w K mg aL left) (cS : Cal P w K mg base "is_set" ["thing"] 2 (spIsSet K) g gd) : FnOk P w K mg base CX0 3 f fd ["whole"] (spCWhole K) := by
  refine F.ok scCWhole (fun vs H Q E h => ?_) (fun cdv A outer s H vs Q E hr h => ?_)
  · obtain ⟨v, xs, rfl, _⟩ := h
    rfl
  obtain ⟨v, xs, rfl, ⟨a, rfl, ha⟩, hr1, hl, hn, q⟩ := h
  refine ⟨_, (pss_one (ps_if (PW.pt (pw_or (pt_not (pt_val (pe_call cS.ok (hr.mono (by decide)) rfl cS.mg cS.kp cS.bd .nil pass0 (pa_cons (pv 0) pa_nil)))) (pw_or1 (pt_cmpR op_eq (pe_callB call_len_seq (by rfl) T.z_len PySem.boot_len (pa_cons (pv 0) pa_nil)) pe_int (nomark _))))) (pss_one ps_never) pss_nil)), ?_⟩
  refine ⟨_, rfl, _, xs, rfl, .tup ha (dp_ofints xs), hr1, hl, true, rfl, iteF ?_⟩
  refine ⟨_, rfl, a, _, rfl, .inr ha, rfl, false, ?_, iteF q⟩
  have : xs.length ≠ 0 := fun e => hn (List.eq_nil_of_length_eq_zero e)
  rw [List.length_map]
  refine congrArg V.bl (decide_eq_false fun e => ?_)
  have := V.int.inj e
  omega
end
end Bd
end

section
namespace Bd
open PySem L2 Bs
abbrev sHanded : Stmt := (top 38)
theorem scHanded : FnScope ["tree", "whole", "has", "alone", "name", "free", "child"] ["tree", "whole"] (defScope sHanded) := ⟨rfl, rfl, rfl, by decide +kernel, rfl, by decide +kernel, by decide +kernel⟩
abbrev sSets : Stmt := (top 35)
theorem scSets : FnScope ["tree", "whole"] ["tree", "whole"] (defScope sSets) := ⟨rfl, rfl, rfl, by decide +kernel, rfl, by decide +kernel, by decide +kernel⟩
abbrev sStands : Stmt := (top 36)
theorem scStands : FnScope ["tree", "whole", "alone", "name"] ["tree", "whole"] (defScope sStands) := ⟨rfl, rfl, rfl, by decide +kernel, rfl, by decide +kernel, by decide +kernel⟩

/-- the walk of a dict comprehension over a list -/
theorem dc_lst {K : PySem.W.Frag} {a : Addr} {xs : List V} {g : TG} {tt : TT} {tk tv : TE} {vs : List Nat} {σ : St} {H1 : Hp} {D : Addr} {Qd : Hp → Prop} (Iv : Nat → Hp → Prop) (z0 : Iv 0 (upd H1 D (.dK []))) (zl : ∀ i G, i ≤ xs.length → Iv i G → SqL K G a xs)
    (zs : ∀ i x G, xs[i]? = some x → Iv i G → g x (wipe σ vs) G fun σ2 G2 => wipe σ2 vs = wipe σ vs ∧ tt σ2 G2 fun b G3 =>
      if b = true then tk σ2 G3 fun y G4 => tv σ2 G4 fun z G5 => ∃ kvs k, y = kV k ∧ G5 D = some (.dK kvs) ∧ kvs.length < sizeLine ∧ Iv (i + 1) (upd G5 D (.dK (putK kvs k z))) else Iv (i + 1) G3) (zd : ∀ G, Iv xs.length G → Qd G) :
    ∃ W : Nat → Nat → Hp → Prop, (∃ m, W 0 m (upd H1 D (.dK []))) ∧ ∀ i m G, W i m G →
      ((Itl K a).stop i G ∧ Qd G) ∨ ((Itl K a).go i G ∧ ∃ Nx : Hp → Prop, (∀ G', Nx G' → ∃ m', m' < m ∧ W (i + 1) m' G') ∧ ∀ x G', (Itl K a).yld i G x G' → g x (wipe σ vs) G' fun σ2 G2 => wipe σ2 vs = wipe σ vs ∧ tt σ2 G2 fun b G3 =>
        if b = true then tk σ2 G3 fun y G4 => tv σ2 G4 fun z G5 => ∃ kvs k, y = kV k ∧ G5 D = some (.dK kvs) ∧ kvs.length < sizeLine ∧ Nx (upd G5 D (.dK (putK kvs k z))) else Nx G3) := by
  refine ⟨fun i m G => m + i = xs.length ∧ Iv i G, ⟨xs.length, rfl, z0⟩, ?_⟩
  rintro i m G ⟨hm, iv⟩
  have hq := zl i G (by omega) iv
  cases m with
  | zero =>
    have e : i = xs.length := by omega
    exact .inl ⟨⟨xs, hq, Nat.le_of_eq e.symm⟩, zd G (e ▸ iv)⟩
  | succ m =>
    have hi : i < xs.length := by omega
    refine .inr ⟨⟨xs, xs[i], hq, List.getElem?_eq_getElem hi⟩, Iv (i + 1), fun G' iv' => ⟨m, Nat.lt_succ_self m, by omega, iv'⟩, ?_⟩
    rintro x G' ⟨rfl, hx⟩
    exact zs i x _ (hx xs hq) iv
abbrev mps (s : List Str) : List (Key × V) := s.map fun x => ((Sum.inr x : Key), V.bl true)
def HasR (K : PySem.W.Frag) (G : Hp) (kv : Key × V) (m : Str × List Int) : Prop := kv.1 = (Sum.inr m.1 : Key) ∧ SetAt K G kv.2 m.2 ∧ m.2.length ≤ 64
def HasAt (K : PySem.W.Frag) (G : Hp) (dh : Addr) (has : List (Str × List Int)) : Prop := ∃ kvs : List (Key × V), G dh = some (.dK kvs) ∧ Paired (HasR K G) kvs has
theorem SetAt.tk {K : PySem.W.Frag} {H H' : Hp} {v : V} {xs : List Int} (s : TK H H') (h : SetAt K H v xs) : SetAt K H' v xs := by
  obtain ⟨a, e, h⟩ := h
  exact ⟨a, e, s.seqT h⟩
theorem HasR.tk {K : PySem.W.Frag} {H H' : Hp} {kv : Key × V} {m : Str × List Int} (s : TK H H') (h : HasR K H kv m) : HasR K H' kv m := ⟨h.1, h.2.1.tk s, h.2.2⟩
theorem paired_any {F : Key × V → Str × List Int → Prop} (hF : ∀ kv m, F kv m → kv.1 = (Sum.inr m.1 : Key)) (x : Str) : ∀ {kvs : List (Key × V)} {has : List (Str × List Int)}, Paired F kvs has → kvs.any (fun kv => decide (kv.1 = (Sum.inr x : Key))) = has.any (fun kv => decide (kv.1 = x))
  | _, _, .nil => rfl
  | _, _, .cons (a := kv) (b := m) h t => by
    rw [List.any_cons, List.any_cons, paired_any hF x t, hF _ _ h]
    congr 1
    by_cases c : m.1 = x
    · rw [c]; simp
    · rw [decide_eq_false c]
      exact decide_eq_false fun z => c (Sum.inr.inj z)
theorem paired_mput {K : PySem.W.Frag} {G : Hp} {x : Str} {v : V} {xs : List Int} (hv : SetAt K G v xs) (hl : xs.length ≤ 64) : ∀ {kvs : List (Key × V)} {has : List (Str × List Int)}, Paired (HasR K G) kvs has →
    Paired (HasR K G) (kvs.map fun kv => if kv.1 = (Sum.inr x : Key) then (kv.1, v) else kv) (has.map fun kv => if kv.1 = x then (kv.1, xs) else kv)
  | _, _, .nil => .nil
  | _, _, .cons (a := kv) (b := m) a t => by
    rw [List.map_cons, List.map_cons]
    refine .cons ?_ (paired_mput hv hl t)
    by_cases c : m.1 = x
    · rw [if_pos c, if_pos (by rw [a.1, c])]
      exact ⟨a.1, hv, hl⟩
    · rw [if_neg c, if_neg (by rw [a.1]; exact fun z => c (Sum.inr.inj z))]
      exact a
theorem paired_put {K : PySem.W.Frag} {G : Hp} {kvs : List (Key × V)} {has : List (Str × List Int)} (h : Paired (HasR K G) kvs has) {x : Str} {v : V} {xs : List Int} (hv : SetAt K G v xs) (hl : xs.length ≤ 64) : Paired (HasR K G) (putK kvs (Sum.inr x) v) (putL has x xs) := by
  unfold putK putL
  rw [paired_any (fun _ _ z => z.1) x h]
  split
  · exact paired_mput hv hl h
  · exact paired_snoc ⟨rfl, hv, hl⟩ h
theorem paired_look {K : PySem.W.Frag} {G : Hp} {x : Str} : ∀ {kvs : List (Key × V)} {has : List (Str × List Int)}, Paired (HasR K G) kvs has → ∀ {xs : List Int}, lookL has x = some xs → ∃ v, valV kvs (Sum.inr x) = some v ∧ SetAt K G v xs ∧ xs.length ≤ 64
  | _, _, .nil, xs, h => by simp [lookL] at h
  | _, _, .cons (a := kv) (b := m) a t, xs, h => by
    unfold lookL at h
    unfold valV
    rw [List.find?_cons] at h ⊢
    by_cases c : m.1 = x
    · have c2 : kv.1 = (Sum.inr x : Key) := by rw [a.1, c]
      simp only [c, c2, decide_true, Option.map_some] at h ⊢
      cases h
      exact ⟨_, rfl, a.2⟩
    · have c2 : ¬ kv.1 = (Sum.inr x : Key) := by rw [a.1]; exact fun z => c (Sum.inr.inj z)
      simp only [c, c2, decide_false] at h ⊢
      exact paired_look t h
theorem mps_val (al : List Str) (x : Str) : (valV (mps al) (Sum.inr x)).isSome = decide (x ∈ al) := by
  have e : (Sum.inr x : Key) ∈ (mps al).map (·.1) ↔ x ∈ al := by
    rw [List.map_map]
    constructor
    · intro m
      obtain ⟨y, hy, e⟩ := List.mem_map.mp m
      rw [← Sum.inr.inj e]
      exact hy
    · intro m
      exact List.mem_map.mpr ⟨x, m, rfl⟩
  by_cases c : x ∈ al
  · rw [decide_eq_true c]
    exact val_some (e.mpr c)
  · rw [decide_eq_false c, keys_none fun m => c (e.mp m)]
    rfl
theorem mps_put (al : List Str) (x : Str) : putK (mps al) (Sum.inr x) (.bl true) = mps (putA al x) := by
  unfold putA
  by_cases c : x ∈ al
  · rw [if_pos c]
    unfold putK
    rw [if_pos (by
      refine List.any_eq_true.mpr ⟨(Sum.inr x, .bl true), List.mem_map.mpr ⟨x, c, rfl⟩, by simp⟩), List.map_map]
    refine List.map_congr_left fun y _ => ?_
    show (if (Sum.inr y : Key) = Sum.inr x then ((Sum.inr y : Key), V.bl true) else ((Sum.inr y : Key), V.bl true)) = _
    split <;> rfl
  · rw [if_neg c, putK_new _ (by
      have := mps_val al x
      rw [decide_eq_false c] at this
      cases z : valV (mps al) (Sum.inr x) with
      | none => rfl
      | some v => rw [z] at this; cases this)]
    show _ = (al ++ [x]).map _
    rw [List.map_append]
    rfl
/-- the heap while it is handed down -/
structure HD (K : PySem.W.Frag) (H G : Hp) (dh da lo : Addr) (os : List Str) (s : HS Str) : Prop where
  same : Same H G
  nh : H dh = none
  na : H da = none
  ne : dh ≠ da
  has : HasAt K G dh s.has
  al : G da = some (.dK (mps s.al))
  lst : G lo = some (.lst (os.map V.str))
section
variable {K : PySem.W.Frag} {H G G' : Hp} {dh da lo : Addr} {os : List Str} {s : HS Str}
theorem HD.mono (h : HD K H G dh da lo os s) (k : Same G G') : HD K H G' dh da lo os s := by
  obtain ⟨kvs, h1, h2⟩ := h.has
  exact ⟨h.same.trans k, h.nh, h.na, h.ne, ⟨kvs, k _ _ h1, paired_mono (fun _ _ z => z.tk (.of k)) h2⟩, k _ _ h.al, k _ _ h.lst⟩
theorem HD.get (h : HD K H G dh da lo os s) {x : Str} {xs : List Int} (e : lookL s.has x = some xs) : ∃ v, DGet G dh (.str x) (some v) ∧ SetAt K G v xs ∧ xs.length ≤ 64 := by
  obtain ⟨kvs, h1, h2⟩ := h.has
  obtain ⟨v, h3, h4⟩ := paired_look h2 e
  exact ⟨v, dget_of (k := Sum.inr x) h1 h3, h4⟩
theorem HD.in_al (h : HD K H G dh da lo os s) (x : Str) : DGet G da (.str x) (valV (mps s.al) (Sum.inr x)) := DGet.k (k := Sum.inr x) h.al
/-- x is put among those that stand alone -/
theorem HD.put_al (h : HD K H G dh da lo os s) (x : Str) : HD K H (upd G da (.dK (mps (putA s.al x)))) dh da lo os ⟨s.has, putA s.al x⟩ ∧ TK G (upd G da (.dK (mps (putA s.al x)))) := by
  have t : TK G (upd G da (.dK (mps (putA s.al x)))) := TK.dk h.al _
  obtain ⟨kvs, h1, h2⟩ := h.has
  refine ⟨⟨Same.ch h.same h.na _, h.nh, h.na, h.ne, ⟨kvs, (upd_ne h.ne).trans h1, paired_mono (fun _ _ z => z.tk t) h2⟩, upd_same, (upd_ne (ne_of h.lst h.al (by intro z; cases z))).trans h.lst⟩, t⟩
theorem HD.put_has (h : HD K H G dh da lo os s) {x : Str} {v : V} {xs : List Int} {kvs : List (Key × V)} (e : G dh = some (.dK kvs)) (hv : SetAt K G v xs) (hl : xs.length ≤ 64) :
    HD K H (upd G dh (.dK (putK kvs (Sum.inr x) v))) dh da lo os ⟨putL s.has x xs, s.al⟩ ∧ TK G (upd G dh (.dK (putK kvs (Sum.inr x) v))) := by
  have t : TK G (upd G dh (.dK (putK kvs (Sum.inr x) v))) := TK.dk e _
  obtain ⟨kvs', h1, h2⟩ := h.has
  rw [e] at h1
  cases h1
  refine ⟨⟨Same.ch h.same h.nh _, h.nh, h.na, h.ne, ⟨_, upd_same, paired_mono (fun _ _ z => z.tk t) (paired_put h2 hv hl)⟩, (upd_ne h.ne.symm).trans h.al, (upd_ne (ne_of h.lst e (by intro z; cases z))).trans h.lst⟩, t⟩
end
theorem put_len (kvs : List (Key × V)) (k : Key) (v : V) : (putK kvs k v).length ≤ kvs.length + 1 := by
  unfold putK
  split
  · rw [List.length_map]; omega
  · rw [List.length_append, List.length_singleton]
    omega
theorem kids_srs (rows : List RowM) (x : Str) : kidsOf rows (Sum.inr x) = (kidsS (rows.map srOf) x).map (·.nm) := by
  rw [kids_flt]
  unfold kidsS
  rw [List.filter_map, List.map_map]
  rfl
theorem kid_at {rows : List RowM} {x : Str} {i : Nat} {c : SR Str} (h : (kidsS (rows.map srOf) x)[i]? = some c) : ∃ r ∈ rows, c = srOf r ∧ r.above = x := by
  have m := List.mem_of_getElem? h
  obtain ⟨h1, h2⟩ := mem_kids.mp m
  obtain ⟨r, hr, e⟩ := List.mem_map.mp h1
  exact ⟨r, hr, e.symm, by rw [← e] at h2; exact h2⟩
theorem oks {rows : List RowM} (ok : RowsOk rows) : OkS ("" : Str) (rows.map srOf) := by
  refine ⟨?_, fun i c hc => ?_⟩
  · rw [List.map_map]
    exact nms_nd ok
  · rw [List.getElem?_map] at hc
    obtain ⟨r, hr, e⟩ := Option.map_eq_some_iff.mp hc
    subst e
    refine ⟨fun e => nms_ne ok (List.mem_map.mpr ⟨r, List.mem_of_getElem? hr, e⟩), ?_⟩
    rcases (ok i r hr).2.2.2 with e | ⟨q, hq, e, _⟩
    · exact .inl e
    · refine .inr ⟨srOf q, ?_, e⟩
      rw [← List.map_take]
      exact List.mem_map_of_mem hq
theorem putL_len (has : List (Str × List Int)) (x : Str) (v : List Int) : (putL has x v).length ≤ has.length + 1 := by
  unfold putL
  split
  · rw [List.length_map]; omega
  · rw [List.length_append, List.length_singleton]
    omega
theorem putA_len (al : List Str) (x : Str) : (putA al x).length ≤ al.length + 1 := by
  unfold putA
  split
  · omega
  · rw [List.length_append, List.length_singleton]
    omega
def setsM (rows : List RowM) (whole : List Int) : List (Str × List Int) := rows.map fun r => (r.name, hasF ("" : Str) (rows.map srOf) whole r.name)
def standsM (rows : List RowM) (whole : List Int) : List Str := (nms rows).filter (alF ("" : Str) (rows.map srOf) whole)
def SetsArg (K : PySem.W.Frag) (C : Addr) (H : Hp) (p : Addr) (v : V) (rows : List RowM) (whole : List Int) : Prop := (∃ h tk, TreeAt K H C p rows h tk) ∧ RowsOk rows ∧ rows.length ≤ 200 ∧ SetAt K H v whole ∧ RiseOk (-1) whole ∧ whole.length ≤ 64 ∧ whole ≠ []
def spSets (K : PySem.W.Frag) (C : Addr) : Sp := fun vs H Q _ => ∃ (p : Addr) (v : V) (rows : List RowM) (whole : List Int), vs = [.ref p, v] ∧ SetsArg K C H p v rows whole ∧
  ∀ d H' kvs, H d = none → Same H H' → H' d = some (.dK kvs) → Paired (HasR K H') kvs (setsM rows whole) → Q (.ref d) H'
def spStands (K : PySem.W.Frag) (C : Addr) : Sp := fun vs H Q _ => ∃ (p : Addr) (v : V) (rows : List RowM) (whole : List Int), vs = [.ref p, v] ∧ SetsArg K C H p v rows whole ∧
  ∀ l H', H l = none → Same H H' → H' l = some (.lst ((standsM rows whole).map .str)) → Q (.ref l) H'
def spHanded (K : PySem.W.Frag) (C : Addr) : Sp := fun vs H Q _ => ∃ (p : Addr) (v : V) (rows : List RowM) (h : Bool) (tk : List (Key × V)) (whole : List Int), vs = [.ref p, v] ∧ TreeAt K H C p rows h tk ∧ RowsOk rows ∧ rows.length ≤ 200 ∧ SetAt K H v whole ∧ whole.length ≤ 64 ∧
  ∀ t d da H' kvs, H t = none → H d = none → Same H H' → SqT K H' t [.ref d, .ref da] → H' d = some (.dK kvs) → Paired (HasR K H') kvs (setsM rows whole) → H' da = some (.dK (mps (handS ("" : Str) (rows.map srOf) whole).al)) → Q (.ref t) H'
section
variable {P : Program} {w : World} {K : PySem.W.Frag} {mg : Str → Option Value} {base : Heap} {aL C CN CW : Addr} {left : List (Key × V)}
theorem ok_handed {f fN fK fD gM gW gS : Addr} {fd dN dK dD dM dW dS : FuncData} (F : Fun K "handed_down" "handed_down" sHanded f fd) (TCl : TC K mg C) (mN : Meth K C "names" fN) (mK : Meth K C "children" fK) (mD : Meth K C "due" fD)
    (FN : FnOk P w K mg base CX0 1 fN dN ["self"] (spTNames K C)) (bN : Binds K dN ["self"] []) (FK : FnOk P w K mg base (L2.CX P w) 1 fK dK ["self", "name"] (spTKids K C CN)) (bK : Binds K dK ["self", "name"] [])
    (FD : FnOk P w K mg base (L2.CX P w) 2 fD dD ["self", "name", "word"] (spTDue K C CN CW)) (bD : Binds K dD ["self", "name", "word"] [])
    (cM : Cal P w K mg base "may_stand_alone" ["tree", "child", "free"] 3 (spMay K C) gM dM) (cW : Cal P w K mg base "without" ["numbers", "gone"] 1 (spWithout K) gW dW) (cS : Cal P w K mg base "shared" ["asked", "free"] 1 (spShared K) gS dS) :
    FnOk P w K mg base CX0 4 f fd ["tree", "whole"] (spHanded K C) := by
  refine F.ok scHanded (fun vs H Q E h => ?_) (fun cdv A outer s H vs Q E hr h => ?_)
  · obtain ⟨p, v, rows, h, tk, whole, rfl, _⟩ := h
    rfl
  obtain ⟨p, _, rows, h, tk, whole, rfl, ht, ok, len, ⟨a, rfl, ha⟩, lw, q⟩ := h
  have hu := hu_of hr
  refine ⟨_, (pss_cons (ps_set (i := 2) scHanded.nd rfl (Or.inr rfl) (pe_disp (pps_cons pe_str (pv 1) pps_nil) (by rfl) (by rfl) (fun z => by cases z) (by decide))) (pss_cons (ps_set (i := 3) scHanded.nd rfl (Or.inl rfl) (pe_disp (pps_cons pe_str pe_bl pps_nil) (by rfl) (by rfl) (fun z => by cases z) (by decide))) (pss_cons (ps_for PassesOwn.never rfl (pi_list (pe_op op_cat (pe_lst (pa_cons pe_str pa_nil)) (pe_meth0 (pv 0) TCl.cl mN FN (hr.mono (by decide)) bN .nil pass0))) (pg_name (i := 4) scHanded.nd rfl (Or.inl rfl)) (pss_cons (ps_set (i := 5) scHanded.nd rfl (Or.inl rfl) (pe_dget hu (pv 2) (pv 4) (fun _ _ => rfl))) (pss_cons (ps_for PassesOwn.never rfl (pi_list (pe_meth (pv 0) TCl.cl mK FK (hr.mono (by decide)) bK .nil passL (pa_cons (pv 4) pa_nil))) (pg_name (i := 6) scHanded.nd rfl (Or.inl rfl)) (pss_one (ps_if (PW.pt (pw_and (pt_cmp (pc_din hu (pv 4) (pv 3))) (pw_and1 (pt_val (pe_call cM.ok (hr.mono (by decide)) rfl cM.mg cM.kp cM.bd .nil pass0 (pa_cons (pv 0) (pa_cons (pv 6) (pa_cons (pv 5) pa_nil)))))))) (pss_cons (ps_dput hu (pv 3) (pv 6) pe_bl rfl) (pss_cons (ps_dput hu (pv 2) (pv 6) (pe_meth (pv 0) TCl.cl mD FD (hr.mono (by decide)) bD .nil passL (pa_cons (pv 6) (pa_cons pe_str pa_nil))) rfl) (pss_one (ps_set (i := 5) scHanded.nd rfl (Or.inl rfl) (pe_call cW.ok (hr.mono (by decide)) rfl cW.mg cW.kp cW.bd .nil pass0 (pa_cons (pv 5) (pa_cons (pe_dget hu (pv 2) (pv 6) (fun _ _ => rfl)) pa_nil))))))) pss_nil))) (pss_one (ps_for PassesOwn.never rfl (pi_list (pe_meth (pv 0) TCl.cl mK FK (hr.mono (by decide)) bK .nil passL (pa_cons (pv 4) pa_nil))) (pg_name (i := 6) scHanded.nd rfl (Or.inl rfl)) (pss_one (ps_if (pt_cmp (pc_dnotin hu (pv 6) (pv 3))) (pss_one (ps_dput hu (pv 2) (pv 6) (pe_call cS.ok (hr.mono (by decide)) rfl cS.mg cS.kp cS.bd .nil pass0 (pa_cons (pe_meth (pv 0) TCl.cl mD FD (hr.mono (by decide)) bD .nil passL (pa_cons (pv 6) (pa_cons pe_str pa_nil))) (pa_cons (pv 5) pa_nil))) rfl)) pss_nil))))))) (pss_one (ps_ret (pe_tup (pa_cons (pe_dc (own := [("name", 4)]) (g := gName 4) (tt := tYes) (tk := tVar 4) (tv := tDGet (tVar 2) (tVar 4)) rfl scHanded.nd (pi_list (pe_meth0 (pv 0) TCl.cl mN FN (hr.mono (by decide)) bN .nil pass0)) (blkOk_by (own := [("name", 4)]) (N := ["tree", "whole", "has", "alone", "name", "free", "child"]) (sc := defScope sHanded) (by decide +kernel)) (fun _ _ _ _ _ => (pg_name (i := 4) scHanded.nd rfl (Or.inl rfl))) (fun _ _ _ _ _ => pts_nil) (fun _ _ _ _ _ => (pv 4)) (fun _ _ _ _ _ => (pe_dget hu (pv 2) (pv 4) (fun _ _ => rfl)))) (pa_cons (pv 3) pa_nil)))))))), ?_⟩
  obtain ⟨dx, po, pp, pk, pt, o1, _⟩ := id ht
  intro dh hdh
  refine ⟨_, rfl, upd_same, [(Sum.inr "", .ref a)], rfl, by show 1 ≤ 15; decide, ?_⟩
  have s0 : Same H (upd (upd H dh (.dK [])) dh (.dK (mergeK [] [(Sum.inr "", .ref a)]))) := Same.ch (Same.new (Same.refl H) hdh _) hdh _
  have e0 : upd (upd H dh (.dK [])) dh (.dK (mergeK [] [(Sum.inr "", .ref a)])) dh = some (.dK [(Sum.inr "", .ref a)]) := upd_same
  generalize upd (upd H dh (.dK [])) dh (.dK (mergeK [] [(Sum.inr "", .ref a)])) = G0 at s0 e0 ⊢
  intro da hda
  refine ⟨upd_same, [(Sum.inr "", .bl true)], rfl, by show 1 ≤ 15; decide, ?_⟩
  have hda0 : H da = none := Same.free s0 hda
  have nd : dh ≠ da := ne_of_none e0 hda
  have s1 : Same G0 (upd (upd G0 da (.dK [])) da (.dK (mergeK [] [(Sum.inr "", .bl true)]))) := Same.ch (Same.new (Same.refl G0) hda _) hda _
  have e1 : upd (upd G0 da (.dK [])) da (.dK (mergeK [] [(Sum.inr "", .bl true)])) da = some (.dK (mps [("" : Str)])) := upd_same
  generalize upd (upd G0 da (.dK [])) da (.dK (mergeK [] [(Sum.inr "", .bl true)])) = G1 at s1 e1 ⊢
  have s01 := s0.trans s1
  refine ⟨by show 1 ≤ sizeLine; decide, fun l0 hl0 => ?_⟩
  have s2 := Same.new (Same.refl G1) hl0 (.lst [.str ""])
  have e2 : upd G1 l0 (.lst [.str ""]) l0 = some (.lst [.str ""]) := upd_same
  generalize upd G1 l0 (.lst [.str ""]) = G2 at s2 e2 ⊢
  refine ⟨_, rfl, p, dx, _, rfl, s2 _ _ (s01 _ _ o1), by rfl, p, rows, h, tk, rfl, ht.same (s01.trans s2) ok, fun l1 hl1 => ?_⟩
  have s3 := Same.new (Same.refl G2) hl1 (.lst ((nms rows).map .str))
  have e3 : upd G2 l1 (.lst ((nms rows).map .str)) l1 = some (.lst ((nms rows).map .str)) := upd_same
  generalize upd G2 l1 (.lst ((nms rows).map .str)) = G3 at s3 e3 ⊢
  refine ⟨l0, l1, _, _, rfl, rfl, s3 _ _ e2, e3, ?_, fun lo hlo => ?_⟩
  · rw [List.length_map]
    unfold nms
    rw [List.length_map]
    exact small (by show 1 + rows.length ≤ 1000; omega)
  have s4 := Same.new (Same.refl G3) hlo (.lst ([.str ""] ++ (nms rows).map .str))
  have e4 : upd G3 lo (.lst ([.str ""] ++ (nms rows).map .str)) lo = some (.lst ((("" : Str) :: nms rows).map .str)) := upd_same
  generalize upd G3 lo (.lst ([.str ""] ++ (nms rows).map .str)) = G4 at s4 e4 ⊢
  have hd0 : HD K H G4 dh da lo (("" : Str) :: nms rows) (start ("" : Str) whole) := by
    have s14 := (s2.trans s3).trans s4
    refine ⟨s01.trans s14, hdh, hda0, nd, ⟨_, s14 _ _ (s1 _ _ e0), .cons ⟨rfl, ⟨a, rfl, Same.seqT (s01.trans s14) ha⟩, lw⟩ .nil⟩, s14 _ _ e1, e4⟩
  clear e4 e3 e2
  have os : OkS ("" : Str) (rows.map srOf) := oks ok
  have en : (("" : Str) :: nms rows) = (("" : Str) :: (rows.map srOf).map (·.nm)) := by
    unfold nms
    rw [List.map_map]
    rfl
  generalize hos : (("" : Str) :: nms rows) = osl at hd0
  rw [hos] at en
  refine ⟨lo, rfl, ⟨_, SqL.of hd0.lst⟩, for_list (K := K) (a := lo) (xs := osl.map V.str) (fun i σ G => ∃ (s : HS Str) (o4 o5 o6 : Option V), σ = [some (.ref p), some (.ref a), some (.ref dh), some (.ref da), o4, o5, o6] ∧ s = (osl.take i).foldl (nodeStep (rows.map srOf)) (start ("" : Str) whole) ∧
      HD K H G dh da lo osl s ∧ s.has.length ≤ 1 + i * 400 ∧ s.al.length ≤ 1 + i * 400) ⟨_, none, none, none, rfl, rfl, hd0, by show 1 ≤ 1 + 0 * 400; decide, by show 1 ≤ 1 + 0 * 400; decide⟩ ?_ ?_ ?_⟩
  · rintro i σ G hi ⟨s, o4, o5, o6, rfl, _, hd, _⟩
    exact SqL.of hd.lst
  · rintro i x σ G hx ⟨s, o4, o5, o6, rfl, es, hd, b1, b2⟩
    obtain ⟨n, hn, rfl⟩ : ∃ n, osl[i]? = some n ∧ x = .str n := by
      rw [List.getElem?_map] at hx
      obtain ⟨n, h1, h2⟩ := Option.map_eq_some_iff.mp hx
      exact ⟨n, h1, h2.symm⟩
    have hi : i ≤ 200 := by
      have := (List.getElem?_eq_some_iff.mp hn).1
      rw [en] at this
      simp at this
      omega
    have hnm : n ∈ ("" : Str) :: nms rows := by rw [hos]; exact List.mem_of_getElem? hn
    have hsome : (lookL s.has n).isSome = true := by
      rw [es, en]
      rw [en] at hn
      exact im_has os hn
    obtain ⟨own, hown⟩ := Option.isSome_iff_exists.mp hsome
    have eown : (lookL s.has n).getD [] = own := by rw [hown]; rfl
    obtain ⟨vf, g1, g2, g3⟩ := hd.get hown
    refine ⟨_, rfl, _, rfl, dh, vf, rfl, g1, ?_⟩
    -- the children, once
    have htG := ht.same hd.same ok
    refine ⟨_, rfl, p, dx, _, rfl, hd.same _ _ o1, by rfl, _, rfl, p, _, rows, h, tk, rfl, htG, ok, .inl ⟨n, rfl, hnm, fun lk hlk => ?_⟩⟩
    have t1 := Same.new (Same.refl G) hlk (.lst ((kidsOf rows (Sum.inr n)).map .str))
    have f1 : upd G lk (.lst ((kidsOf rows (Sum.inr n)).map .str)) lk = some (.lst ((kidsOf rows (Sum.inr n)).map .str)) := upd_same
    have hd1 := hd.mono t1
    have g2' := g2.same t1
    generalize upd G lk (.lst ((kidsOf rows (Sum.inr n)).map .str)) = G1' at t1 f1 hd1 g2' ⊢
    rw [kids_srs] at f1
    generalize hks : kidsS (rows.map srOf) n = ks at f1
    have kat : ∀ {j : Nat} {c : SR Str}, ks[j]? = some c → ∃ r ∈ rows, c = srOf r ∧ r.above = n := fun {j c} z => kid_at (by rw [hks]; exact z)
    have kl : ks.length ≤ 200 := by
      rw [← hks]
      have := List.length_filter_le (fun r : SR Str => decide (r.up = n)) (rows.map srOf)
      rw [List.length_map] at this
      exact Nat.le_trans this len
    refine ⟨lk, rfl, ⟨_, SqL.of f1⟩, for_list (K := K) (a := lk) (xs := (ks.map (·.nm)).map V.str) (fun j σ G' => ∃ (v5 : V) (o6 : Option V), σ = [some (.ref p), some (.ref a), some (.ref dh), some (.ref da), some (.str n), some v5, o6] ∧
        HD K H G' dh da lo osl ((ks.take j).foldl (k1Step n) (s, own)).1 ∧ SetAt K G' v5 ((ks.take j).foldl (k1Step n) (s, own)).2 ∧ ((ks.take j).foldl (k1Step n) (s, own)).2.length ≤ 64 ∧ G' lk = some (.lst ((ks.map (·.nm)).map V.str)) ∧
        ((ks.take j).foldl (k1Step n) (s, own)).1.has.length ≤ 1 + i * 400 + j ∧ ((ks.take j).foldl (k1Step n) (s, own)).1.al.length ≤ 1 + i * 400 + j)
      ⟨vf, o6, rfl, hd1, g2', g3, f1, b1, b2⟩ ?_ ?_ ?_⟩
    · rintro j σ G2' hj ⟨v5, o6, rfl, _, _, _, f2, _⟩
      exact SqL.of f2
    · rintro j x σ G2' hx2 ⟨v5, o6, rfl, hd2, sv, sl, f2, c1, c2⟩
      obtain ⟨c, hc, rfl⟩ : ∃ c, ks[j]? = some c ∧ x = .str c.nm := by
        rw [List.getElem?_map, List.getElem?_map] at hx2
        obtain ⟨m, h1, h2⟩ := Option.map_eq_some_iff.mp hx2
        obtain ⟨c, h3, h4⟩ := Option.map_eq_some_iff.mp h1
        exact ⟨c, h3, by rw [← h2, ← h4]⟩
      obtain ⟨r, hrm, rfl, hra⟩ := kat hc
      have hj : j < 200 := by
        have := (List.getElem?_eq_some_iff.mp hc).1
        omega
      have estep : (ks.take (j + 1)).foldl (k1Step n) (s, own) = k1Step n ((ks.take j).foldl (k1Step n) (s, own)) (srOf r) := by
        rw [List.take_add_one, hc, Option.toList_some, List.foldl_append]
        rfl
      rw [estep]
      generalize (ks.take j).foldl (k1Step n) (s, own) = st at hd2 sv sl c1 c2 ⊢
      refine ⟨_, rfl, _, rfl, da, _, rfl, hd2.in_al n, _, rfl, ?_⟩
      rw [mps_val]
      unfold k1Step
      cases cb : decide (n ∈ st.1.al) with
      | false =>
        rw [Bool.false_and]
        refine iteF ?_
        refine iteF ?_
        exact ⟨v5, _, rfl, hd2, sv, sl, f2, Nat.le_succ_of_le c1, Nat.le_succ_of_le c2⟩
      | true =>
        rw [Bool.true_and]
        refine iteT ?_
        refine ⟨_, rfl, _, rfl, _, rfl, p, _, rows, h, tk, r, st.2, rfl, ht.same hd2.same ok, ok, hrm, sv, fun G3' s3' => ⟨_, rfl, ?_⟩⟩
        have hd3 := hd2.mono s3'
        have sv3 := sv.same s3'
        have f3 := s3' _ _ f2
        cases cm : mayS (srOf r) st.2 with
        | false =>
          refine iteF ?_
          exact ⟨v5, _, rfl, hd3, sv3, sl, f3, Nat.le_succ_of_le c1, Nat.le_succ_of_le c2⟩
        | true =>
          refine iteT ?_
          rw [if_pos rfl]
          -- alone[child] = True
          refine ⟨_, rfl, _, rfl, da, _, rfl, .inl ⟨_, Sum.inr r.name, hd3.al, rfl, ?_, rfl⟩, ?_⟩
          · rw [List.length_map]
            exact Nat.lt_of_le_of_lt c2 (Nat.lt_of_lt_of_le (by show 1 + i * 400 + j < 100000; omega) (by decide))
          rw [mps_put]
          obtain ⟨hd4, tk4⟩ := hd3.put_al r.name
          have sv4 := sv3.tk tk4
          have f4 : upd G3' da (.dK (mps (putA st.1.al r.name))) lk = some (.lst ((ks.map (·.nm)).map V.str)) := (upd_ne (ne_of f3 hd3.al (by intro z; cases z))).trans f3
          generalize upd G3' da (.dK (mps (putA st.1.al r.name))) = G4' at hd4 tk4 sv4 f4 ⊢
          -- has[child] = tree.due(child, 'sets')
          refine ⟨_, rfl, p, dx, _, rfl, hd4.same _ _ o1, by rfl, _, rfl, p, _, _, rows, h, tk, rfl, ht.same hd4.same ok, nms_nd ok, .inl ⟨r, hrm, rfl, .inl ⟨"sets", by decide +kernel, rfl, fun u d e1 e2 => ?_⟩⟩⟩
          obtain ⟨hask, hrise⟩ := ask_of (rows_due ok r hrm) e1 e2
          obtain ⟨_, ask, ea, _⟩ := may_ask cm
          have ea : askOf r = some ask := ea
          rw [ea] at hask
          obtain ⟨hset, hlen⟩ := hask
          obtain ⟨kvs, k1, k2⟩ := id hd4.has
          have kvl : kvs.length ≤ 1 + i * 400 + j := by
            rw [Paired.length k2]
            exact c1
          refine ⟨_, rfl, _, rfl, dh, _, rfl, .inl ⟨kvs, Sum.inr r.name, k1, rfl, Nat.lt_of_le_of_lt kvl (Nat.lt_of_lt_of_le (by show 1 + i * 400 + j < 100000; omega) (by decide)), rfl⟩, ?_⟩
          obtain ⟨hd5, tk5⟩ := hd4.put_has k1 (x := r.name) hset hlen
          have sv5 := sv4.tk tk5
          have f5 : upd G4' dh (.dK (putK kvs (Sum.inr r.name) u)) lk = some (.lst ((ks.map (·.nm)).map V.str)) := (upd_ne (ne_of f4 k1 (by intro z; cases z))).trans f4
          generalize upd G4' dh (.dK (putK kvs (Sum.inr r.name) u)) = G5' at hd5 tk5 sv5 f5 ⊢
          obtain ⟨v6, y1, y2, y3⟩ := hd5.get (x := r.name) (xs := ask) (by
            show lookL (putL st.1.has r.name ask) r.name = _
            rw [look_put, if_pos rfl])
          refine ⟨_, rfl, _, rfl, _, rfl, dh, v6, rfl, y1, _, _, st.2, ask, rfl, sv5, y2, sl, fun v7 G6' s6' z6 => ?_⟩
          have hd6 := hd5.mono s6'
          have eg : (srOf r).ask.getD [] = ask := by
            show (askOf r).getD [] = ask
            rw [ea]
            rfl
          rw [eg]
          refine ⟨v7, _, rfl, hd6, z6, ?_, s6' _ _ f5, ?_, ?_⟩
          · exact Nat.le_trans (List.length_filter_le _ _) sl
          · exact Nat.le_trans (putL_len _ _ _) (by omega)
          · exact Nat.le_trans (putA_len _ _) (by omega)
    · rintro σ G2' ⟨v5, o6, rfl, hd2, sv, sl, f2, c1, c2⟩
      have exl : ((ks.map (·.nm)).map V.str).length = ks.length := by rw [List.length_map, List.length_map]
      rw [exl, List.take_length] at hd2 sv sl c1 c2
      have el1 : nodeStep (rows.map srOf) s n = ks.foldl (k2Step (ks.foldl (k1Step n) (s, own)).2) (ks.foldl (k1Step n) (s, own)).1 := by
        unfold nodeStep
        rw [hks, eown]
      have est : (osl.take (i + 1)).foldl (nodeStep (rows.map srOf)) (start ("" : Str) whole) = nodeStep (rows.map srOf) s n := by
        rw [List.take_add_one, hn, Option.toList_some, List.foldl_append, ← es]
        rfl
      rw [← est] at el1
      generalize ks.foldl (k1Step n) (s, own) = st at hd2 sv sl c1 c2 el1
      -- the children, twice
      have htG2 := ht.same hd2.same ok
      refine ⟨_, rfl, p, dx, _, rfl, hd2.same _ _ o1, by rfl, _, rfl, p, _, rows, h, tk, rfl, htG2, ok, .inl ⟨n, rfl, hnm, fun lm hlm => ?_⟩⟩
      have t3 := Same.new (Same.refl G2') hlm (.lst ((kidsOf rows (Sum.inr n)).map .str))
      have f3 : upd G2' lm (.lst ((kidsOf rows (Sum.inr n)).map .str)) lm = some (.lst ((kidsOf rows (Sum.inr n)).map .str)) := upd_same
      have hd3 := hd2.mono t3
      have sv3 := sv.same t3
      generalize upd G2' lm (.lst ((kidsOf rows (Sum.inr n)).map .str)) = G3' at t3 f3 hd3 sv3 ⊢
      rw [kids_srs, hks] at f3
      clear hd2 sv f2 t3 htG2
      refine ⟨lm, rfl, ⟨_, SqL.of f3⟩, for_list (K := K) (a := lm) (xs := (ks.map (·.nm)).map V.str) (fun j σ G' => ∃ (o6 : Option V), σ = [some (.ref p), some (.ref a), some (.ref dh), some (.ref da), some (.str n), some v5, o6] ∧
          HD K H G' dh da lo osl ((ks.take j).foldl (k2Step st.2) st.1) ∧ SetAt K G' v5 st.2 ∧ G' lm = some (.lst ((ks.map (·.nm)).map V.str)) ∧
          ((ks.take j).foldl (k2Step st.2) st.1).has.length ≤ 1 + i * 400 + ks.length + j ∧ ((ks.take j).foldl (k2Step st.2) st.1).al.length ≤ 1 + i * 400 + ks.length + j)
        ⟨_, rfl, hd3, sv3, f3, c1, c2⟩ ?_ ?_ ?_⟩
      · rintro j σ G4' hj ⟨o6, rfl, _, _, f4, _⟩
        exact SqL.of f4
      · rintro j x σ G4' hx2 ⟨o6, rfl, hd4, sv4, f4, c3, c4⟩
        obtain ⟨c, hc, rfl⟩ : ∃ c, ks[j]? = some c ∧ x = .str c.nm := by
          rw [List.getElem?_map, List.getElem?_map] at hx2
          obtain ⟨m, h1, h2⟩ := Option.map_eq_some_iff.mp hx2
          obtain ⟨c, h3, h4⟩ := Option.map_eq_some_iff.mp h1
          exact ⟨c, h3, by rw [← h2, ← h4]⟩
        obtain ⟨r, hrm, rfl, hra⟩ := kat hc
        have hj : j < 200 := by
          have := (List.getElem?_eq_some_iff.mp hc).1
          omega
        have estep : (ks.take (j + 1)).foldl (k2Step st.2) st.1 = k2Step st.2 ((ks.take j).foldl (k2Step st.2) st.1) (srOf r) := by
          rw [List.take_add_one, hc, Option.toList_some, List.foldl_append]
          rfl
        rw [estep]
        generalize (ks.take j).foldl (k2Step st.2) st.1 = sj at hd4 c3 c4 ⊢
        refine ⟨_, rfl, _, rfl, da, _, rfl, hd4.in_al r.name, _, rfl, ?_⟩
        rw [mps_val]
        unfold k2Step
        by_cases cb : r.name ∈ sj.al
        · have e : (if (srOf r).nm ∈ sj.al then sj else ⟨putL sj.has (srOf r).nm (sharedS (srOf r).ask st.2), sj.al⟩) = sj := if_pos cb
          rw [e, decide_eq_true cb]
          refine iteF ?_
          exact ⟨_, rfl, hd4, sv4, f4, Nat.le_succ_of_le c3, Nat.le_succ_of_le c4⟩
        · have e : (if (srOf r).nm ∈ sj.al then sj else ⟨putL sj.has (srOf r).nm (sharedS (srOf r).ask st.2), sj.al⟩) = ⟨putL sj.has r.name (sharedS (askOf r) st.2), sj.al⟩ := if_neg cb
          rw [e, decide_eq_false cb]
          refine iteT ?_
          refine ⟨_, rfl, p, dx, _, rfl, hd4.same _ _ o1, by rfl, _, rfl, p, _, _, rows, h, tk, rfl, ht.same hd4.same ok, nms_nd ok, .inl ⟨r, hrm, rfl, .inl ⟨"sets", by decide +kernel, rfl, fun u d e1 e2 => ?_⟩⟩⟩
          obtain ⟨hask, hrise⟩ := ask_of (rows_due ok r hrm) e1 e2
          refine ⟨_, rfl, u, v5, askOf r, st.2, rfl, hask, sv4, sl, fun v7 G5' s5' z5 => ?_⟩
          have hd5 := hd4.mono s5'
          obtain ⟨kvs, k1, k2⟩ := id hd5.has
          have kvl : kvs.length ≤ 1 + i * 400 + ks.length + j := by
            rw [Paired.length k2]
            exact c3
          refine ⟨_, rfl, _, rfl, dh, _, rfl, .inl ⟨kvs, Sum.inr r.name, k1, rfl, Nat.lt_of_le_of_lt kvl (Nat.lt_of_lt_of_le (by show 1 + i * 400 + ks.length + j < 100000; omega) (by decide)), rfl⟩, ?_⟩
          obtain ⟨hd6, tk6⟩ := hd5.put_has k1 (x := r.name) z5 (Nat.le_trans shared_len sl)
          exact ⟨_, rfl, hd6, (sv4.same s5').tk tk6, (upd_ne (ne_of (s5' _ _ f4) k1 (by intro z; cases z))).trans (s5' _ _ f4), Nat.le_trans (putL_len _ _ _) (by omega), Nat.le_succ_of_le c4⟩
      · rintro σ G4' ⟨o6, rfl, hd4, sv4, f4, c3, c4⟩
        rw [exl, List.take_length, ← el1] at hd4 c3 c4
        exact ⟨_, _, _, _, rfl, rfl, hd4, by omega, by omega⟩
  · rintro σ G ⟨s, o4, o5, o6, rfl, es, hd, b1, b2⟩
    rw [List.length_map, List.take_length, en] at es
    have es : s = handS ("" : Str) (rows.map srOf) whole := es
    subst es
    -- the dict of all names
    refine ⟨_, rfl, p, dx, _, rfl, hd.same _ _ o1, by rfl, p, rows, h, tk, rfl, ht.same hd.same ok, fun ln hln => ?_⟩
    have t1 := Same.new (Same.refl G) hln (.lst ((nms rows).map .str))
    have f1 : upd G ln (.lst ((nms rows).map .str)) ln = some (.lst ((nms rows).map .str)) := upd_same
    have hd1 := hd.mono t1
    generalize upd G ln (.lst ((nms rows).map .str)) = G1' at t1 f1 hd1 ⊢
    refine ⟨ln, rfl, ⟨_, SqL.of f1⟩, fun D hD => dc_lst (K := K) (a := ln) (xs := (nms rows).map V.str) (fun j G' => ∃ kvs, G' = upd G1' D (.dK kvs) ∧ Paired (HasR K G1') kvs ((setsM rows whole).take j) ∧ ∀ kv ∈ kvs, ∃ x ∈ (nms rows).take j, kv.1 = (Sum.inr x : Key)) ⟨[], rfl, .nil, fun kv m => by cases m⟩ ?_ ?_ ?_⟩
    · rintro j _ _ ⟨kvs, rfl, _⟩
      exact SqL.of (by rw [upd_ne (ne_of_none f1 hD)]; exact f1)
    · rintro j x _ hx ⟨kvs, rfl, hk, hkey⟩
      obtain ⟨r, hr1, rfl⟩ : ∃ r, rows[j]? = some r ∧ x = .str r.name := by
        unfold nms at hx
        rw [List.getElem?_map, List.getElem?_map] at hx
        obtain ⟨m, h1, h2⟩ := Option.map_eq_some_iff.mp hx
        obtain ⟨r, h3, h4⟩ := Option.map_eq_some_iff.mp h1
        exact ⟨r, h3, by rw [← h2, ← h4]⟩
      have hrm := List.mem_of_getElem? hr1
      have hj : j < 200 := by
        have := (List.getElem?_eq_some_iff.mp hr1).1
        omega
      have hkey2 := hand_key (whole := whole) os (List.mem_map_of_mem hrm : srOf r ∈ rows.map srOf)
      obtain ⟨own, hown⟩ := Option.isSome_iff_exists.mp hkey2
      obtain ⟨v, g1, g2, g3⟩ := hd1.get (x := r.name) hown
      have g1' : DGet (upd G1' D (.dK kvs)) dh (.str r.name) (some v) := by
        obtain ⟨kh, k1, k2⟩ := id hd1.has
        obtain ⟨v', z1, z2⟩ := paired_look k2 hown
        have k1' : upd G1' D (.dK kvs) dh = some (.dK kh) := (upd_ne (ne_of_none k1 hD)).trans k1
        rcases g1 with ⟨kv2, k, y1, y2, y3⟩ | ⟨kv2, k, b, y1, y2, _⟩
        · have y2' : (V.str r.name) = kV k := y2
          have : k = (Sum.inr r.name : Key) := by
            cases k with
            | inl i => cases y2'
            | inr z => exact congrArg Sum.inr (V.str.inj y2').symm
          subst this
          have : kv2 = kh := by
            rcases y1 with y1 | ⟨o, y1⟩
            · rw [k1] at y1; cases y1; rfl
            · rw [k1] at y1; cases y1
          subst this
          rw [y3]
          exact DGet.k (k := Sum.inr r.name) k1'
        · cases y2
      refine ⟨rfl, ?_⟩
      unfold tYes
      refine iteT ?_
      refine ⟨_, rfl, _, rfl, _, rfl, dh, v, rfl, g1', kvs, Sum.inr r.name, rfl, upd_same, ?_, ?_⟩
      · rw [Paired.length hk, List.length_take]
        exact small1000 (by omega)
      · have hnew : valV kvs (Sum.inr r.name) = none := keys_none fun m => by
          obtain ⟨kv, hkv, e⟩ := List.mem_map.mp m
          obtain ⟨x, hx, e2⟩ := hkey kv hkv
          have : x = r.name := Sum.inr.inj (e2.symm.trans e)
          subst this
          obtain ⟨k, hk2⟩ := List.mem_iff_getElem?.mp hx
          obtain ⟨lk, ek⟩ := List.getElem?_eq_some_iff.mp hk2
          have ndn := nms_nd ok
          have e3 : (nms rows)[j]? = some r.name := by
            unfold nms
            rw [List.getElem?_map, hr1]
            rfl
          obtain ⟨lj, ej⟩ := List.getElem?_eq_some_iff.mp e3
          rw [List.length_take] at lk
          have e4 : (nms rows)[k]? = some r.name := by
            rw [List.getElem?_take_of_lt (by omega)] at hk2
            exact hk2
          obtain ⟨lk2, ek2⟩ := List.getElem?_eq_some_iff.mp e4
          have : k = j := (List.getElem_inj ndn (h₀ := lk2) (h₁ := lj)).mp (by rw [ek2, ej])
          omega
        rw [putK_new _ hnew, upd_upd]
        have e5 : (setsM rows whole).take (j + 1) = (setsM rows whole).take j ++ [(r.name, own)] := by
          have : (setsM rows whole)[j]? = some (r.name, own) := by
            unfold setsM
            rw [List.getElem?_map, hr1]
            show some (r.name, hasF ("" : Str) (rows.map srOf) whole r.name) = _
            have : hasF ("" : Str) (rows.map srOf) whole r.name = own := by
              unfold hasF
              have hown : lookL (handS ("" : Str) (rows.map srOf) whole).has r.name = some own := hown
              rw [hown]
              rfl
            rw [this]
          rw [List.take_add_one, this]
          rfl
        refine ⟨_, rfl, ?_, fun kv hkv => ?_⟩
        · rw [e5]
          exact paired_snoc ⟨rfl, g2, g3⟩ hk
        · have e6 : (nms rows).take (j + 1) = (nms rows).take j ++ [r.name] := by
            unfold nms
            rw [List.take_add_one, List.getElem?_map, hr1]
            rfl
          rw [e6]
          rcases List.mem_append.mp hkv with m | m
          · obtain ⟨x, hx, e⟩ := hkey kv m
            exact ⟨x, List.mem_append_left _ hx, e⟩
          · rw [List.mem_singleton.mp m]
            exact ⟨r.name, List.mem_append_right _ (List.mem_singleton.mpr rfl), rfl⟩
    · rintro _ ⟨kvs, rfl, hk, hkey⟩
      have e7 : ((nms rows).map V.str).length = (setsM rows whole).length := by
        unfold nms setsM
        rw [List.length_map, List.length_map, List.length_map]
      rw [e7, List.take_length] at hk
      refine ⟨_, rfl, by show 2 ≤ sizeLine; decide, fun t htn => ?_⟩
      have sD : Same G1' (upd G1' D (.dK kvs)) := Same.new (Same.refl G1') hD _
      have fD : upd G1' D (.dK kvs) D = some (.dK kvs) := upd_same
      have hkD := paired_mono (fun _ _ z => HasR.tk (.of sD) z) hk
      have hdD := hd1.mono sD
      generalize upd G1' D (.dK kvs) = G2' at sD fD hkD hdD htn ⊢
      have sT : Same G2' (upd G2' t (.tup [.ref D, .ref da])) := Same.new (Same.refl G2') htn _
      exact q t D da _ kvs (Same.free (hdD.same) htn) (Same.free hd1.same hD) (hdD.same.trans sT) (SqT.of upd_same) (sT _ _ fD) (paired_mono (fun _ _ z => HasR.tk (.of sT) z) hkD) (sT _ _ hdD.al)
theorem ok_sets {f gT gC gH : Addr} {fd dT dC dH : FuncData} (F : Fun K "sets" "sets" sSets f fd) (cT : Cal P w K mg base "check_tree" ["thing"] 1 (spCTree K C) gT dT) (cC : Cal P w K mg base "check_whole" ["whole"] 3 (spCWhole K) gC dC)
    (cH : Cal P w K mg base "handed_down" ["tree", "whole"] 4 (spHanded K C) gH dH) : FnOk P w K mg base CX0 5 f fd ["tree", "whole"] (spSets K C) := by
  refine F.ok scSets (fun vs H Q E h => ?_) (fun cdv A outer s H vs Q E hr h => ?_)
  · obtain ⟨p, v, rows, whole, rfl, _⟩ := h
    rfl
  obtain ⟨p, v, rows, whole, rfl, ⟨⟨h, tk, ht⟩, ok, len, sv, hw, lw, nw⟩, q⟩ := h
  refine ⟨_, (pss_cons (ps_expr (pe_call cT.ok (hr.mono (by decide)) rfl cT.mg cT.kp cT.bd .nil pass0 (pa_cons (pv 0) pa_nil))) (pss_cons (ps_expr (pe_call cC.ok (hr.mono (by decide)) rfl cC.mg cC.kp cC.bd .nil pass0 (pa_cons (pv 1) pa_nil))) (pss_one (ps_ret (pe_ix ix_tup (pe_call cH.ok (hr.mono (by decide)) rfl cH.mg cH.kp cH.bd .nil pass0 (pa_cons (pv 0) (pa_cons (pv 1) pa_nil))) pe_int (fun _ _ => rfl)))))), ?_⟩
  refine ⟨_, rfl, p, rows, h, tk, rfl, ht, ?_⟩
  refine ⟨_, rfl, v, whole, rfl, sv, hw, lw, nw, ?_⟩
  refine ⟨_, rfl, _, rfl, p, v, rows, h, tk, whole, rfl, ht, ok, len, sv, lw, fun t d da H' kvs h1 h2 s1 ht2 hd hk ha => ?_⟩
  exact ⟨t, _, 0, _, rfl, rfl, ht2, rfl, q d H' kvs h2 s1 hd hk⟩
theorem ok_stands {f gT gC gH fN : Addr} {fd dT dC dH dN : FuncData} (F : Fun K "stands_alone" "stands_alone" sStands f fd) (TCl : TC K mg C) (mN : Meth K C "names" fN) (FN : FnOk P w K mg base CX0 1 fN dN ["self"] (spTNames K C)) (bN : Binds K dN ["self"] [])
    (cT : Cal P w K mg base "check_tree" ["thing"] 1 (spCTree K C) gT dT) (cC : Cal P w K mg base "check_whole" ["whole"] 3 (spCWhole K) gC dC)
    (cH : Cal P w K mg base "handed_down" ["tree", "whole"] 4 (spHanded K C) gH dH) : FnOk P w K mg base CX0 5 f fd ["tree", "whole"] (spStands K C) := by
  refine F.ok scStands (fun vs H Q E h => ?_) (fun cdv A outer s H vs Q E hr h => ?_)
  · obtain ⟨p, v, rows, whole, rfl, _⟩ := h
    rfl
  obtain ⟨p, v, rows, whole, rfl, ⟨⟨h, tk, ht⟩, ok, len, sv, hw, lw, nw⟩, q⟩ := h
  have hu := hu_of hr
  refine ⟨_, (pss_cons (ps_expr (pe_call cT.ok (hr.mono (by decide)) rfl cT.mg cT.kp cT.bd .nil pass0 (pa_cons (pv 0) pa_nil))) (pss_cons (ps_expr (pe_call cC.ok (hr.mono (by decide)) rfl cC.mg cC.kp cC.bd .nil pass0 (pa_cons (pv 1) pa_nil))) (pss_cons (ps_set (i := 2) scStands.nd rfl (Or.inr rfl) (pe_ix ix_tup (pe_call cH.ok (hr.mono (by decide)) rfl cH.mg cH.kp cH.bd .nil pass0 (pa_cons (pv 0) (pa_cons (pv 1) pa_nil))) pe_int (fun _ _ => rfl))) (pss_one (ps_ret (pe_lc (own := [("name", 3)]) (g := gName 3) (tt := tTest (tDIn (tVar 3) (tVar 2))) (te := tVar 3) rfl scStands.nd (pi_list (pe_meth0 (pv 0) TCl.cl mN FN (hr.mono (by decide)) bN .nil pass0)) (blkOk_by (own := [("name", 3)]) (N := ["tree", "whole", "alone", "name"]) (sc := defScope sStands) (by decide +kernel)) (fun _ _ _ _ _ => (pg_name (i := 3) scStands.nd rfl (Or.inl rfl))) (fun _ _ _ _ _ => (pts_one (pt_cmp (pc_din hu (pv 3) (pv 2))))) (fun _ _ _ _ _ => (pv 3)))))))), ?_⟩
  refine ⟨_, rfl, p, rows, h, tk, rfl, ht, ?_⟩
  refine ⟨_, rfl, v, whole, rfl, sv, hw, lw, nw, ?_⟩
  refine ⟨_, rfl, _, rfl, p, v, rows, h, tk, whole, rfl, ht, ok, len, sv, lw, fun t d da H' kvs h1 h2 s1 ht2 hd hk ha => ?_⟩
  refine ⟨t, _, 1, _, rfl, rfl, ht2, rfl, ?_⟩
  obtain ⟨dx, po, pp, pk, pt, o1, _⟩ := id ht
  refine ⟨_, rfl, p, dx, _, rfl, s1 _ _ o1, by rfl, p, rows, h, tk, rfl, ht.same s1 ok, fun ln hln => ?_⟩
  have t1 := Same.new (Same.refl H') hln (.lst ((nms rows).map .str))
  have f1 : upd H' ln (.lst ((nms rows).map .str)) ln = some (.lst ((nms rows).map .str)) := upd_same
  have ha1 := t1 _ _ ha
  generalize upd H' ln (.lst ((nms rows).map .str)) = G at t1 f1 ha1 ⊢
  refine ⟨ln, rfl, ⟨_, SqL.of f1⟩, fun D hD => lc_list (K := K) (a := ln) (xs := (nms rows).map V.str) (fun i G' => G' = upd G D (.lst ((((nms rows).take i).filter (alF ("" : Str) (rows.map srOf) whole)).map V.str))) rfl ?_ ?_ ?_⟩
  · rintro i _ _ rfl
    exact SqL.of (by rw [upd_ne (ne_of_none f1 hD)]; exact f1)
  · rintro i x _ hx rfl
    rw [List.getElem?_map] at hx
    obtain ⟨n, hn, rfl⟩ := Option.map_eq_some_iff.mp hx
    refine ⟨rfl, ?_⟩
    refine ⟨_, rfl, _, rfl, da, _, rfl, DGet.k (k := Sum.inr n) ((upd_ne (ne_of_none ha1 hD)).trans ha1), _, rfl, ?_⟩
    rw [mps_val]
    have e1 : decide (n ∈ (handS ("" : Str) (rows.map srOf) whole).al) = alF ("" : Str) (rows.map srOf) whole n := rfl
    rw [e1, List.take_add_one, hn, Option.toList_some, List.filter_append, List.map_append]
    refine ite2 (fun c => ?_) (fun c => ?_)
    · refine ⟨_, rfl, _, upd_same, ?_, ?_⟩
      · rw [List.length_map]
        refine small1000 (Nat.le_trans (flt_len _ (nms rows) i (n := 200) ?_) (by decide))
        unfold nms
        rw [List.length_map]
        exact len
      · rw [upd_upd, List.filter_cons_of_pos c]
        rfl
    · rw [List.filter_cons_of_neg c]
      simp
  · rintro _ rfl
    rw [List.length_map, List.take_length]
    exact q D _ (Same.free (s1.trans t1) hD) ((s1.trans t1).trans (Same.new (Same.refl G) hD _)) upd_same
end
end Bd
end

section
namespace Bd
open PySem L2 PySem.Spec PyProof.Rows
/-! set(xs), xs a list of ints -/
abbrev setNew (w : World) : Obj := { cls := .type "set", dict := none, data := .set #[] 0 (.fresh 0 0 (!w.params.followText "set-order")) }
/-- what the making of a set of ints leaves -/
def SetMade (w : World) (s : Shared) (ns : List Int) (g : Heap) (n : Nat) : Prop := SetR w g s.heap.objs.size (fun j => decide (j ∈ ns)) n ∧ n ≤ ns.length ∧ ∀ b o, s.heap.get? b = some o → g.get? b = some o
section
variable {P : Program} {w : World} {A : Around} {E : Value → Shared → Prop} {s : Shared}
set_option maxHeartbeats 3200000 in
theorem call_setL {l : Addr} {items : Array Value} (ns : List Int) {Q : Value → Shared → Prop} (hh : A.handled = none) (hl : s.heap.IsList l items) (hit : IntsAre items.toList ns) (hb : ns.length + 1 < scanBound)
    (q : ∀ (g : Heap) (tk n : Nat), SetMade w s ns g n → Q (.ref s.heap.objs.size) { s with heap := g, toks := tk }) : wpAny (model P w) A (call (.type "set") [.ref l]) Q E s := by
  have size : items.size = ns.length := (Array.length_toList).symm.trans (IntsAre.length hit)
  obtain ⟨_, _, m0⟩ := F.called_set.mro
  have m1 := F.called_set.made; have m2 := F.called_set.sub; have m3 := F.called_set.notType; have m4 := F.called_set.canCreate; have m5 := F.typeCall_set_1 (.ref l)
  refine wpAny_call (codeAny_of_tree (show wpAny _ _ (callAny (.type "set") _) _ _ _ from wpAny_pure ⟨Code.quiet_builtin _ (by decide +kernel), codeAny_builtin PySem.F.entry_type_call ?_⟩))
  rw [Around.under_plain (weight_type_call_type "set" [.ref l] []) rfl]
  repeat (any_goals (first | assumption | wp_step))
  refine codeAny_mono (code_set_led1 (.ref l) (E := E) (Q₁ := fun x s1 => x = .ref s.heap.objs.size ∧ s1 = { s with heap := s.heap.push (setNew w) }) ⟨rfl, rfl⟩) fun r s1 h1 => ?_
  match r, h1 with
  | .ok (.ret x), ⟨e1, e2⟩ =>
    subst e1 e2
    have at0 : (s.heap.push (setNew w)).get? s.heap.objs.size = some (setNew w) := Heap.get?_push_size _ rfl
    have ty0 : Shared.TypeIs { s with heap := s.heap.push (setNew w) } (.ref s.heap.objs.size) "set" := ⟨_, at0, rfl⟩
    have i1 := F.called_set.init.lookup; have i2 := F.called_set.init.bind (.ref s.heap.objs.size)
    repeat (any_goals (first | assumption | wp_step))
    refine codeAny_mono (codeAny_call_builtin (R := wants (fun r s2 => r = .none ∧ ∃ g tk n, s2 = { s with heap := g, toks := tk } ∧ SetMade w s ns g n) E) F.called_set.init.plain F.entry_set_init (check_set_init_1 ty0 ?_)) fun r2 s2 h2 => ?_
    · obtain ⟨⟨oc, od, ot, os⟩, o1, o2, n0, o3⟩ := hl
      dsimp only at o2 o3
      subst o2 o3
      have o4 : (s.heap.push (setNew w)).get? l = some { cls := .type "list", dict := od, data := .seq items n0, slots := os } := Heap.get?_push_of_some _ o1
      have k1 := F.sub_list_set; have k2 := F.sub_list_frozenset
      have k3 : (Value.type "list" == Value.type "dict") = false := by decide
      have list1 : (s.heap.push (setNew w)).IsList l items := ⟨_, o4, rfl, n0, rfl⟩
      unfold Builtin.«set.__init__» noKeywords Builtin.Frozenset.updateFrom
      generalize heq : pyIter = PI
      wp_walk
      subst heq
      refine wpAny_pyIter_list list1 (wpAny_bind (wpAny_runValue ?_))
      have lt0 : l < s.heap.objs.size := Heap.lt_size o1
      have hand : A.in1.in1.in1.handled = none := by simp [hh]
      have sz1 : (s.heap.push (setNew w)).objs.size = s.heap.objs.size + 1 := Heap.size_push ..
      have ne1 : l ≠ (s.heap.push (setNew w)).objs.size := by rw [sz1]; exact (Nat.ne_of_lt (Nat.lt_succ_of_lt lt0))
      have out : s.heap.objs.size ∉ [(s.heap.push (setNew w)).objs.size, l] := by
        rw [sz1]
        simp only [List.mem_cons, List.not_mem_nil, or_false, not_or]
        exact ⟨Nat.ne_of_lt (Nat.lt_succ_self _), Nat.ne_of_gt lt0⟩
      have vals : ∀ (i : Nat) (v : Value), items[i]? = some v → ∃ k t, ns[i]? = some k ∧ v = .int k t := by
        intro i v hv
        obtain ⟨t, e⟩ := PyProof.Rows.IntsAre.int_at hit i v ((Array.getElem?_toList).trans hv)
        have hi : i < ns.length := size ▸ (Array.getElem?_eq_some_iff.mp hv).1
        have e2 : ns.getD i 0 = ns[i] := by simp [hi]
        exact ⟨ns[i], t, List.getElem?_eq_getElem hi, by rw [e, e2]⟩
      refine set_update_ints (Walks.list hand _ l ne1 items).toS s.heap.objs.size out ns size hb vals (items.size - 0) 0 _ (by omega) (Nat.zero_le _) ⟨⟨_, Heap.get?_push_size _ rfl, rfl, rfl⟩, list1.push _⟩
        ⟨0, Nat.le_refl 0, setR_new_at (Heap.get?_push_of_some _ at0)⟩ ?_
      rintro ⟨g, g2, d2, tk2, os2⟩ n hm hn hS
      obtain rfl : g2 = s.gens := hm.gens
      obtain rfl : d2 = s.drawn := hm.drawn
      obtain rfl : os2 = s.os := hm.os
      refine wpAny_pure (show wpAny _ _ (ret Value.none) _ _ _ from wpAny_pure ⟨rfl, g, tk2, n, rfl, hS, size ▸ hn, fun b o e => ?_⟩)
      have b0 : b < s.heap.objs.size := Heap.lt_size e
      refine hm.heap b o ?_ (Heap.get?_push_of_some _ (Heap.get?_push_of_some _ e))
      rw [sz1]
      simp only [List.mem_cons, List.not_mem_nil, or_false, not_or]
      exact ⟨Nat.ne_of_lt b0, Nat.ne_of_lt (Nat.lt_succ_of_lt b0)⟩
    · match r2, h2 with
      | .ok (.ret _), ⟨e3, g, tk, n, e4, h3⟩ =>
        subst e3 e4
        repeat (any_goals (first | assumption | wp_step))
        exact q _ _ _ h3
      | .error _, h2 => exact h2
  | .error _, h1 => exact h1
end
section
variable {X : Cx}
def rSetOfI (K : PySem.W.Frag) (w : World) : List V → Hp → VK → Prop := fun xs H Q => ∃ (l : Addr) (ns : List Int), xs = [V.ref l] ∧ SqL K H l (ns.map V.int) ∧ ns.length ≤ 1000 ∧ ∀ a n, H a = none → n ≤ ns.length → Q (.ref a) (upd H a (SetO w a (fun j => decide (j ∈ ns)) n))
theorem cr_setL (hc : X.calm = true) : CallR X (.type "set") (rSetOfI X.K X.w) := by
  intro pins s σ H xs us Q I r h
  obtain ⟨l, ns, rfl, hl, hn, q⟩ := h
  obtain ⟨its, rv, pl, hz⟩ := I.list hl
  rw [Vals.ref1 r]
  refine call_setL ns (I.ok.hd hc) pl.isList (by simpa using ints_of_vals rv) (Nat.lt_of_le_of_lt (Nat.succ_le_succ hn) (by decide)) fun g tk n made => ?_
  exact ⟨.ref _, _, I.laid (t' := tk) made.2.2 (Nat.le_refl _) (setO_new made.1), rfl, q _ n (I.hok.fresh (Nat.le_refl _)) made.2.1⟩
end
end Bd
end

section
namespace Bd
open PySem L2 Bs
abbrev sLSet : Stmt := (top 49)
theorem scLSet : FnScope ["_law_source_here", "_law_few", "_law_first", "_law_found", "_law_turn", "_law_one_here"] ["_law_source_here", "_law_few"] (defScope sLSet) := ⟨rfl, rfl, rfl, by decide +kernel, rfl, by decide +kernel, by decide +kernel⟩
abbrev sLSome : Stmt := (top 50)
theorem scLSome : FnScope ["_law_source_here", "_law_many_so", "_law_one_here"] ["_law_source_here", "_law_many_so"] (defScope sLSome) := ⟨rfl, rfl, rfl, by decide +kernel, rfl, by decide +kernel, by decide +kernel⟩
abbrev sLRows : Stmt := (top 51)
theorem scLRows : FnScope ["_law_source_here", "_law_many", "_law_every", "_law_names_here", "_law_found", "_law_at", "_law_name", "_law_way", "_law_place", "_law_above", "_law_pool", "_law_asks_here", "_law_row"] ["_law_source_here", "_law_many", "_law_every"] (defScope sLRows) := ⟨rfl, rfl, rfl, by decide +kernel, rfl, by decide +kernel, by decide +kernel⟩

def tTupF (t : L2.TA) : TE := fun σ H Q => t σ H fun xs H1 => xs.length ≤ sizeLine ∧ ∀ (l : Addr) (o : Obj), H1 l = none → o.dict = none → Q (.ref l) (upd H1 l (.frz o (.tup xs)))
theorem pe_tupF {X : Cx} {es : List Expr} {t : L2.TA} {pos : Pos} {x1 : Nat} (h : PA X es t) : PE X (.Tuple es x1 pos) (tTupF t) := by
  refine ⟨fun pins s σ H Q I hq => ?_⟩
  refine wpAny_Tuple_spliced (thn (h.run pos pins s σ H _ I hq) fun us s1 ⟨xs, H1, I1, r, z, q⟩ => ⟨by rw [← r.length]; exact z, ?_⟩)
  have I2 := I1.laid (a := s1.heap.objs.size) (o := .frz { cls := .type "tuple", data := .seq us.toArray } (.tup xs)) (h' := s1.heap.push { cls := .type "tuple", data := .seq us.toArray }) (t' := s1.toks) (fun b u e => Heap.get?_push_of_some _ e) (Nat.le_refl _)
    (show ObjOk X.prog X.w _ _ _ (.frz _ (.tup xs)) from ⟨Heap.get?_push_size _ rfl, z, us, r, PyProof.Rows.IsTup.new _ _⟩)
  exact ⟨.ref s1.heap.objs.size, _, I2, rfl, q _ _ (I1.hok.fresh (Nat.le_refl _)) rfl⟩

structure TSo (mg : Str → Option Value) : Prop where
  z_sorted : mg "sorted" = none
  z_set : mg "set" = none
  z_max : mg "max" = none
theorem rise_of : ∀ {xs : List Int} {p : Int}, xs.Pairwise (· < ·) → (∀ x ∈ xs, p < x ∧ x ≤ 63) → RiseOk p xs
  | [], _, _, _ => True.intro
  | x :: xs, p, h, b => by
    obtain ⟨h1, h2⟩ := List.pairwise_cons.mp h
    exact ⟨(b x List.mem_cons_self).1, (b x List.mem_cons_self).2, rise_of h2 fun y hy => ⟨h1 y hy, (b y (List.mem_cons_of_mem _ hy)).2⟩⟩
theorem of_rise : ∀ {xs : List Int} {p : Int}, RiseOk p xs → xs.Pairwise (· < ·) ∧ ∀ x ∈ xs, p < x ∧ x ≤ 63
  | [], _, _ => ⟨.nil, fun _ h => by cases h⟩
  | x :: xs, p, ⟨h1, h2, h3⟩ => by
    obtain ⟨i1, i2⟩ := of_rise h3
    refine ⟨List.pairwise_cons.mpr ⟨fun y hy => (i2 y hy).1, i1⟩, fun y hy => ?_⟩
    rcases List.mem_cons.mp hy with rfl | hy
    · exact ⟨h1, h2⟩
    · have := i2 y hy
      exact ⟨by omega, this.2⟩
theorem rise_sub {xs ys : List Int} {p : Int} (s : ys.Sublist xs) (h : RiseOk p xs) : RiseOk p ys := by
  obtain ⟨h1, h2⟩ := of_rise h
  exact rise_of (h1.sublist s) fun y hy => h2 y (s.subset hy)
/-- an ask as data -/
def askD : Option (List Int) → PyData
  | none => .none
  | some xs => .tuple (xs.map .int)
def mkR (c : SR Str) : RowM := ⟨c.nm, c.up, [("sets", askD c.ask), ("alone", .int (if c.al then 1 else 0))]⟩
def AskR (ask : Option (List Int)) : Prop := ∀ a, ask = some a → RiseOk (-1) a ∧ a.length ≤ 64
theorem mk_dok {c : SR Str} (h : AskR c.ask) : DuesOk (mkR c).dues := by
  refine ⟨(by decide +kernel : (["sets", "alone"] : List Str).Nodup), fun du hdu => ?_⟩
  simp only [mkR, List.mem_cons, List.not_mem_nil, or_false] at hdu
  rcases hdu with rfl | rfl
  · refine ⟨by show ("sets" : Str) ∈ leftW; decide +kernel, ?_⟩
    show ValOk "sets" (askD c.ask)
    cases e : c.ask with
    | none => exact .none
    | some a => exact .set (h a e).1 (h a e).2
  · refine ⟨by show ("alone" : Str) ∈ leftW; decide +kernel, ?_⟩
    refine .alone ?_
    cases c.al
    · exact .inl rfl
    · exact .inr rfl
theorem mk_ask (c : SR Str) : dueOf (fullD (mkR c).dues) "sets" = some (askD c.ask) := rfl
theorem mk_al (c : SR Str) : dueOf (fullD (mkR c).dues) "alone" = some (.int (if c.al then 1 else 0)) := rfl
theorem sr_mk (c : SR Str) : srOf (mkR c) = c := by
  obtain ⟨nm, up, ask, al⟩ := c
  have h1 : askOf (mkR ⟨nm, up, ask, al⟩) = ask := by
    unfold askOf
    rw [mk_ask]
    cases ask with
    | none => rfl
    | some a =>
      show some (intsOf (.tuple (a.map .int))) = some a
      rw [ints_map]
  have h2 : alOf (mkR ⟨nm, up, ask, al⟩) = al := by
    unfold alOf
    rw [mk_al]
    cases al <;> rfl
  unfold srOf
  rw [h1, h2]
  rfl
theorem srs_mk (cs : List (SR Str)) : (cs.map mkR).map srOf = cs := by
  rw [List.map_map]
  have : (srOf ∘ mkR) = id := funext sr_mk
  rw [this, List.map_id]
def spLSet (K : PySem.W.Frag) : Sp := fun vs H Q _ => ∃ (s : Addr) (m : Nat), vs = [.ref s, .int (m : Int)] ∧ Src H s ∧ m ≤ 60 ∧ ∀ v xs H', SetAt K H' v xs → RiseOk (-1) xs → xs.length ≤ m → Src H' s → Kept s H H' → Q v H'
def spLSome (K : PySem.W.Frag) : Sp := fun vs H Q _ => ∃ (s : Addr) (v : V) (xs : List Int), vs = [.ref s, v] ∧ Src H s ∧ SetAt K H v xs ∧ xs.length ≤ 64 ∧ ∀ y ys H', SetAt K H' y ys → ys.Sublist xs → Src H' s → Kept s H H' → Q y H'
section
variable {P : Program} {w : World} {K : PySem.W.Frag} {mg : Str → Option Value} {base : Heap} {aL C CN CW : Addr} {left : List (Key × V)}
theorem ok_lset {f g : Addr} {fd gd : FuncData} (F : Fun K "_law_set" "_law_set" sLSet f fd) (T : TA mg) (Ts : TSo mg) (cN : Cal P w K mg base "_law_next" ["_law_source_here", "_law_many"] 2 spNext g gd) : FnOk P w K mg base CX0 3 f fd ["_law_source_here", "_law_few"] (spLSet K) := by
  refine F.ok scLSet (fun vs H Q E h => ?_) (fun cdv A outer s H vs Q E hr h => ?_)
  · obtain ⟨s, m, rfl, _⟩ := h
    rfl
  obtain ⟨p, m, rfl, hp, hm, q⟩ := h
  refine ⟨_, (pss_cons (ps_par (i := 2) (j := 3) (by rfl) scLSet.nd rfl rfl (by decide) rfl rfl (pa_cons (pe_call cN.ok (hr.mono (by decide)) rfl cN.mg cN.kp cN.bd .nil pass0 (pa_cons (pv 0) (pa_cons pe_int pa_nil))) (pa_cons (pe_lst pa_nil) pa_nil)) (by rfl)) (pss_cons (ps_for PassesOwn.never rfl (pi_range1 rfl T.z_range (pa_cons (pe_call cN.ok (hr.mono (by decide)) rfl cN.mg cN.kp cN.bd .nil pass0 (pa_cons (pv 0) (pa_cons (pe_op op_add (pv 1) pe_int) pa_nil))) pa_nil)) (pg_name (i := 4) scLSet.nd rfl (Or.inl rfl)) (pss_cons (ps_set (i := 5) scLSet.nd rfl (Or.inl rfl) (pe_ifExp (pt_cmpR op_gt (pe_call cN.ok (hr.mono (by decide)) rfl cN.mg cN.kp cN.bd .nil pass0 (pa_cons (pv 0) (pa_cons pe_int pa_nil))) pe_int (nomark _)) (pe_op op_add (pv 2) (pe_call cN.ok (hr.mono (by decide)) rfl cN.mg cN.kp cN.bd .nil pass0 (pa_cons (pv 0) (pa_cons pe_int pa_nil)))) (pe_call cN.ok (hr.mono (by decide)) rfl cN.mg cN.kp cN.bd .nil pass0 (pa_cons (pv 0) (pa_cons pe_int pa_nil))))) (pss_one (ps_expr (pe_bm PySem.F.plainAttrs_list PySem.F.slot_list_append PySem.F.type_list_append mt_append (pv 3) (pa_cons (pv 5) pa_nil)))))) (pss_one (ps_ret (pe_callTy call_tuple_of (by rfl) T.z_tuple (by decide +kernel) (pa_cons (pe_callB (cr_sortedSet rfl) (by rfl) Ts.z_sorted (by decide +kernel) (pa_cons (pe_callTy (cr_setL rfl) (by rfl) Ts.z_set (by decide +kernel) (pa_cons (pv 3) pa_nil)) pa_nil)) pa_nil)))))), ?_⟩
  refine ⟨_, rfl, p, 50, rfl, hp, by decide, by decide, fun first H1 hfirst s1 k1 => ?_⟩
  refine ⟨Nat.zero_le _, fun l hl => ⟨_, _, rfl, ?_⟩⟩
  have npl := src_ne s1 hl
  have s2 := src_new (o := .lst []) s1 hl
  have k2 := k1.new hl (.lst [])
  have e2 : upd H1 l (.lst []) l = some (.lst []) := upd_same
  generalize upd H1 l (.lst []) = H2 at s2 k2 e2 ⊢
  refine ⟨_, rfl, _, rfl, _, _, rfl, rfl, p, m + 1, rfl, s2, by omega, by omega, fun n H3 hn s3 k3 => ?_⟩
  have e3 := k3 l _ npl.symm e2
  have k3' := k2.trans k3
  have hl0 : H l = none := k1.free npl.symm hl
  refine ⟨n, rfl, by omega, by omega, for_range (n := n) (fun i σ H' => ∃ (o4 o5 : Option V) (xs : List Int), σ = [some (.ref p), some (.int (m : Int)), some (.int (first : Int)), some (.ref l), o4, o5] ∧ Src H' p ∧ Kept p H H' ∧ H' l = some (.lst (xs.map .int)) ∧ (∀ x ∈ xs, (-1 : Int) < x ∧ x ≤ 63) ∧ xs.length = i)
    ⟨none, none, [], rfl, s3, k3', e3, (fun x h => (List.not_mem_nil h).elim), rfl⟩ ?_ ?_⟩
  · rintro i σ H4 hi ⟨o4, o5, xs, rfl, s4, k4, e4, hb, hlen⟩
    refine ⟨_, rfl, p, 4, rfl, s4, by decide, by decide, fun d H5 hd s5 k5 => ?_⟩
    have e5 := k5 l _ npl.symm e4
    have fin : ∀ (z : Int) (H6 : Hp), (-1 : Int) < z ∧ z ≤ 63 → Src H6 p → Kept p H5 H6 → ∃ (o4 o5 : Option V) (ys : List Int), ([some (.ref p), some (.int (m : Int)), some (.int (first : Int)), some (.ref l), some (.int (0 + (i : Int))), some (.int z)] : St) = [some (.ref p), some (.int (m : Int)), some (.int (first : Int)), some (.ref l), o4, o5] ∧
        Src (upd H6 l (.lst (xs.map V.int ++ [.int z]))) p ∧ Kept p H (upd H6 l (.lst (xs.map V.int ++ [.int z]))) ∧ upd H6 l (.lst (xs.map V.int ++ [.int z])) l = some (.lst (ys.map .int)) ∧ (∀ x ∈ ys, (-1 : Int) < x ∧ x ≤ 63) ∧ ys.length = i + 1 := by
      intro z H6 hz s6 k6
      refine ⟨_, _, xs ++ [z], rfl, src_upd s6 npl, ?_, ?_, fun x hx => ?_, by rw [List.length_append, hlen]; rfl⟩
      · intro b o hb2 hbo
        rw [upd_ne (ne_of_none hbo hl0)]
        exact ((k4.trans k5).trans k6) b o hb2 hbo
      · rw [upd_same, List.map_append]
        rfl
      · rcases List.mem_append.mp hx with hx | hx
        · exact hb x hx
        · rw [List.mem_singleton.mp hx]
          exact hz
    refine ⟨_, _, rfl, rfl, _, rfl, ite2 (fun c => ?_) (fun c => ?_)⟩
    · refine ⟨_, rfl, _, rfl, p, 9, rfl, s5, by decide, by decide, fun z H6 hz s6 k6 => ⟨_, _, rfl, rfl, ?_⟩⟩
      have e6 := k6 l _ npl.symm e5
      refine ⟨_, rfl, .inl ⟨rfl, _, SqL.of e6⟩, _, rfl, l, _, _, rfl, rfl, e6, ?_, ?_⟩
      · rw [List.length_map]
        exact small1000 (by omega)
      · exact fin _ H6 (by omega) s6 k6
    · refine ⟨_, rfl, p, 64, rfl, s5, by decide, by decide, fun z H6 hz s6 k6 => ?_⟩
      have e6 := k6 l _ npl.symm e5
      refine ⟨_, rfl, .inl ⟨rfl, _, SqL.of e6⟩, _, rfl, l, _, _, rfl, rfl, e6, ?_, ?_⟩
      · rw [List.length_map]
        exact small1000 (by omega)
      · exact fin _ H6 (by omega) s6 k6
  · rintro σ H4 ⟨o4, o5, xs, rfl, s4, k4, e4, hb, hlen⟩
    refine ⟨_, rfl, l, xs, rfl, SqL.of e4, by omega, fun a c ha hc => ?_⟩
    refine ⟨a, _, c, rfl, upd_same, by omega, fun ns b h1 h2 h3 hb2 => ?_⟩
    have n1 := src_ne s4 ha
    have s5 := src_new (o := SetO w a (fun j => decide (j ∈ xs)) c) s4 ha
    have k5 := k4.new ha (SetO w a (fun j => decide (j ∈ xs)) c)
    have s6 := src_new (o := .lst (ns.map V.int)) s5 hb2
    have k6 := k5.new hb2 (.lst (ns.map V.int))
    refine ⟨b, _, rfl, .inl ⟨SqL.of upd_same, fun t ht => ?_⟩⟩
    refine q _ ns _ ⟨t, rfl, SqT.of upd_same⟩ (rise_of h1 fun x hx => hb x ?_) (by omega) (src_new s6 ht) (k6.new ht _)
    have := (h2 x).mp hx
    simpa using this
theorem SetAt.kept {H H' : Hp} {s : Addr} {v : V} {xs : List Int} (hs : Src H s) (k : Kept s H H') (h : SetAt K H v xs) : SetAt K H' v xs := by
  obtain ⟨_, _, _, z⟩ := hs
  exact h.tk (TK.kept z k)
theorem ok_lsome {f g : Addr} {fd gd : FuncData} (F : Fun K "_law_some_of" "_law_some_of" sLSome f fd) (T : TA mg) (cN : Cal P w K mg base "_law_next" ["_law_source_here", "_law_many"] 2 spNext g gd) : FnOk P w K mg base CX0 3 f fd ["_law_source_here", "_law_many_so"] (spLSome K) := by
  refine F.ok scLSome (fun vs H Q E h => ?_) (fun cdv A outer s H vs Q E hr h => ?_)
  · obtain ⟨s, v, xs, rfl, _⟩ := h
    rfl
  obtain ⟨p, _, xs, rfl, hp, ⟨a, rfl, ha⟩, len, q⟩ := h
  refine ⟨_, (pss_one (ps_ret (pe_callTy call_tuple_of (by rfl) T.z_tuple (by decide +kernel) (pa_cons (pe_lc (own := [("_law_one_here", 2)]) (g := gName 2) (tt := tTest (tOp (rI0 fun i j => V.bl (decide (j < i))) (tCall spNext [] E0 (tCons (tVar 0) (tCons (tC (.int 3)) tNil))) (tC (.int 0)))) (te := tVar 2) rfl scLSome.nd (pi_tup (pv 1)) (blkOk_by (own := [("_law_one_here", 2)]) (N := ["_law_source_here", "_law_many_so", "_law_one_here"]) (sc := defScope sLSome) (by decide +kernel)) (fun _ _ _ _ _ => (pg_name (i := 2) scLSome.nd rfl (Or.inl rfl))) (fun _ _ _ _ _ => (pts_one (pt_cmpR op_gt (pe_call cN.ok (hr.mono (by decide)) rfl cN.mg cN.kp cN.bd .nil pass0 (pa_cons (pv 0) (pa_cons pe_int pa_nil))) pe_int (nomark _)))) (fun _ _ _ _ _ => (pv 2))) pa_nil)))), ?_⟩
  refine ⟨_, rfl, a, rfl, ⟨_, ha⟩, fun D hD => lc_tup (K := K) (a := a) (xs := xs.map V.int) (fun i G => ∃ ys : List Int, Src G p ∧ Kept p H G ∧ SqT K G a (xs.map V.int) ∧ G D = some (.lst (ys.map .int)) ∧ ys.Sublist (xs.take i))
    ⟨[], src_new hp hD, (Kept.refl p H).new hD _, Same.seqT (Same.new (Same.refl H) hD _) ha, upd_same, List.nil_sublist _⟩ ?_ ?_ ?_⟩
  · rintro i G _ ⟨_, _, _, e, _⟩
    exact e
  · rintro i x G hx ⟨ys, sG, kG, aG, dG, sub⟩
    obtain ⟨n, hn, rfl⟩ := int_at hx
    refine ⟨rfl, ?_⟩
    have npD := src_ne hp hD
    refine ⟨_, rfl, p, 3, rfl, sG, by decide, by decide, fun d G2 hd s2 k2 => ?_⟩
    have d2 := k2 D _ npD.symm dG
    have a2 : SqT K G2 a (xs.map V.int) := by
      obtain ⟨_, _, _, z⟩ := sG
      exact (TK.kept z k2).seqT aG
    have et : xs.take (i + 1) = xs.take i ++ [n] := by
      rw [List.take_add_one, hn]
      rfl
    refine ⟨_, _, rfl, rfl, _, rfl, ite2 (fun c => ?_) (fun c => ?_)⟩
    · have il : i < xs.length := (List.getElem?_eq_some_iff.mp hn).1
      refine ⟨_, rfl, _, d2, ?_, ys ++ [n], src_upd s2 npD, ?_, ?_, ?_, ?_⟩
      · have := sub.length_le
        rw [List.length_take] at this
        rw [List.length_map]
        exact small1000 (by omega)
      · intro b o hb hbo
        rw [upd_ne (ne_of_none hbo hD)]
        exact (kG.trans k2) b o hb hbo
      · exact (TK.lst d2 _).seqT a2
      · rw [upd_same, List.map_append]
        rfl
      · rw [et]
        exact sub.append (List.Sublist.refl _)
    · refine ⟨ys, s2, kG.trans k2, a2, d2, ?_⟩
      rw [et]
      exact sub.trans (List.sublist_append_left _ _)
  · rintro G ⟨ys, sG, kG, aG, dG, sub⟩
    rw [List.length_map, List.take_length] at sub
    exact ⟨D, _, rfl, .inl ⟨SqL.of dG, fun l hl => q _ ys _ ⟨l, rfl, SqT.of upd_same⟩ sub (src_new sG hl) (kG.new hl _)⟩⟩
/-! ### rows with asks -/
/-- a set's value that is well formed -/
def GoodV (K : PySem.W.Frag) (G : Hp) (v : V) : Prop := ∃ a, SetAt K G v a ∧ RiseOk (-1) a ∧ a.length ≤ 64
theorem GoodV.tk {H H' : Hp} {v : V} (t : TK H H') (h : GoodV K H v) : GoodV K H' v := by
  obtain ⟨a, h1, h2⟩ := h
  exact ⟨a, h1.tk t, h2⟩
/-- the rows that the law draws -/
structure CsOk (cs : List (SR Str)) : Prop where
  ask : ∀ c ∈ cs, AskR c.ask
  up : ∀ (j : Nat) (c : SR Str), cs[j]? = some c → c.up = ("" : Str) ∨ ∃ q ∈ cs.take j, q.nm = c.up
theorem CsOk.snoc {cs : List (SR Str)} (h : CsOk cs) {c : SR Str} (h1 : AskR c.ask) (h2 : c.up = ("" : Str) ∨ ∃ q ∈ cs, q.nm = c.up) : CsOk (cs ++ [c]) := by
  refine ⟨fun d hd => ?_, fun j d hj => ?_⟩
  · rcases List.mem_append.mp hd with hd | hd
    · exact h.ask d hd
    · rw [List.mem_singleton.mp hd]; exact h1
  · by_cases lt : j < cs.length
    · rw [List.getElem?_append_left lt] at hj
      rw [List.take_append_of_le_length (by omega)]
      exact h.up j d hj
    · have e : j = cs.length := by
        have := (List.getElem?_eq_some_iff.mp hj).1
        rw [List.length_append, List.length_singleton] at this
        omega
      subst e
      have : d = c := by simpa using hj.symm
      subst this
      rw [List.take_append_of_le_length (Nat.le_refl _), List.take_length]
      exact h2
theorem cs_due {cs : List (SR Str)} (h : CsOk cs) : ∀ r ∈ cs.map mkR, DuesOk r.dues := fun r hr => by
  obtain ⟨c, hc, rfl⟩ := List.mem_map.mp hr
  exact mk_dok (h.ask c hc)
structure RS (K : PySem.W.Frag) (H G : Hp) (s nl fl : Addr) (xs : List Str) (ev : V) (every : List Int) (vs : List V) (cs : List (SR Str)) : Prop where
  src : Src G s
  kept : Kept s H G
  nn : nl ≠ s
  nf : fl ≠ s
  fr : H fl = none
  nl : G nl = some (.lst (xs.map .str))
  fl : G fl = some (.lst vs)
  rows : Paired (RowAt K G) vs (cs.map mkR)
  ok : CsOk cs
  ev : SetAt K G ev every
section
variable {H G G' : Hp} {s nl fl : Addr} {xs : List Str} {ev : V} {every : List Int} {vs : List V} {cs : List (SR Str)}
theorem RS.tk (h : RS K H G s nl fl xs ev every vs cs) (k : Kept s G G') : TK G G' := by
  obtain ⟨_, _, _, z⟩ := h.src
  exact TK.kept z k
theorem rows_tk {vs : List V} {rows : List RowM} (t : TK G G') (ok : ∀ r ∈ rows, DuesOk r.dues) (h : Paired (RowAt K G) vs rows) : Paired (RowAt K G') vs rows := paired_monoM (fun _ r hr z => t.row (ok r hr) z) h
theorem RS.next (h : RS K H G s nl fl xs ev every vs cs) (s' : Src G' s) (k : Kept s G G') : RS K H G' s nl fl xs ev every vs cs :=
  ⟨s', h.kept.trans k, h.nn, h.nf, h.fr, k _ _ h.nn h.nl, k _ _ h.nf h.fl, rows_tk (h.tk k) (cs_due h.ok) h.rows, h.ok, h.ev.tk (h.tk k)⟩
theorem RS.new (h : RS K H G s nl fl xs ev every vs cs) {p : Addr} (hp : G p = none) (o : HO) : RS K H (upd G p o) s nl fl xs ev every vs cs :=
  h.next (src_new h.src hp) ((Kept.refl s G).new hp o)
end
def spLRows (K : PySem.W.Frag) : Sp := fun vs H Q _ => ∃ (s : Addr) (m : Nat) (ev : V) (every : List Int), vs = [.ref s, .int (m : Int), ev] ∧ Src H s ∧ m ≤ 12 ∧ SetAt K H ev every ∧ RiseOk (-1) every ∧ every.length ≤ 64 ∧
  ∀ fl H' ws cs, H fl = none → H' fl = some (.lst ws) → Paired (RowAt K H') ws (cs.map mkR) → CsOk cs → (cs.map (·.nm)).Nodup → (∀ c ∈ cs, c.nm ∈ menu) → cs.length = m → Src H' s → Kept s H H' → Q (.ref fl) H'
/-- a drawn row as it stands -/
theorem row_mk {G : Hp} {v : V} {c : SR Str} (h : RowAt K G v (mkR c)) : ∃ a t p1 p2 u, v = .ref a ∧ SqT K G a [.str c.nm, .str c.up, .ref t] ∧ SqT K G t [.ref p1, .ref p2] ∧ SqT K G p1 [.str "sets", u] ∧ SqT K G p2 [.str "alone", .int (if c.al then 1 else 0)] ∧
    ((c.ask = none ∧ u = .non) ∨ ∃ xs, c.ask = some xs ∧ SetAt K G u xs) := by
  obtain ⟨a, t, rfl, h1, ps, h2, h3⟩ := h
  cases h3 with
  | cons d1 h3 =>
    cases h3 with
    | cons d2 h3 =>
      cases h3
      obtain ⟨u, y1, y2⟩ := d1
      obtain ⟨u2, y3, y4⟩ := d2
      cases y4
      refine ⟨a, t, _, _, u, rfl, h1, h2.seq, y1, y3, ?_⟩
      have y2 : Dp K G u (askD c.ask) := y2
      cases e : c.ask with
      | none =>
        rw [e] at y2
        cases y2
        exact .inl ⟨rfl, rfl⟩
      | some xs =>
        rw [e] at y2
        obtain ⟨b, ys, rfl, hb, hy⟩ := dp_tup y2
        cases dp_ints hy
        exact .inr ⟨xs, rfl, b, rfl, hb⟩
theorem ok_lrows {f gN gM gS gT gO : Addr} {fd dN dM dS dT dO : FuncData} (F : Fun K "_law_set_rows" "_law_set_rows" sLRows f fd) (T : TA mg) (Ts : TSo mg) (cN : Cal P w K mg base "_law_next" ["_law_source_here", "_law_many"] 2 spNext gN dN)
    (cM : Cal P w K mg base "_law_names" ["_law_source_here", "_law_many"] 3 spNames2 gM dM) (cS : Cal P w K mg base "_law_some_of" ["_law_source_here", "_law_many_so"] 3 (spLSome K) gS dS) (cT : Cal P w K mg base "_law_set" ["_law_source_here", "_law_few"] 3 (spLSet K) gT dT)
    (cO : Cal P w K mg base "_law_one" ["_law_source_here", "_law_things"] 3 (spOne K) gO dO) : FnOk P w K mg base CX0 4 f fd ["_law_source_here", "_law_many", "_law_every"] (spLRows K) := by
  refine F.ok scLRows (fun vs H Q E h => ?_) (fun cdv A outer s H vs Q E hr h => ?_)
  · obtain ⟨s, m, ev, every, rfl, _⟩ := h
    rfl
  obtain ⟨p, m, ev, every, rfl, hp, hm, hev, hre, lev, q⟩ := h
  have hu := hu_of hr
  refine ⟨_, (pss_cons (ps_par (i := 3) (j := 4) (by rfl) scLRows.nd rfl rfl (by decide) rfl rfl (pa_cons (pe_call cM.ok (hr.mono (by decide)) rfl cM.mg cM.kp cM.bd .nil pass0 (pa_cons (pv 0) (pa_cons (pv 1) pa_nil))) (pa_cons (pe_lst pa_nil) pa_nil)) (by rfl)) (pss_cons (ps_for PassesOwn.never rfl (pi_enum (by rfl) T.z_enumerate (pa_cons (pv 3) pa_nil)) (pg_tup (by rfl) (pgs_cons (pg_name (i := 5) scLRows.nd rfl (Or.inl rfl)) (pgs_cons (pg_name (i := 6) scLRows.nd rfl (Or.inl rfl)) pgs_nil))) (pss_cons (ps_set (i := 7) scLRows.nd rfl (Or.inl rfl) (pe_call cN.ok (hr.mono (by decide)) rfl cN.mg cN.kp cN.bd .nil pass0 (pa_cons (pv 0) (pa_cons pe_int pa_nil)))) (C8.pss_cut (ps_set (i := 8) scLRows.nd rfl (Or.inl rfl) (pe_ifExp (pt_cmpR op_eq (pv 7) pe_int (nomark _)) (pe_callB (call_max2 rfl) (by rfl) Ts.z_max (by decide +kernel) (pa_cons pe_int (pa_cons (pe_op op_sub (pv 5) pe_int) pa_nil))) (pe_call cN.ok (hr.mono (by decide)) rfl cN.mg cN.kp cN.bd .nil pass0 (pa_cons (pv 0) (pa_cons (pe_callB (call_max2 rfl) (by rfl) Ts.z_max (by decide +kernel) (pa_cons pe_int (pa_cons (pv 5) pa_nil))) pa_nil))))) (C8.pss_cut (ps_set (i := 9) scLRows.nd rfl (Or.inr rfl) (pe_ifExp (PW.pt (pw_or (pt_cmpR op_eq (pv 5) pe_int (nomark _)) (pw_or1 (pt_cmpR op_eq (pv 7) pe_int (nomark _))))) pe_str (pe_ix ix_list (pv 3) (pv 8) (fun _ _ => rfl)))) (C8.pss_cut (ps_set (i := 10) scLRows.nd rfl (Or.inl rfl) (pe_op op_cat (pe_lc (own := [("_law_row", 12)]) (g := gName 12) (tt := tAnd (tTest (tOp rEq (tOp (rIxT K) (tVar 12) (tC (.int 0))) (tVar 9))) (tTest (tOp (fun x y H Q => y = V.non ∧ Q (.bl (!decide (x = .non))) H) (tOp (rIxT K) (tOp (rIxT K) (tOp (rIxT K) (tVar 12) (tC (.int 2))) (tC (.int 0))) (tC (.int 1))) (tC .non)))) (te := (tOp (rIxT K) (tOp (rIxT K) (tOp (rIxT K) (tVar 12) (tC (.int 2))) (tC (.int 0))) (tC (.int 1)))) rfl scLRows.nd (pi_list (pv 4)) (blkOk_by (own := [("_law_row", 12)]) (N := ["_law_source_here", "_law_many", "_law_every", "_law_names_here", "_law_found", "_law_at", "_law_name", "_law_way", "_law_place", "_law_above", "_law_pool", "_law_asks_here", "_law_row"]) (sc := defScope sLRows) (by decide +kernel)) (fun _ _ _ _ _ => (pg_name (i := 12) scLRows.nd rfl (Or.inl rfl))) (fun _ _ _ _ _ => (pts_one (PW.pt (pw_and (pt_cmpR op_eq (pe_ix ix_tup (pv 12) pe_int (fun _ _ => rfl)) (pv 9) (nomark _)) (pw_and1 (pt_cmpR op_notN (pe_ix ix_tup (pe_ix ix_tup (pe_ix ix_tup (pv 12) pe_int (fun _ _ => rfl)) pe_int (fun _ _ => rfl)) pe_int (fun _ _ => rfl)) pe_non (nomark _))))))) (fun _ _ _ _ _ => (pe_ix ix_tup (pe_ix ix_tup (pe_ix ix_tup (pv 12) pe_int (fun _ _ => rfl)) pe_int (fun _ _ => rfl)) pe_int (fun _ _ => rfl)))) (pe_lst (pa_cons (pv 2) pa_nil)))) (C8.pss_cut (ps_set (i := 11) scLRows.nd rfl (Or.inl rfl) (pe_call cO.ok (hr.mono (by decide)) rfl cO.mg cO.kp cO.bd .nil pass0 (pa_cons (pv 0) (pa_cons (pe_lst (pa_cons pe_non (pa_cons (pe_call cS.ok (hr.mono (by decide)) rfl cS.mg cS.kp cS.bd .nil pass0 (pa_cons (pv 0) (pa_cons (pe_ix ix_list (pv 10) pe_int (fun _ _ => rfl)) pa_nil))) (pa_cons (pe_call cS.ok (hr.mono (by decide)) rfl cS.mg cS.kp cS.bd .nil pass0 (pa_cons (pv 0) (pa_cons (pe_ix ix_list (pv 10) pe_int (fun _ _ => rfl)) pa_nil))) (pa_cons (pe_slice sl_tupA (pe_ix ix_list (pv 10) pe_int (fun _ _ => rfl)) po_none (po_some pe_int)) pa_nil))))) pa_nil)))) (C8.pss_cut (ps_if (pt_cmpR op_eq (pe_call cN.ok (hr.mono (by decide)) rfl cN.mg cN.kp cN.bd .nil pass0 (pa_cons (pv 0) (pa_cons pe_int pa_nil))) pe_int (nomark _)) (pss_one (ps_set (i := 11) scLRows.nd rfl (Or.inl rfl) (pe_call cO.ok (hr.mono (by decide)) rfl cO.mg cO.kp cO.bd .nil pass0 (pa_cons (pv 0) (pa_cons (pe_lst (pa_cons (pe_tup pa_nil) (pa_cons (pe_call cT.ok (hr.mono (by decide)) rfl cT.mg cT.kp cT.bd .nil pass0 (pa_cons (pv 0) (pa_cons pe_int pa_nil))) (pa_cons (pv 2) pa_nil)))) pa_nil))))) pss_nil) (pss_one (ps_expr (pe_bm PySem.F.plainAttrs_list PySem.F.slot_list_append PySem.F.type_list_append mt_append (pv 4) (pa_cons (pe_tup (pa_cons (pv 6) (pa_cons (pv 9) (pa_cons (pe_tupF (pa_cons (pe_tup (pa_cons pe_str (pa_cons (pv 11) pa_nil))) (pa_cons (pe_tup (pa_cons pe_str (pa_cons (pe_callTy call_int1 (by rfl) T.z_int (by decide +kernel) (pa_cons (pe_cmpR op_gt (pe_call cN.ok (hr.mono (by decide)) rfl cN.mg cN.kp cN.bd .nil pass0 (pa_cons (pv 0) (pa_cons pe_int pa_nil))) pe_int (nomark _)) pa_nil)) pa_nil))) pa_nil))) pa_nil)))) pa_nil))))))))))) (pss_one (ps_ret (pv 4))))), ?_⟩
  refine ⟨_, rfl, _, rfl, p, m, rfl, hp, hm, fun nl H1 xs hnl enl hnd hmem hxl s1 k1 => ?_⟩
  refine ⟨Nat.zero_le _, fun fl hfl => ⟨_, _, rfl, ?_⟩⟩
  have npf := src_ne s1 hfl
  have npn := src_ne hp hnl
  have rs0 : RS K H (upd H1 fl (.lst [])) p nl fl xs ev every [] [] :=
    ⟨src_new s1 hfl, k1.new hfl _, npn.symm, npf.symm, k1.free npf.symm hfl, (upd_ne (ne_of_none enl hfl)).trans enl, upd_same, .nil, ⟨fun c h => (List.not_mem_nil h).elim, fun j c h => by simp at h⟩, (hev.kept hp k1).tk (TK.new hfl _)⟩
  have hrlen : nl ≠ fl := ne_of_none enl hfl
  generalize upd H1 fl (.lst []) = H2 at rs0 ⊢
  refine ⟨_, rfl, nl, xs.map V.str, rfl, SqL.of rs0.nl, for_it (walk_enum (xs := xs.map V.str)) (fun i σ G => ∃ (o5 o6 o7 o8 o9 o10 o11 o12 : Option V) (ws : List V) (cs : List (SR Str)), σ = [some (.ref p), some (.int (m : Int)), some ev, some (.ref nl), some (.ref fl), o5, o6, o7, o8, o9, o10, o11, o12] ∧
      RS K H G p nl fl xs ev every ws cs ∧ cs.map (·.nm) = xs.take i)
    ⟨none, none, none, none, none, none, none, none, [], [], rfl, rs0, rfl⟩ ?_ ?_ ?_⟩
  · rintro i σ G _ ⟨_, _, _, _, _, _, _, _, _, _, rfl, rs, _⟩
    exact SqL.of rs.nl
  · rintro i v σ G G2 hi ⟨o5, o6, o7, o8, o9, o10, o11, o12, ws, cs, rfl, rs, hnm⟩ ⟨TT, x, y, rfl, hTT, rfl, hx, hy⟩
    have hx' : x = .int (i : Nat) := (Option.some.inj hx).symm
    subst hx'
    rw [List.length_map] at hi
    obtain ⟨nm, rfl, hnm2⟩ : ∃ nm, y = .str nm ∧ xs[i]? = some nm := by
      have hy : (xs.map V.str)[i]? = some y := hy
      rw [List.getElem?_map] at hy
      obtain ⟨a, b, c⟩ := Option.map_eq_some_iff.mp hy
      exact ⟨a, c.symm, b⟩
    refine ⟨TT, _, rfl, SqT.of upd_same, rfl, _, _, rfl, _, _, rfl, rfl, ?_⟩
    have rs2 := rs.new hTT (.tup [.int (i : Nat), .str nm])
    generalize upd G TT (.tup [.int (i : Nat), .str nm]) = G2 at rs2 ⊢
    clear hTT rs
    have cl : cs.length = i := by
      have := congrArg List.length hnm
      rw [List.length_map, List.length_take] at this
      omega
    have wl : ws.length = i := by
      have := Paired.length rs2.rows
      rw [List.length_map] at this
      omega
    have mem_up : ∀ {ab : Str}, ab ∈ xs.take i → ∃ q ∈ cs, q.nm = ab := fun {ab} h => by
      rw [← hnm] at h
      obtain ⟨q, hq, e⟩ := List.mem_map.mp h
      exact ⟨q, hq, e⟩
    -- way
    refine ⟨_, rfl, p, 4, rfl, rs2.src, by decide, by decide, fun way G3 hway s3 k3 => ?_⟩
    have rs3 := rs2.next s3 k3
    clear rs2 s3 k3
    -- place
    refine ⟨fun σ G => ∃ (pl : Nat) (o9 o10 o11 o12 : Option V), σ = [some (.ref p), some (.int (m : Int)), some ev, some (.ref nl), some (.ref fl), some (.int (i : Int)), some (.str nm), some (.int (way : Int)), some (.int (pl : Int)), o9, o10, o11, o12] ∧
      RS K H G p nl fl xs ev every ws cs ∧ (0 < i → pl < i), ?_, ?_⟩
    · refine ⟨_, rfl, rfl, _, rfl, ite2 (fun c => ?_) (fun c => ?_)⟩
      · refine ⟨_, rfl, _, _, rfl, rfl, _, _, rfl, ?_⟩
        refine ⟨i - 1, o9, o10, o11, o12, ?_, rs3, by omega⟩
        have e : (if ((i : Int) - 1 > 0) then ((i : Int) - 1) else 0) = ((i - 1 : Nat) : Int) := by
          split <;> omega
        have e2 : (V.int (if ((i : Int) - 1 > 0) then ((i : Int) - 1) else 0)) = V.int ((i - 1 : Nat) : Int) := congrArg V.int e
        show ([_, _, _, _, _, _, _, _, some (V.int (if ((i : Int) - 1 > 0) then ((i : Int) - 1) else 0)), _, _, _, _] : St) = _
        rw [e2]
      · refine ⟨_, rfl, _, rfl, _, _, rfl, p, (if i > 1 then i else 1), ?_, rs3.src, by split <;> omega, by split <;> omega, fun pl G4 hpl s4 k4 => ?_⟩
        · have e : (if ((i : Int) > 1) then ((i : Int)) else 1) = (((if i > 1 then i else 1 : Nat)) : Int) := by
            split <;> split <;> omega
          show ([V.ref p, V.int (if ((i : Int) > 1) then ((i : Int)) else 1)] : List V) = _
          rw [e]
        · refine ⟨pl, _, _, _, _, rfl, rs3.next s4 k4, fun h => ?_⟩
          split at hpl <;> omega
    rintro _ G4 ⟨pl, o9, o10, o11, o12, rfl, rs4, hpl⟩
    clear rs3
    -- above
    refine ⟨fun σ G => ∃ (ab : Str) (o10 o11 o12 : Option V), σ = [some (.ref p), some (.int (m : Int)), some ev, some (.ref nl), some (.ref fl), some (.int (i : Int)), some (.str nm), some (.int (way : Int)), some (.int (pl : Int)), some (.str ab), o10, o11, o12] ∧
      RS K H G p nl fl xs ev every ws cs ∧ (ab = ("" : Str) ∨ ∃ q ∈ cs, q.nm = ab), ?_, ?_⟩
    · refine ⟨_, rfl, rfl, _, rfl, ?_⟩
      have top : ∃ (ab : Str) (o10 o11 o12 : Option V), ([some (.ref p), some (.int (m : Int)), some ev, some (.ref nl), some (.ref fl), some (.int (i : Int)), some (.str nm), some (.int (way : Int)), some (.int (pl : Int)), some (.str ("" : Str)), o10, o11, o12] : St) = [some (.ref p), some (.int (m : Int)), some ev, some (.ref nl), some (.ref fl), some (.int (i : Int)), some (.str nm), some (.int (way : Int)), some (.int (pl : Int)), some (.str ab), o10, o11, o12] ∧ (ab = ("" : Str) ∨ ∃ q ∈ cs, q.nm = ab) := ⟨"", o10, o11, o12, rfl, .inl rfl⟩
      refine ite2 (fun c => ?_) (fun c => ?_)
      · refine iteT ?_
        exact ⟨"", _, _, _, rfl, rs4, .inl rfl⟩
      · have hi0 : 0 < i := by
          rcases Nat.eq_zero_or_pos i with e | e
          · subst e
            exact absurd c (by decide)
          · exact e
        refine ⟨_, rfl, rfl, _, rfl, ite2 (fun c2 => ?_) (fun c2 => ?_)⟩
        · exact ⟨"", _, _, _, rfl, rs4, .inl rfl⟩
        · have hp2 := hpl hi0
          have hpx : pl < xs.length := by omega
          refine ⟨_, rfl, _, rfl, nl, _, _, .str xs[pl], rfl, rfl, SqL.of rs4.nl, atI_nat (by rw [List.getElem?_map, List.getElem?_eq_getElem hpx]; rfl), ?_⟩
          refine ⟨xs[pl], _, _, _, rfl, rs4, .inr (mem_up (List.mem_iff_getElem?.mpr ⟨pl, ?_⟩))⟩
          rw [List.getElem?_take_of_lt hp2, List.getElem?_eq_getElem hpx]
    rintro _ G5 ⟨ab, o10, o11, o12, rfl, rs5, hab⟩
    clear rs4 o9 hpl
    -- the pool
    refine ⟨fun σ G => ∃ (pa : Addr) (w0 : V) (wr : List V) (o11 o12 : Option V), σ = [some (.ref p), some (.int (m : Int)), some ev, some (.ref nl), some (.ref fl), some (.int (i : Int)), some (.str nm), some (.int (way : Int)), some (.int (pl : Int)), some (.str ab), some (.ref pa), o11, o12] ∧
      RS K H G p nl fl xs ev every ws cs ∧ G pa = some (.lst (w0 :: wr)) ∧ GoodV K G w0 ∧ pa ≠ p, ?_, ?_⟩
    · refine ⟨_, rfl, fl, rfl, ⟨_, SqL.of rs5.fl⟩, fun D hD => lc_list (K := K) (a := fl) (xs := ws) (fun j G' => ∃ us : List V, G' = upd G5 D (.lst us) ∧ us.length ≤ j ∧ ∀ u ∈ us, GoodV K G5 u) ⟨[], rfl, Nat.le_refl _, fun u h => (List.not_mem_nil h).elim⟩ ?_ ?_ ?_⟩
      · rintro j _ _ ⟨us, rfl, _⟩
        exact SqL.of (by rw [upd_ne (ne_of_none rs5.fl hD)]; exact rs5.fl)
      · rintro j x _ hx ⟨us, rfl, lu, hus⟩
        obtain ⟨r, hr1, hat⟩ := paired_get rs5.rows hx
        rw [List.getElem?_map] at hr1
        obtain ⟨c, hc, rfl⟩ := Option.map_eq_some_iff.mp hr1
        have tkD : TK G5 (upd G5 D (.lst us)) := TK.new hD _
        have hjc : j < cs.length := (List.getElem?_eq_some_iff.mp hc).1
        obtain ⟨a, t, p1, p2, u, rfl, r1, r2, r3, r4, hu5⟩ := row_mk hat
        refine ⟨rfl, ?_⟩
        refine ⟨_, rfl, a, _, _, _, rfl, rfl, tkD.seqT r1, rfl, _, rfl, rfl, _, rfl, ?_⟩
        refine ite2 (fun c1 => ?_) (fun c1 => ?_)
        · refine ⟨_, rfl, a, _, _, _, rfl, rfl, tkD.seqT r1, rfl, t, _, _, _, rfl, rfl, tkD.seqT r2, rfl, p1, _, _, _, rfl, rfl, tkD.seqT r3, rfl, rfl, _, rfl, ?_⟩
          rcases hu5 with ⟨ea, rfl⟩ | ⟨ys, ea, hset⟩
          · exact iteF ⟨us, rfl, by omega, hus⟩
          · have hne : decide (u = V.non) = false := by
              obtain ⟨b, rfl, _⟩ := hset
              rfl
            rw [hne]
            refine iteT ?_
            refine ⟨_, rfl, a, _, _, _, rfl, rfl, tkD.seqT r1, rfl, t, _, _, _, rfl, rfl, tkD.seqT r2, rfl, p1, _, _, _, rfl, rfl, tkD.seqT r3, rfl, _, upd_same, small1000 (by omega), us ++ [u], by rw [upd_upd], ?_, ?_⟩
            · rw [List.length_append, List.length_singleton]
              omega
            · intro z hz
              rcases List.mem_append.mp hz with hz | hz
              · exact hus z hz
              · rw [List.mem_singleton.mp hz]
                obtain ⟨q1, q2⟩ := rs5.ok.ask c (List.mem_of_getElem? hc) ys ea
                exact ⟨ys, hset, q1, q2⟩
        · exact ⟨us, rfl, by omega, hus⟩
      · rintro _ ⟨us, rfl, lu, hus⟩
        have rs6 := rs5.new hD (.lst us)
        have tk6 : TK G5 (upd G5 D (.lst us)) := TK.new hD _
        have eD : upd G5 D (.lst us) D = some (.lst us) := upd_same
        generalize upd G5 D (.lst us) = G6 at rs6 tk6 eD ⊢
        refine ⟨_, rfl, by show 1 ≤ sizeLine; decide, fun l1 hl1 => ?_⟩
        have rs7 := rs6.new hl1 (.lst [ev])
        have tk7 := tk6.trans (TK.new hl1 (.lst [ev]))
        have eD7 : upd G6 l1 (.lst [ev]) D = some (.lst us) := (upd_ne (ne_of_none eD hl1)).trans eD
        have el7 : upd G6 l1 (.lst [ev]) l1 = some (.lst [ev]) := upd_same
        generalize upd G6 l1 (.lst [ev]) = G7 at rs7 tk7 eD7 el7 ⊢
        refine ⟨D, l1, us, [ev], rfl, rfl, eD7, el7, ?_, fun pa hpa => ?_⟩
        · rw [List.length_singleton]
          exact small (by omega)
        have rs8 := rs7.new hpa (.lst (us ++ [ev]))
        have tk8 := tk7.trans (TK.new hpa (.lst (us ++ [ev])))
        have gev : GoodV K G7 ev := ⟨every, rs7.ev, hre, lev⟩
        have npa : pa ≠ p := (src_ne rs7.src hpa).symm
        cases us with
        | nil => exact ⟨pa, ev, [], _, _, rfl, rs8, upd_same, gev.tk (TK.new hpa _), npa⟩
        | cons u us => exact ⟨pa, u, us ++ [ev], _, _, rfl, rs8, upd_same, (hus u List.mem_cons_self).tk tk8, npa⟩
    rintro _ G6 ⟨pa, w0, wr, o11, o12, rfl, rs6, epa, gw0, npa⟩
    clear rs5 o10
    -- what it asks
    refine ⟨fun σ G => ∃ (wv : V) (o12 : Option V), σ = [some (.ref p), some (.int (m : Int)), some ev, some (.ref nl), some (.ref fl), some (.int (i : Int)), some (.str nm), some (.int (way : Int)), some (.int (pl : Int)), some (.str ab), some (.ref pa), some wv, o12] ∧
      RS K H G p nl fl xs ev every ws cs ∧ (wv = .non ∨ GoodV K G wv), ?_, ?_⟩
    rotate_left
    · rintro _ G7 ⟨wv, o12, rfl, rs7, hwv⟩
      refine ⟨fun σ G => ∃ (wv : V) (o12 : Option V), σ = [some (.ref p), some (.int (m : Int)), some ev, some (.ref nl), some (.ref fl), some (.int (i : Int)), some (.str nm), some (.int (way : Int)), some (.int (pl : Int)), some (.str ab), some (.ref pa), some wv, o12] ∧
        RS K H G p nl fl xs ev every ws cs ∧ (wv = .non ∨ GoodV K G wv), ?_, ?_⟩
      · refine ⟨_, rfl, p, 8, rfl, rs7.src, by decide, by decide, fun d G8 hd s8 k8 => ?_⟩
        have rs8 := rs7.next s8 k8
        have hwv8 : wv = .non ∨ GoodV K G8 wv := hwv.imp id fun z => z.tk (rs7.tk k8)
        refine ⟨rfl, _, rfl, ite2 (fun c => ?_) (fun c => ?_)⟩
        · refine ⟨_, rfl, by show 0 ≤ sizeLine; decide, fun t0 ht0 => ?_⟩
          have rs9 := rs8.new ht0 (.tup [])
          have g0 : GoodV K (upd G8 t0 (.tup [])) (.ref t0) := ⟨[], ⟨t0, rfl, SqT.of upd_same⟩, True.intro, by decide⟩
          generalize upd G8 t0 (.tup []) = G9 at rs9 g0 ⊢
          refine ⟨_, rfl, p, 4, rfl, rs9.src, by decide, fun y2 xs2 G10 h2 r2 l2 s10 k10 => ?_⟩
          have rs10 := rs9.next s10 k10
          have g0 := g0.tk (rs9.tk k10)
          have g2 : GoodV K G10 y2 := ⟨xs2, h2, r2, by omega⟩
          refine ⟨_, rfl, by show 3 ≤ sizeLine; decide, fun l4 hl4 => ?_⟩
          have rs11 := rs10.new hl4 (.lst [.ref t0, y2, ev])
          have t11 := TK.new hl4 (.lst [.ref t0, y2, ev])
          have g0 := g0.tk t11
          have g2 := g2.tk t11
          have e11 : upd G10 l4 (.lst [.ref t0, y2, ev]) l4 = some (.lst [.ref t0, y2, ev]) := upd_same
          have n11 : l4 ≠ p := (src_ne rs10.src hl4).symm
          generalize upd G10 l4 (.lst [.ref t0, y2, ev]) = G11 at rs11 t11 g0 g2 e11 ⊢
          refine ⟨p, l4, _, rfl, rs11.src, SqL.of e11, n11, by simp, by simp, fun wv' G12 hwv' s12 k12 => ?_⟩
          refine ⟨wv', _, rfl, rs11.next s12 k12, .inr ?_⟩
          have t12 := rs11.tk k12
          simp only [List.mem_cons, List.not_mem_nil, or_false] at hwv'
          rcases hwv' with rfl | rfl | rfl
          · exact g0.tk t12
          · exact g2.tk t12
          · exact ⟨every, rs11.ev.tk t12, hre, lev⟩
        · exact ⟨wv, _, rfl, rs8, hwv8⟩
      clear hwv rs7
      rintro _ G8 ⟨wv, o12, rfl, rs8, hwv⟩
      refine ⟨_, rfl, .inl ⟨rfl, _, SqL.of rs8.fl⟩, ?_⟩
      refine ⟨_, rfl, _, rfl, _, rfl, by show 2 ≤ sizeLine; decide, fun p1 hp1 => ?_⟩
      have rs9 := rs8.new hp1 (.tup [.str "sets", wv])
      have hwv9 : wv = .non ∨ GoodV K (upd G8 p1 (.tup [.str "sets", wv])) wv := hwv.imp id fun z => z.tk (TK.new hp1 _)
      have q1 : SqT K (upd G8 p1 (.tup [.str "sets", wv])) p1 [.str "sets", wv] := SqT.of upd_same
      generalize upd G8 p1 (.tup [.str "sets", wv]) = G9 at rs9 hwv9 q1 ⊢
      refine ⟨_, rfl, p, 3, rfl, rs9.src, by decide, by decide, fun d G10 hd s10 k10 => ?_⟩
      have rs10 := rs9.next s10 k10
      have t10 := rs9.tk k10
      have hwv10 : wv = .non ∨ GoodV K G10 wv := hwv9.imp id fun z => z.tk t10
      have q1 := t10.seqT q1
      refine ⟨_, _, rfl, rfl, .inr ⟨_, rfl, ?_⟩⟩
      generalize hb : decide ((0 : Int) < (d : Int)) = b
      refine ⟨by show 2 ≤ sizeLine; decide, fun p2 hp2 => ?_⟩
      have rs11 := rs10.new hp2 (.tup [.str "alone", .int (if b then 1 else 0)])
      have t11 := TK.new hp2 (.tup [.str "alone", .int (if b then 1 else 0)])
      have hwv11 := hwv10.imp id fun z => z.tk t11
      have q1 := t11.seqT q1
      have q2 : SqT K (upd G10 p2 (.tup [.str "alone", .int (if b then 1 else 0)])) p2 [.str "alone", .int (if b then 1 else 0)] := SqT.of upd_same
      generalize upd G10 p2 (.tup [.str "alone", .int (if b then 1 else 0)]) = G11 at rs11 t11 hwv11 q1 q2 ⊢
      refine ⟨by show 2 ≤ sizeLine; decide, fun t o ht ho => ?_⟩
      have rs12 := rs11.new ht (.frz o (.tup [.ref p1, .ref p2]))
      have t12 := TK.new ht (.frz o (.tup [.ref p1, .ref p2]))
      have hwv12 := hwv11.imp id fun z => z.tk t12
      have q1 := t12.seqT q1
      have q2 := t12.seqT q2
      have q3 : FrT (upd G11 t (.frz o (.tup [.ref p1, .ref p2]))) t [.ref p1, .ref p2] := ⟨o, ho, upd_same⟩
      generalize upd G11 t (.frz o (.tup [.ref p1, .ref p2])) = G12 at rs12 t12 hwv12 q1 q2 q3 ⊢
      refine ⟨by show 3 ≤ sizeLine; decide, fun ra hra => ?_⟩
      have rs13 := rs12.new hra (.tup [.str nm, .str ab, .ref t])
      have t13 := TK.new hra (.tup [.str nm, .str ab, .ref t])
      have hwv13 := hwv12.imp id fun z => z.tk t13
      have q1 := t13.seqT q1
      have q2 := t13.seqT q2
      have q3 := t13.frT q3
      have q4 : SqT K (upd G12 ra (.tup [.str nm, .str ab, .ref t])) ra [.str nm, .str ab, .ref t] := SqT.of upd_same
      generalize upd G12 ra (.tup [.str nm, .str ab, .ref t]) = G13 at rs13 t13 hwv13 q1 q2 q3 q4 ⊢
      refine ⟨fl, _, _, rfl, rfl, rs13.fl, small1000 (by omega), ?_⟩
      have t14 : TK G13 (upd G13 fl (.lst (ws ++ [.ref ra]))) := TK.lst rs13.fl _
      obtain ⟨ask, hask, hdp⟩ : ∃ ask, AskR ask ∧ Dp K (upd G13 fl (.lst (ws ++ [.ref ra]))) wv (askD ask) := by
        rcases hwv13 with rfl | ⟨a, ⟨b, rfl, h1⟩, h2, h3⟩
        · exact ⟨none, (fun a (e : none = some a) => nomatch e), Dp.non⟩
        · refine ⟨some a, (fun a' (e : some a = some a') => ?_), .tup (t14.seqT h1) (dp_ofints a)⟩
          cases e
          exact ⟨h2, h3⟩
      have hrow : RowAt K (upd G13 fl (.lst (ws ++ [.ref ra]))) (.ref ra) (mkR ⟨nm, ab, ask, b⟩) := by
        refine ⟨ra, t, rfl, t14.seqT q4, [p1, p2], t14.frT q3, .cons ⟨_, t14.seqT q1, hdp⟩ (.cons ⟨_, t14.seqT q2, ?_⟩ .nil)⟩
        exact .int _
      have ok2 : CsOk (cs ++ [⟨nm, ab, ask, b⟩]) := rs13.ok.snoc hask hab
      refine ⟨_, _, _, _, _, _, _, _, ws ++ [.ref ra], cs ++ [⟨nm, ab, ask, b⟩], rfl, ⟨src_upd rs13.src rs13.nf.symm, ?_, rs13.nn, rs13.nf, rs13.fr, ?_, upd_same, ?_, ok2, rs13.ev.tk t14⟩, ?_⟩
      · intro b' o' hb' hbo
        rw [upd_ne (ne_of_none hbo rs13.fr)]
        exact rs13.kept b' o' hb' hbo
      · have hne : nl ≠ fl := fun e => by
          have h1 := rs13.nl
          have h2 := hrlen
          exact h2 e
        rw [upd_ne hne]
        exact rs13.nl
      · rw [List.map_append]
        exact paired_snoc hrow (rows_tk t14 (cs_due rs13.ok) rs13.rows)
      · rw [List.map_append, hnm, List.take_add_one, hnm2]
        rfl
    have at0 : atI (w0 :: wr) 0 = some w0 := at_of (j := 0) rfl rfl
    refine ⟨_, rfl, _, rfl, _, rfl, pa, _, _, _, rfl, rfl, SqL.of epa, at0, ?_⟩
    obtain ⟨a0, sa0, ra0, la0⟩ := id gw0
    have good_of : ∀ {G : Hp} {y : V} {ys : List Int}, SetAt K G y ys → ys.Sublist a0 → GoodV K G y := fun {G y ys} h sub => ⟨ys, h, rise_sub sub ra0, Nat.le_trans sub.length_le la0⟩
    refine ⟨p, _, a0, rfl, rs6.src, sa0, la0, fun y1 ys1 G7 h1 sub1 s7 k7 => ?_⟩
    have rs7 := rs6.next s7 k7
    have epa7 := k7 _ _ npa epa
    have t7 := rs6.tk k7
    have sa7 := sa0.tk t7
    have gy1 := good_of h1 sub1
    refine ⟨_, rfl, _, rfl, pa, _, _, _, rfl, rfl, SqL.of epa7, at0, ?_⟩
    refine ⟨p, _, a0, rfl, rs7.src, sa7, la0, fun y2 ys2 G8 h2 sub2 s8 k8 => ?_⟩
    have rs8 := rs7.next s8 k8
    have epa8 := k8 _ _ npa epa7
    have t8 := rs7.tk k8
    have sa8 := sa7.tk t8
    have gy1 := gy1.tk t8
    have gy2 := good_of h2 sub2
    clear s7 k7 s8 k8 rs6 rs7 epa epa7 h1 h2
    refine ⟨_, rfl, pa, _, _, w0, rfl, rfl, SqL.of epa8, at0, ?_⟩
    obtain ⟨b0, e0, sb0⟩ := id sa8
    refine ⟨1, rfl, b0, a0.map V.int, e0, sb0, fun hz => ?_, fun hz p3 hp3 => ?_⟩
    · have rs9 := rs8
      have gy3 : GoodV K G8 (.ref b0) := ⟨a0, ⟨b0, rfl, sb0⟩, ra0, la0⟩
      generalize hG : G8 = G9 at rs9 gy1 gy2 gy3 ⊢
      generalize V.ref b0 = y3 at gy3 ⊢
      refine ⟨by show 4 ≤ sizeLine; decide, fun l4 hl4 => ?_⟩
      have rs10 := rs9.new hl4 (.lst [.non, y1, y2, y3])
      have t10 := TK.new hl4 (.lst [.non, y1, y2, y3])
      have g1 := gy1.tk t10
      have g2 := gy2.tk t10
      have g3 := gy3.tk t10
      have e10 : upd G9 l4 (.lst [.non, y1, y2, y3]) l4 = some (.lst [.non, y1, y2, y3]) := upd_same
      have n10 : l4 ≠ p := (src_ne rs9.src hl4).symm
      generalize upd G9 l4 (.lst [.non, y1, y2, y3]) = G10 at rs10 t10 g1 g2 g3 e10 ⊢
      refine ⟨p, l4, _, rfl, rs10.src, SqL.of e10, n10, by simp, by simp, fun wv G11 hwv s11 k11 => ?_⟩
      refine ⟨wv, _, rfl, rs10.next s11 k11, ?_⟩
      have t11 := rs10.tk k11
      simp only [List.mem_cons, List.not_mem_nil, or_false] at hwv
      rcases hwv with rfl | rfl | rfl | rfl
      · exact .inl rfl
      · exact .inr (g1.tk t11)
      · exact .inr (g2.tk t11)
      · exact .inr (g3.tk t11)
    · have rs9 := rs8.new hp3 (.tup (cutV (a0.map V.int) none (some 1)))
      have t9 := TK.new hp3 (.tup (cutV (a0.map V.int) none (some 1)))
      have gy1 := gy1.tk t9
      have gy2 := gy2.tk t9
      have gy3 : GoodV K (upd G8 p3 (.tup (cutV (a0.map V.int) none (some 1)))) (.ref p3) := by
        have e : cutV (a0.map V.int) none (some 1) = (a0.take 1).map V.int := by
          unfold cutV
          rw [HT.sIx_none, List.drop_zero, Nat.sub_zero]
          cases a0 with
          | nil => rfl
          | cons z zs =>
            have : HT.sIx ((z :: zs).map V.int).length ((z :: zs).map V.int).length (some 1) = 1 := by
              have h1 := HT.sIx_nat (n := ((z :: zs).map V.int).length) (d := ((z :: zs).map V.int).length) (k := 1)
              rw [List.length_map] at h1 ⊢
              rw [show ((1 : Nat) : Int) = 1 from rfl] at h1
              rw [h1, List.length_cons]
              omega
            rw [this]
            rfl
        refine ⟨a0.take 1, ⟨p3, rfl, ?_⟩, rise_sub (List.take_sublist _ _) ra0, by rw [List.length_take]; omega⟩
        rw [← e]
        exact SqT.of upd_same
      generalize upd G8 p3 (.tup (cutV (a0.map V.int) none (some 1))) = G9 at rs9 gy1 gy2 gy3 ⊢
      generalize V.ref p3 = y3 at gy3 ⊢
      refine ⟨by show 4 ≤ sizeLine; decide, fun l4 hl4 => ?_⟩
      have rs10 := rs9.new hl4 (.lst [.non, y1, y2, y3])
      have t10 := TK.new hl4 (.lst [.non, y1, y2, y3])
      have g1 := gy1.tk t10
      have g2 := gy2.tk t10
      have g3 := gy3.tk t10
      have e10 : upd G9 l4 (.lst [.non, y1, y2, y3]) l4 = some (.lst [.non, y1, y2, y3]) := upd_same
      have n10 : l4 ≠ p := (src_ne rs9.src hl4).symm
      generalize upd G9 l4 (.lst [.non, y1, y2, y3]) = G10 at rs10 t10 g1 g2 g3 e10 ⊢
      refine ⟨p, l4, _, rfl, rs10.src, SqL.of e10, n10, by simp, by simp, fun wv G11 hwv s11 k11 => ?_⟩
      refine ⟨wv, _, rfl, rs10.next s11 k11, ?_⟩
      have t11 := rs10.tk k11
      simp only [List.mem_cons, List.not_mem_nil, or_false] at hwv
      rcases hwv with rfl | rfl | rfl | rfl
      · exact .inl rfl
      · exact .inr (g1.tk t11)
      · exact .inr (g2.tk t11)
      · exact .inr (g3.tk t11)
  · rintro σ G ⟨o5, o6, o7, o8, o9, o10, o11, o12, ws, cs, rfl, rs, hnm⟩
    rw [List.length_map, List.take_length] at hnm
    refine ⟨_, rfl, q fl G ws cs rs.fr rs.fl rs.rows rs.ok (by rw [hnm]; exact hnd) (fun c hc => hmem _ (by rw [← hnm]; exact List.mem_map_of_mem hc)) ?_ rs.src rs.kept⟩
    have := congrArg List.length hnm
    rw [List.length_map] at this
    omega
end
end Bd
end

section
namespace Bd
open PySem L2 PySem.Spec PyProof.Rows
/-! dicts of data that differ, set(t) of a tuple of ints -/
section
variable {X : Cx} {pins : List (Addr × Obj)} {σ : L2.St} {H : Hp} {s : Shared}
theorem eqF0 (I : Inv X pins σ H s) {A : Around} (hu : A.units + 65 < cLine) {x y : V} {v u : Value} {r : Bool} (h : EqF X.K H 0 x y r) (rx : RelV x v) (ry : RelV y u) : SeqAt.EqAt A s v u r := by
  obtain ⟨d, e, hd, he, sd, se, rfl⟩ := h
  obtain ⟨as, r1⟩ := Dp.reads I d x v hd rx
  obtain ⟨bs, r2⟩ := Dp.reads I e y u he ry
  exact SeqAt.eqAt_reads d e A s v u as bs r1 r2 (SeqAt.canLay_of_shaped sd) (SeqAt.canLay_of_shaped se) (SeqAt.room_of_shaped sd (by omega))
theorem hits_run0 (I : Inv X pins σ H s) {A : Around} (hu : A.units + 65 < cLine) {ls : List (Key × V)} {vb : List (Key × Value)} (rb : KV ls vb) {ks : List (Key × V)} {b : Bool} (h : HitsV (EqF X.K H 0) ls ks b) :
    ∀ {va : List (Key × Value)}, KV ks va → PySem.W.KeqHits A s vb va b := by
  induction h with
  | nil => intro va ra; cases ra; exact .nil
  | @miss k v r hn =>
    intro va ra
    match va, ra with
    | (k2, v2) :: t2, .cons ⟨e1, e2⟩ t =>
      have e1 : k = k2 := e1
      subst e1
      have rr := rb.val k
      rw [hn] at rr
      refine .miss ?_
      cases z : valueAt vb k with
      | none => rfl
      | some y => rw [z] at rr; exact (show False from rr).elim
  | @hit k v y r e b hy hf hr ih =>
    intro va ra
    match va, ra with
    | (k2, v2) :: t2, .cons ⟨e1, e2⟩ t =>
      have e1 : k = k2 := e1
      subst e1
      have rr := rb.val k
      rw [hy] at rr
      obtain ⟨z, hz, rz⟩ := rr.some_of
      exact .hit hz (eqF0 I hu hf e2 rz) (ih t)
def rNeDk (K : PySem.W.Frag) : R2 := fun x y H Q => ∃ (a b : Addr) (ks ls : List (Key × V)) (q : Bool), x = .ref a ∧ y = .ref b ∧ H a = some (.dK ks) ∧ H b = some (.dK ls) ∧ (ks.length = ls.length → HitsV (EqF K H 0) ls ks q) ∧ Q (.bl (!(ks.length == ls.length && q))) H
end
section
variable {X : Cx}
theorem op_neDk (hu : X.A.units + 100 < cLine) : OpR X (compareOp .NotEq) (rNeDk X.K) := by
  intro pins s σ H x y v u Q I rx ry h
  obtain ⟨a, b, ks, ls, q, rfl, rfl, ha, hb, hits, hq⟩ := h
  cases (show v = Value.ref a from rx)
  cases (show u = Value.ref b from ry)
  obtain ⟨_, ya, va, ra, da⟩ := (show ObjOk X.prog X.w H s.heap a (.dK ks) from I.hok a _ ha)
  obtain ⟨_, yb, vb, rb, db⟩ := (show ObjOk X.prog X.w H s.heap b (.dK ls) from I.hok b _ hb)
  refine PySem.W.keq_ne (knd := mixKind X.prog X.w) (r := q) ya yb da db (by omega) (fun hl => hits_run0 I (A := X.A.in1) (by show X.A.units + 1 + 65 < cLine; omega) rb (hits (by rw [ra.length, rb.length]; exact hl)) ra) ?_
  rw [← ra.length, ← rb.length]
  exact ⟨.bl _, H, I, rfl, hq⟩
def rSetOfIT (K : PySem.W.Frag) (w : World) : List V → Hp → VK → Prop := fun xs H Q => ∃ (l : Addr) (ns : List Int), xs = [V.ref l] ∧ SqT K H l (ns.map V.int) ∧ ns.length ≤ 1000 ∧ ∀ a n, H a = none → n ≤ ns.length → Q (.ref a) (upd H a (SetO w a (fun j => decide (j ∈ ns)) n))
theorem cr_setT (hc : X.calm = true) : CallR X (.type "set") (rSetOfIT X.K X.w) := by
  intro pins s σ H xs us Q I r h
  obtain ⟨l, ns, rfl, hl, hn, q⟩ := h
  obtain ⟨its, rv, pl, hz⟩ := I.tuple hl
  rw [Vals.ref1 r]
  refine call_set_tupI ns (I.ok.hd hc) pl (by simpa using ints_of_vals rv) (Nat.lt_of_le_of_lt (Nat.succ_le_succ hn) (by decide)) fun g tk n h1 h2 h3 => ?_
  exact ⟨.ref _, _, I.laid (t' := tk) h3 (Nat.le_refl _) (setO_new h1), rfl, q _ n (I.hok.fresh (Nat.le_refl _)) h2⟩
end
end Bd
end

section
namespace Bd
open PySem L2 Bs
open Evl hiding tCut pss_cut
/-! comprehensions by mirrors -/
section
variable {K : PySem.W.Frag} {H : Hp} {σ : L2.St}
theorem giv_eq {α : Type} (xs : List α) (p : α → Bool) (g : α → V) : given xs.length (fun i => (xs[i]?.map p).getD false) (fun i => (xs[i]?.map g).getD .non) = (xs.filter p).map g := by
  have main : ∀ n, n ≤ xs.length → given n (fun i => (xs[i]?.map p).getD false) (fun i => (xs[i]?.map g).getD .non) = ((xs.take n).filter p).map g := by
    intro n
    induction n with
    | zero => intro _; rfl
    | succ n ih =>
      intro hn
      have hl : n < xs.length := hn
      have e : xs[n]? = some xs[n] := List.getElem?_eq_getElem hl
      rw [List.take_add_one, e, Option.toList_some, List.filter_append, List.map_append, ← ih (by omega)]
      cases c : p xs[n] with
      | true =>
        rw [given_yes (by rw [e]; exact c), List.filter_cons_of_pos c, e]
        rfl
      | false =>
        rw [given_no (by rw [e]; exact c), List.filter_cons_of_neg (by rw [c]; decide)]
        simp
  have := main xs.length (Nat.le_refl _)
  rw [List.take_length] at this
  exact this
theorem lcL {α : Type} {a : Addr} {ws : List V} {tl te : TE} {t : TT} {j : Nat} {vs : List Nat} (xs : List α) (p : α → Bool) (g : α → V) (h : Ev tl σ H (.ref a)) (hx : SqL K H a ws) (hlen : ws.length = xs.length) (hz : xs.length ≤ 1000)
    (hw : ∀ x, wipe ((wipe σ vs).set j (some x)) vs = wipe σ vs) (ht : ∀ (i : Nat) (x : V) (y : α) H1, Ex H H1 → ws[i]? = some x → xs[i]? = some y → EvT t ((wipe σ vs).set j (some x)) H1 (p y))
    (he : ∀ (i : Nat) (x : V) (y : α) H1, Ex H H1 → ws[i]? = some x → xs[i]? = some y → p y = true → Ev te ((wipe σ vs).set j (some x)) H1 (g y)) : EvL (tLc (iList K tl) (gName j) t te vs) σ H ((xs.filter p).map g) := by
  rw [← giv_eq xs p g, ← hlen]
  have get : ∀ {i : Nat} {x : V}, ws[i]? = some x → ∃ y, xs[i]? = some y := fun {i x} e => by
    have := (List.getElem?_eq_some_iff.mp e).1
    exact ⟨_, List.getElem?_eq_getElem (by omega)⟩
  refine el_lcL _ _ h hx (by omega) hw (fun i x H1 e hi => ?_) fun i x H1 e hi hf => ?_
  · obtain ⟨y, hy⟩ := get hi
    rw [hy]
    exact ht i x y H1 e hi hy
  · obtain ⟨y, hy⟩ := get hi
    rw [hy] at hf ⊢
    exact he i x y H1 e hi hy hf
theorem el_lcT {a : Addr} {xs : List V} {tl te : TE} {t : TT} {j : Nat} {vs : List Nat} (f : Nat → Bool) (v : Nat → V) (h : Ev tl σ H (.ref a)) (hx : SqT K H a xs) (hz : xs.length ≤ 40000) (hw : ∀ x, wipe ((wipe σ vs).set j (some x)) vs = wipe σ vs)
    (ht : ∀ (i : Nat) (x : V) H1, Ex H H1 → xs[i]? = some x → EvT t ((wipe σ vs).set j (some x)) H1 (f i)) (he : ∀ (i : Nat) (x : V) H1, Ex H H1 → xs[i]? = some x → f i = true → Ev te ((wipe σ vs).set j (some x)) H1 (v i)) :
    EvL (tLc (iTup K tl) (gName j) t te vs) σ H (given xs.length f v) := by
  intro H0 e Q q
  refine h H0 e _ fun H1 e1 => ⟨a, rfl, ⟨xs, ex_t (e.trans e1) hx⟩, fun D hD => ?_⟩
  refine lc_tup (xs := xs) (Cw H1 f v D) ⟨hD, Ex.new hD, upd_same⟩ (fun i G _ p => ex_t ((e.trans e1).trans p.2.1) hx) (fun i x G hi p => ?_) fun G p => q D G (fresh_back e1 p.1) (e1.trans p.2.1) p.2.2
  have hl := (List.getElem?_eq_some_iff.mp hi).1
  exact ⟨hw x, cw_turn p (by omega) (ht i x H1 (e.trans e1) hi) fun hf => he i x H1 (e.trans e1) hi hf⟩
theorem lcT {α : Type} {a : Addr} {ws : List V} {tl te : TE} {t : TT} {j : Nat} {vs : List Nat} (xs : List α) (p : α → Bool) (g : α → V) (h : Ev tl σ H (.ref a)) (hx : SqT K H a ws) (hlen : ws.length = xs.length) (hz : xs.length ≤ 1000)
    (hw : ∀ x, wipe ((wipe σ vs).set j (some x)) vs = wipe σ vs) (ht : ∀ (i : Nat) (x : V) (y : α) H1, Ex H H1 → ws[i]? = some x → xs[i]? = some y → EvT t ((wipe σ vs).set j (some x)) H1 (p y))
    (he : ∀ (i : Nat) (x : V) (y : α) H1, Ex H H1 → ws[i]? = some x → xs[i]? = some y → p y = true → Ev te ((wipe σ vs).set j (some x)) H1 (g y)) : EvL (tLc (iTup K tl) (gName j) t te vs) σ H ((xs.filter p).map g) := by
  rw [← giv_eq xs p g, ← hlen]
  have get : ∀ {i : Nat} {x : V}, ws[i]? = some x → ∃ y, xs[i]? = some y := fun {i x} e => by
    have := (List.getElem?_eq_some_iff.mp e).1
    exact ⟨_, List.getElem?_eq_getElem (by omega)⟩
  refine el_lcT _ _ h hx (by omega) hw (fun i x H1 e hi => ?_) fun i x H1 e hi hf => ?_
  · obtain ⟨y, hy⟩ := get hi
    rw [hy]
    exact ht i x y H1 e hi hy
  · obtain ⟨y, hy⟩ := get hi
    rw [hy] at hf ⊢
    exact he i x y H1 e hi hy hf
theorem et_yes : EvT tYes σ H true := fun H1 _ Q q => q H1 (Ex.refl H1)
theorem ev_dget {td ty : TE} {d : Addr} {k : Key} {kvs : List (Key × V)} {v : V} (h1 : Ev td σ H (.ref d)) (h2 : Ev ty σ H (kV k)) (h3 : H d = some (.dK kvs)) (h4 : valV kvs k = some v) : Ev (tDGet td ty) σ H v := fun H1 e Q q =>
  h1 H1 e _ fun H2 e2 => h2 H2 (e.trans e2) _ fun H3 e3 => ⟨d, v, rfl, dget_of (((e.trans e2).trans e3) _ _ h3) h4, q H3 (e2.trans e3)⟩
theorem flat_strs (xs : List Str) : (xs.map V.str).all flatV = true := by
  rw [List.all_map]
  exact List.all_eq_true.mpr fun _ _ => rfl
theorem in_strs (x : Str) (xs : List Str) : inV (V.str x) (xs.map V.str) = decide (x ∈ xs) := by
  unfold inV
  induction xs with
  | nil => rfl
  | cons y ys ih =>
    rw [List.map_cons, List.any_cons, ih]
    show ((y == x) || decide (x ∈ ys)) = decide (x ∈ y :: ys)
    by_cases c : y = x
    · subst c
      simp
    · have c' : ¬ x = y := fun e => c e.symm
      have e1 : (y == x) = false := by simpa using c
      simp [e1, c']
end
/-! what the law has told of its sets -/
def FoundAt (K : PySem.W.Frag) (G : Hp) (fd : Addr) (hf : Str → List Int) (ns : List Str) : Prop := HasAt K G fd (ns.map fun n => (n, hf n))
theorem found_get {K : PySem.W.Frag} {G : Hp} {fd : Addr} {hf : Str → List Int} {ns : List Str} (h : FoundAt K G fd hf ns) {n : Str} (hn : n ∈ ns) : ∃ kvs v, G fd = some (.dK kvs) ∧ valV kvs (Sum.inr n) = some v ∧ SetAt K G v (hf n) ∧ (hf n).length ≤ 64 := by
  obtain ⟨kvs, h1, h2⟩ := h
  have e : lookL (ns.map fun n => (n, hf n)) n = some (hf n) := by
    unfold lookL
    induction ns with
    | nil => cases hn
    | cons m ns ih =>
      rw [List.map_cons, List.find?_cons]
      by_cases c : m = n
      · subst c
        simp
      · have hn' : n ∈ ns := by
          rcases List.mem_cons.mp hn with e | m'
          · exact absurd e.symm c
          · exact m'
        simp only [c, decide_false]
        clear h2
        have key : ∀ l : List Str, n ∈ l → ((l.map fun n => (n, hf n)).find? fun kv => decide (kv.1 = n)).map (·.2) = some (hf n) := by
          intro l
          induction l with
          | nil => intro h; cases h
          | cons a l ih =>
            intro h
            rw [List.map_cons, List.find?_cons]
            by_cases c : a = n
            · subst c; simp
            · simp only [c, decide_false]
              rcases List.mem_cons.mp h with e | m'
              · exact absurd e.symm c
              · exact ih m'
        exact key ns hn'
  obtain ⟨v, h3, h4, h5⟩ := paired_look h2 e
  exact ⟨kvs, v, h1, h3, h4, h5⟩
structure LW (K : PySem.W.Frag) (G : Hp) (rl fd cl : Addr) (ws : List V) (cs : List (SR Str)) (hf : Str → List Int) (ch : List Str) : Prop where
  rl : G rl = some (.lst ws)
  rows : Paired (RowAt K G) ws (cs.map mkR)
  ok : CsOk cs
  len : cs.length ≤ 12
  fd : FoundAt K G fd hf (cs.map (·.nm))
  cl : G cl = some (.lst (ch.map .str))
theorem FoundAt.same {K : PySem.W.Frag} {G G' : Hp} {fd : Addr} {hf : Str → List Int} {ns : List Str} (s : Same G G') (h : FoundAt K G fd hf ns) : FoundAt K G' fd hf ns := by
  obtain ⟨kvs, h1, h2⟩ := h
  exact ⟨kvs, s _ _ h1, paired_mono (fun _ _ z => z.tk (.of s)) h2⟩
theorem LW.same {K : PySem.W.Frag} {G G' : Hp} {rl fd cl : Addr} {ws : List V} {cs : List (SR Str)} {hf : Str → List Int} {ch : List Str} (s : Same G G') (h : LW K G rl fd cl ws cs hf ch) : LW K G' rl fd cl ws cs hf ch :=
  ⟨s _ _ h.rl, rows_same s h.rows, h.ok, h.len, h.fd.same s, s _ _ h.cl⟩
/-- a row of the list -/
theorem row_at {K : PySem.W.Frag} {G : Hp} {ws : List V} {cs : List (SR Str)} (h : Paired (RowAt K G) ws (cs.map mkR)) {i : Nat} {x : V} {c : SR Str} (hx : ws[i]? = some x) (hc : cs[i]? = some c) : RowAt K G x (mkR c) := by
  obtain ⟨r, hr, hat⟩ := paired_get h hx
  rw [List.getElem?_map, hc] at hr
  cases hr
  exact hat
theorem rows_len {K : PySem.W.Frag} {G : Hp} {ws : List V} {cs : List (SR Str)} (h : Paired (RowAt K G) ws (cs.map mkR)) : ws.length = cs.length := by
  have := Paired.length h
  rw [List.length_map] at this
  exact this
end Bd
end

section
namespace Bd
open PySem L2 Bs
open Evl hiding tCut pss_cut
theorem eqv_ints : ∀ (xs ys : List Int), PyData.eqvAll (xs.map .int) (ys.map .int) = decide (xs = ys)
  | [], [] => by simp [PyData.eqvAll]
  | [], y :: ys => by simp [PyData.eqvAll]
  | x :: xs, [] => by simp [PyData.eqvAll]
  | x :: xs, y :: ys => by
    rw [List.map_cons, List.map_cons, PyData.eqvAll, eqv_ints xs ys, PyData.eqv]
    by_cases a : x = y
    · subst a
      simp
    · simp [a]
theorem eqv_intL (xs ys : List Int) : PyData.eqv (.list (xs.map .int)) (.list (ys.map .int)) = decide (xs = ys) := by
  rw [PyData.eqv]
  exact eqv_ints xs ys
theorem eqv_intT (xs ys : List Int) : PyData.eqv (.tuple (xs.map .int)) (.tuple (ys.map .int)) = decide (xs = ys) := by
  rw [PyData.eqv]
  exact eqv_ints xs ys
theorem shaped_intL (xs : List Int) : SeqAt.shaped (.list (xs.map .int)) = true := by
  unfold SeqAt.shaped
  rw [PyData.canLay0, lay_ints, PyData.depth, dep_ints]
  rfl
/-- what stands behind a group's name and the one above it -/
def duesT (xs : List Int) (k : Int) : PyData := .tuple [.tuple [.str "sets", .tuple (xs.map .int)], .tuple [.str "alone", .int k]]
theorem lay_word1 : PyData.canLay0 (.str "sets") = true := by decide +kernel
theorem lay_word2 : PyData.canLay0 (.str "alone") = true := by decide +kernel
theorem shaped_dues (xs : List Int) (k : Int) : SeqAt.shaped (duesT xs k) = true := by
  have h1 : PyData.canLay0 (.tuple (xs.map .int)) = true := by rw [PyData.canLay0, lay_ints]
  have h2 : PyData.canLay0 (.int k) = true := by rw [PyData.canLay0]
  have d1 : PyData.depth (.tuple (xs.map .int)) = 1 := by rw [PyData.depth, dep_ints]
  have e1 : PyData.canLay0 (.tuple [.str "sets", .tuple (xs.map .int)]) = true := by
    rw [PyData.canLay0, PyData.canLayAll0, PyData.canLayAll0, PyData.canLayAll0, lay_word1, h1]
    rfl
  have e2 : PyData.canLay0 (.tuple [.str "alone", .int k]) = true := by
    rw [PyData.canLay0, PyData.canLayAll0, PyData.canLayAll0, PyData.canLayAll0, lay_word2, h2]
    rfl
  have f1 : PyData.depth (.tuple [.str "sets", .tuple (xs.map .int)]) = 2 := by
    rw [PyData.depth, PyData.depthAll, PyData.depthAll, PyData.depthAll, d1, PyData.depth]
    rfl
  have f2 : PyData.depth (.tuple [.str "alone", .int k]) = 1 := by
    rw [PyData.depth, PyData.depthAll, PyData.depthAll, PyData.depthAll, PyData.depth, PyData.depth]
    rfl
  unfold SeqAt.shaped duesT
  rw [PyData.canLay0, PyData.canLayAll0, PyData.canLayAll0, PyData.canLayAll0, e1, e2, PyData.depth, PyData.depthAll, PyData.depthAll, PyData.depthAll, f1, f2]
  rfl
theorem eqv_dues (xs : List Int) (k : Int) : PyData.eqv (duesT xs k) (duesT xs k) = true := by
  unfold duesT
  rw [PyData.eqv, PyData.eqvAll, PyData.eqvAll, PyData.eqvAll, PyData.eqv, PyData.eqv, PyData.eqvAll, PyData.eqvAll, PyData.eqvAll, PyData.eqvAll, PyData.eqvAll, PyData.eqvAll, eqv_intT, PyData.eqv, PyData.eqv, PyData.eqv]
  simp
/-! values compared, as they are told -/
section
variable {K : PySem.W.Frag} {H : Hp}
theorem rv_neD {x y : V} {d e : PyData} (h1 : Dp K H x d) (h2 : Dp K H y e) (s1 : SeqAt.shaped d = true) (s2 : SeqAt.shaped e = true) (st : ∀ H1, Ex H H1 → Dp K H1 x d ∧ Dp K H1 y e) : RV (rNeD K) x y H (.bl (!PyData.eqv d e)) := fun H1 e1 Q q =>
  ⟨d, e, (st H1 e1).1, (st H1 e1).2, s1, s2, q H1 (Ex.refl H1)⟩
theorem rv_eqD {x y : V} {d e : PyData} (s1 : SeqAt.shaped d = true) (s2 : SeqAt.shaped e = true) (st : ∀ H1, Ex H H1 → Dp K H1 x d ∧ Dp K H1 y e) : RV (rEqD K) x y H (.bl (PyData.eqv d e)) := fun H1 e1 Q q =>
  ⟨d, e, (st H1 e1).1, (st H1 e1).2, s1, s2, q H1 (Ex.refl H1)⟩
theorem dp_intL {a : Addr} {xs : List Int} (h : H a = some (.lst (xs.map V.int))) : Dp K H (.ref a) (.list (xs.map .int)) := .lst (SqL.of h) (dp_ofints xs)
theorem rv_neL {a b : Addr} {xs ys : List Int} (h1 : H a = some (.lst (xs.map V.int))) (h2 : H b = some (.lst (ys.map V.int))) : RV (rNeD K) (.ref a) (.ref b) H (.bl (!decide (xs = ys))) := fun H1 e1 Q q =>
  ⟨_, _, dp_intL (e1 _ _ h1), dp_intL (e1 _ _ h2), shaped_intL _, shaped_intL _, by rw [eqv_intL]; exact q H1 (Ex.refl H1)⟩
theorem rv_eqL {a b : Addr} {xs ys : List Int} (h1 : H a = some (.lst (xs.map V.int))) (h2 : H b = some (.lst (ys.map V.int))) : RV (rEqD K) (.ref a) (.ref b) H (.bl (decide (xs = ys))) := fun H1 e1 Q q =>
  ⟨_, _, dp_intL (e1 _ _ h1), dp_intL (e1 _ _ h2), shaped_intL _, shaped_intL _, by rw [eqv_intL]; exact q H1 (Ex.refl H1)⟩
theorem rv_neLS {a b : Addr} {xs ys : List Str} (h1 : H a = some (.lst (xs.map V.str))) (h2 : H b = some (.lst (ys.map V.str))) (l1 : ∀ x ∈ xs, PyData.canLay0 (.str x) = true) (l2 : ∀ x ∈ ys, PyData.canLay0 (.str x) = true) : RV (rNeD K) (.ref a) (.ref b) H (.bl (!decide (xs = ys))) := fun H1 e1 Q q =>
  ⟨_, _, dp_strL (e1 _ _ h1), dp_strL (e1 _ _ h2), shaped_strs l1, shaped_strs l2, by rw [eqv_strL]; exact q H1 (Ex.refl H1)⟩
/-- rows with one name are one -/
theorem zip_one {ws : List V} : ∀ {cs : List (SR Str)}, ws.length = cs.length → (cs.map (·.nm)).Nodup → ∀ {c0 : SR Str}, c0 ∈ cs → ∃ (i : Nat) (w0 : V), ws[i]? = some w0 ∧ cs[i]? = some c0 ∧ (ws.zip cs).filter (fun z => decide (z.2.nm = c0.nm)) = [(w0, c0)] := by
  induction ws with
  | nil =>
    intro cs hl _ c0 hc
    cases cs with
    | nil => cases hc
    | cons _ _ => cases hl
  | cons w ws ih =>
    intro cs hl nd c0 hc
    cases cs with
    | nil => cases hc
    | cons c cs =>
      obtain ⟨n1, n2⟩ := List.nodup_cons.mp nd
      have none_in : ∀ z ∈ ws.zip cs, z.2 ∈ cs := fun z hz => (List.of_mem_zip hz).2
      rcases List.mem_cons.mp hc with e | hc
      · subst e
        refine ⟨0, w, rfl, rfl, ?_⟩
        rw [List.zip_cons_cons, List.filter_cons_of_pos (by simp)]
        congr 1
        refine List.filter_eq_nil_iff.mpr fun z hz => ?_
        have : z.2.nm ≠ c0.nm := fun e => n1 (List.mem_map.mpr ⟨z.2, none_in z hz, e⟩)
        simpa using this
      · obtain ⟨i, w0, h1, h2, h3⟩ := ih (by simpa using hl) n2 hc
        refine ⟨i + 1, w0, by simpa using h1, by simpa using h2, ?_⟩
        have : c.nm ≠ c0.nm := fun e => n1 (List.mem_map.mpr ⟨c0, hc, e.symm⟩)
        rw [List.zip_cons_cons, List.filter_cons_of_neg (by simpa using this)]
        exact h3
theorem zip_get {ws : List V} {cs : List (SR Str)} {i : Nat} {x : V} {z : V × SR Str} (hx : ws[i]? = some x) (hz : (ws.zip cs)[i]? = some z) : z.1 = x ∧ cs[i]? = some z.2 := by
  rw [List.getElem?_zip_eq_some] at hz
  rw [hx] at hz
  exact ⟨(Option.some.inj hz.1).symm, hz.2⟩
end
end Bd
end

section
namespace Bs
section
variable {N : Type} [DecidableEq N]
/-! ### what stands below what -/
theorem anc_step {rt : N} {rows : List (SR N)} (ok : OkS rt rows) {a : N} {r : SR N} (hr : r ∈ rows) (h : Anc rows a r.nm) : a = r.nm ∨ Anc rows a r.up := by
  have key : ∀ n, Anc rows a n → n = r.nm → a = r.nm ∨ Anc rows a r.up := by
    intro n h
    induction h with
    | refl => exact .inl
    | step hq u _ => exact fun e => .inr (by rw [← ok.uniq hq hr e]; exact u)
  exact key _ h rfl
theorem anc_chain {rt : N} {rows : List (SR N)} (ok : OkS rt rows) {a b n : N} (h1 : Anc rows a n) (h2 : Anc rows b n) : Anc rows a b ∨ Anc rows b a := by
  induction h1 with
  | refl => exact .inr h2
  | step hr u ih =>
    rcases anc_step ok hr h2 with e | u2
    · rw [e]; exact .inl (.step hr u)
    · exact ih u2
/-- the place of a name among the root and the groups -/
def rank (rt : N) (rows : List (SR N)) (n : N) : Nat := (rt :: rows.map (·.nm)).findIdx fun x => decide (x = n)
theorem rank_at {rt : N} {rows : List (SR N)} (ok : OkS rt rows) {i : Nat} {r : SR N} (hr : rows[i]? = some r) : rank rt rows r.nm = i + 1 := by
  have nd : (rt :: rows.map (·.nm)).Nodup := List.nodup_cons.mpr ⟨fun m => by
    obtain ⟨q, hq, e⟩ := List.mem_map.mp m
    exact ok.ne hq e, ok.1⟩
  obtain ⟨li, ei⟩ := List.getElem?_eq_some_iff.mp hr
  have l2 : i + 1 < (rt :: rows.map (·.nm)).length := by simp; omega
  unfold rank
  rw [List.findIdx_eq l2]
  refine ⟨by simp [ei], fun j hj => ?_⟩
  refine decide_eq_false fun e => ?_
  have e2 : (rt :: rows.map (·.nm))[i + 1] = r.nm := by simp [ei]
  have := (List.getElem_inj nd (h₀ := by omega) (h₁ := l2)).mp (e.trans e2.symm)
  omega
theorem rank_root (rt : N) (rows : List (SR N)) : rank rt rows rt = 0 := by
  unfold rank
  rw [List.findIdx_cons]
  simp
theorem rank_up {rt : N} {rows : List (SR N)} (ok : OkS rt rows) {r : SR N} (hr : r ∈ rows) : rank rt rows r.up < rank rt rows r.nm := by
  obtain ⟨i, hi⟩ := List.mem_iff_getElem?.mp hr
  rw [rank_at ok hi]
  rcases (ok.2 i r hi).2 with e | ⟨q, hq, e⟩
  · rw [e, rank_root]; omega
  · obtain ⟨j, hj⟩ := List.mem_iff_getElem?.mp hq
    have lt : j < i := by
      have := (List.getElem?_eq_some_iff.mp hj).1
      rw [List.length_take] at this
      omega
    rw [List.getElem?_take_of_lt lt] at hj
    rw [← e, rank_at ok hj]
    omega
theorem rank_le {rt : N} {rows : List (SR N)} (ok : OkS rt rows) {r : SR N} (hr : r ∈ rows) : rank rt rows r.nm ≤ rows.length := by
  obtain ⟨i, hi⟩ := List.mem_iff_getElem?.mp hr
  rw [rank_at ok hi]
  have := (List.getElem?_eq_some_iff.mp hi).1
  omega
theorem anc_rank {rt : N} {rows : List (SR N)} (ok : OkS rt rows) {a n : N} (h : Anc rows a n) : rank rt rows a ≤ rank rt rows n := by
  induction h with
  | refl => exact Nat.le_refl _
  | step hr u ih => exact Nat.le_of_lt (Nat.lt_of_le_of_lt ih (rank_up ok hr))
/-! ### what is due, as the law tells it: from the root down, each group's children in turn -/
def mineS (p : List N × List Int) (c : SR N) : List Int := if decide (c.nm ∈ p.1) then c.ask.getD [] else sharedS c.ask p.2
def dueS (rows : List (SR N)) : Nat → N → List Int → Bool → List (N × List Int × Bool)
  | 0, _, _, _ => []
  | m + 1, n, own, b => (kidsS rows n).flatMap fun c => (c.nm, mineS (pick b (kidsS rows n) own) c, decide (c.nm ∈ (pick b (kidsS rows n) own).1)) :: dueS rows m c.nm (mineS (pick b (kidsS rows n) own) c) (decide (c.nm ∈ (pick b (kidsS rows n) own).1))
section
variable {rt : N} {rows : List (SR N)} {whole : List Int} {has : N → List Int} {al : N → Bool}
/-- what is due is what is handed down -/
theorem due_is (h : Handed rt rows whole has al) : ∀ (m : Nat) (n : N), ∀ e ∈ dueS rows m n (has n) (al n), e.2 = (has e.1, al e.1)
  | 0, n, e, he => by simp [dueS] at he
  | m + 1, n, e, he => by
    rw [dueS, List.mem_flatMap] at he
    obtain ⟨c, hc, he⟩ := he
    obtain ⟨h1, h2⟩ := mem_kids.mp hc
    have ea : decide (c.nm ∈ (pick (al n) (kidsS rows n) (has n)).1) = al c.nm := by
      rw [h.a1 c h1, h2]
    have em : mineS (pick (al n) (kidsS rows n) (has n)) c = has c.nm := by
      unfold mineS
      rw [ea, h.h1 c h1, h2]
    rw [ea, em] at he
    rcases List.mem_cons.mp he with e' | he
    · rw [e']
    · exact due_is h m c.nm e he
theorem anc_trans {a b c : N} (h1 : Anc rows a b) (h2 : Anc rows b c) : Anc rows a c := by
  induction h2 with
  | refl => exact h1
  | step hr u ih => exact .step hr ih
theorem due_below : ∀ (m : Nat) (n : N) (own : List Int) (b : Bool), ∀ e ∈ dueS rows m n own b, (∃ r ∈ rows, r.nm = e.1) ∧ ∃ c ∈ rows, c.up = n ∧ Anc rows c.nm e.1
  | 0, n, own, b, e, he => by simp [dueS] at he
  | m + 1, n, own, b, e, he => by
    rw [dueS, List.mem_flatMap] at he
    obtain ⟨c, hc, he⟩ := he
    obtain ⟨h1, h2⟩ := mem_kids.mp hc
    rcases List.mem_cons.mp he with e' | he
    · rw [e']
      exact ⟨⟨c, h1, rfl⟩, c, h1, h2, .refl _⟩
    · obtain ⟨h3, d, hd, e1, e2⟩ := due_below m _ _ _ e he
      exact ⟨h3, c, h1, h2, anc_trans (.step hd (by rw [e1]; exact .refl _)) e2⟩
/-- all that stand below are told -/
theorem due_all (ok : OkS rt rows) : ∀ (m : Nat) (n : N) (own : List Int) (b : Bool), rows.length + 1 ≤ rank rt rows n + m → ∀ r ∈ rows, Anc rows n r.up → ∃ e ∈ dueS rows m n own b, e.1 = r.nm
  | 0, n, own, b, hm, r, hr, ha => by
    have h1 := anc_rank ok ha
    have h2 := rank_up ok hr
    have h3 := rank_le ok hr
    omega
  | m + 1, n, own, b, hm, r, hr, ha => by
    rw [dueS]
    -- the child on the way
    rcases anc_child (Anc.step hr ha) with e | ⟨c, hc, e, k⟩
    · have h1 := anc_rank ok ha
      have h2 := rank_up ok hr
      rw [e] at h1
      omega
    · have hk : c ∈ kidsS rows n := mem_kids.mpr ⟨hc, e⟩
      rcases anc_step ok hr k with e2 | k2
      · exact ⟨_, List.mem_flatMap.mpr ⟨c, hk, List.mem_cons_self⟩, e2⟩
      · have hrk := rank_up ok hc
        rw [e] at hrk
        obtain ⟨x, hx, ex⟩ := due_all ok m c.nm (mineS (pick b (kidsS rows n) own) c) (decide (c.nm ∈ (pick b (kidsS rows n) own).1)) (by omega) r hr k2
        exact ⟨x, List.mem_flatMap.mpr ⟨c, hk, List.mem_cons_of_mem _ hx⟩, ex⟩
theorem sib_below (ok : OkS rt rows) {c d : SR N} (hc : c ∈ rows) (hd : d ∈ rows) (e : c.up = d.up) {x : N} (h1 : Anc rows c.nm x) (h2 : Anc rows d.nm x) : c = d := by
  have main : ∀ {c d : SR N}, c ∈ rows → d ∈ rows → c.up = d.up → Anc rows c.nm d.nm → c = d := fun {c d} hc hd e h => by
    rcases anc_step ok hd h with e2 | u
    · exact ok.uniq hc hd e2
    · rw [← e] at u
      have h1 := anc_rank ok u
      have h2 := rank_up ok hc
      omega
  rcases anc_chain ok h1 h2 with u | u
  · exact main hc hd e u
  · exact (main hd hc e.symm u).symm
/-- each once -/
theorem due_nd (ok : OkS rt rows) : ∀ (m : Nat) (n : N) (own : List Int) (b : Bool), ((dueS rows m n own b).map (·.1)).Nodup
  | 0, n, own, b => List.nodup_nil
  | m + 1, n, own, b => by
    rw [dueS]
    have kin : ∀ c ∈ kidsS rows n, c ∈ rows ∧ c.up = n := fun c hc => mem_kids.mp hc
    have knd := kids_nd ok.1 n
    generalize pick b (kidsS rows n) own = p
    generalize kidsS rows n = ks at kin knd
    induction ks with
    | nil => exact List.nodup_nil
    | cons c ks ih =>
      rw [List.flatMap_cons, List.map_append, List.nodup_append]
      obtain ⟨k1, k2⟩ := List.nodup_cons.mp knd
      refine ⟨?_, ih (fun d hd => kin d (List.mem_cons_of_mem _ hd)) k2, fun x hx y hy e => ?_⟩
      · rw [List.map_cons, List.nodup_cons]
        refine ⟨fun mm => ?_, due_nd ok m _ _ _⟩
        obtain ⟨e, he, e1⟩ := List.mem_map.mp mm
        obtain ⟨_, d, hd, e2, e3⟩ := due_below m _ _ _ e he
        have e1 : e.1 = c.nm := e1
        rw [e1] at e3
        have h1 := anc_rank ok e3
        have h2 := rank_up ok hd
        rw [e2] at h2
        omega
      · subst e
        have below : ∀ d ∈ c :: ks, ∀ x, x ∈ (((d.nm, mineS p d, decide (d.nm ∈ p.1)) :: dueS rows m d.nm (mineS p d) (decide (d.nm ∈ p.1))).map (·.1)) → Anc rows d.nm x := by
          intro d hd x hx
          rw [List.map_cons] at hx
          rcases List.mem_cons.mp hx with e | hx
          · rw [e]; exact .refl _
          · obtain ⟨e, he, e1⟩ := List.mem_map.mp hx
            obtain ⟨_, d', hd', e2, e3⟩ := due_below m _ _ _ e he
            rw [← e1]
            exact anc_trans (.step hd' (by rw [e2]; exact .refl _)) e3
        have u1 := below c List.mem_cons_self x hx
        rw [List.map_flatMap, List.mem_flatMap] at hy
        obtain ⟨d, hd, hy⟩ := hy
        have u2 := below d (List.mem_cons_of_mem _ hd) x hy
        have hcc := kin c List.mem_cons_self
        have hdd := kin d (List.mem_cons_of_mem _ hd)
        have := sib_below ok hcc.1 hdd.1 (by rw [hcc.2, hdd.2]) u1 u2
        subst this
        exact k1 (List.mem_map_of_mem hd)
theorem nodup_len {α : Type} [DecidableEq α] : ∀ {l D : List α}, l.Nodup → (∀ x ∈ l, x ∈ D) → l.length ≤ D.length
  | [], D, _, _ => Nat.zero_le _
  | x :: l, D, nd, h => by
    obtain ⟨n1, n2⟩ := List.nodup_cons.mp nd
    have hx := h x List.mem_cons_self
    have h2 := List.length_erase_of_mem hx
    have ih := nodup_len (l := l) (D := D.erase x) n2 fun y hy => (List.mem_erase_of_ne (fun e => n1 (by rw [← e]; exact hy))).mpr (h y (List.mem_cons_of_mem _ hy))
    have : 0 < D.length := List.length_pos_of_mem hx
    rw [List.length_cons]
    omega
/-- from the root: all groups, each once -/
theorem due_len (ok : OkS rt rows) (own : List Int) (b : Bool) {m : Nat} (hm : rows.length + 1 ≤ m) : (∀ r ∈ rows, ∃ e ∈ dueS rows m rt own b, e.1 = r.nm) ∧ (dueS rows m rt own b).length = rows.length := by
  have nd := due_nd ok m rt own b
  have up := ok.ind (p := fun n => Anc rows rt n) (.refl _) fun r hr u => .step hr u
  have upr : ∀ r ∈ rows, Anc rows rt r.up := fun r hr => by
    rcases ok.up_in hr with e | ⟨q, hq, e⟩
    · rw [e]; exact .refl _
    · rw [← e]; exact up q hq
  have all : ∀ r ∈ rows, ∃ e ∈ dueS rows m rt own b, e.1 = r.nm := fun r hr => due_all ok m rt own b (by rw [rank_root]; omega) r hr (upr r hr)
  have l1 := nodup_len nd (D := rows.map (·.nm)) fun x hx => by
    obtain ⟨e, he, e1⟩ := List.mem_map.mp hx
    obtain ⟨⟨r, hr, e2⟩, _⟩ := due_below _ _ _ _ e he
    rw [← e1, ← e2]
    exact List.mem_map_of_mem hr
  have l2 := nodup_len ok.1 (D := (dueS rows m rt own b).map (·.1)) fun x hx => by
    obtain ⟨r, hr, e⟩ := List.mem_map.mp hx
    obtain ⟨y, hy, e2⟩ := all r hr
    rw [← e, ← e2]
    exact List.mem_map_of_mem hy
  rw [List.length_map, List.length_map] at l1 l2
  exact ⟨all, by omega⟩
end
/-! ### what the law reckons itself -/
/-- what is left, as the law tells it -/
theorem left_taken {own : List Int} {kids : List (SR N)} {s : List N × List Int} (h : PickOk kids own s) (hr : Rise own) (nd : (kids.map (·.nm)).Nodup) : s.2 = own.filter fun x => !((kids.filter fun c => decide (c.nm ∈ s.1)).any fun c => decide (x ∈ c.ask.getD [])) := by
  refine Rise.ext h.rise (hr.filter _) fun x => ?_
  rw [h.left, List.mem_filter, Bool.not_eq_true', List.any_eq_false]
  refine and_congr_right fun _ => ?_
  constructor
  · intro z c hc
    obtain ⟨h1, h2⟩ := List.mem_filter.mp hc
    simpa using z c h1 (of_decide_eq_true h2)
  · intro z c hc hm
    simpa using z c (List.mem_filter.mpr ⟨hc, decide_eq_true hm⟩)
theorem len_sub {free gone : List Int} (hf : free.Nodup) (hg : gone.Nodup) (sub : ∀ x ∈ gone, x ∈ free) : (withoutS free gone).length + gone.length = free.length := by
  have h1 := len_without (gone := gone) hf
  have h2 : (free.filter fun x => decide (x ∈ gone)).length + (withoutS free gone).length = free.length := by
    unfold withoutS
    clear h1 sub hf hg
    induction free with
    | nil => rfl
    | cons x xs ih =>
      by_cases c : x ∈ gone
      · rw [List.filter_cons_of_pos (by simpa using c), List.filter_cons_of_neg (by simpa using c), List.length_cons, List.length_cons]
        omega
      · rw [List.filter_cons_of_neg (by simpa using c), List.filter_cons_of_pos (by simpa using c), List.length_cons, List.length_cons]
        omega
  have h3 := nodup_len hg (D := free.filter fun x => decide (x ∈ gone)) fun x hx => List.mem_filter.mpr ⟨sub x hx, by simpa using hx⟩
  omega
/-- whether one may stand alone, as the law asks it: by the number that is left -/
theorem may_count {c : SR N} {free : List Int} (hf : Rise free) (ha : ∀ a, c.ask = some a → Rise a) :
    mayS c free = (c.al && match c.ask with
      | none => false
      | some a => !a.isEmpty && (decide (((withoutS free a).length : Int) = (free.length : Int) - (a.length : Int)) && !(withoutS free a).isEmpty)) := by
  unfold mayS
  congr 1
  cases e : c.ask with
  | none => rfl
  | some a =>
    dsimp only
    congr 1
    have hn := (ha a e).nodup
    have l1 := len_without (gone := a) hf.nodup
    by_cases s : ∀ x ∈ a, x ∈ free
    · have l2 := len_sub hf.nodup hn s
      have e1 : a.all (fun x => decide (x ∈ free)) = true := List.all_eq_true.mpr fun x hx => by simpa using s x hx
      have e2 : decide (((withoutS free a).length : Int) = (free.length : Int) - (a.length : Int)) = true := decide_eq_true (by omega)
      rw [e1, e2, Bool.true_and, Bool.true_and]
      cases z : withoutS free a with
      | nil =>
        rw [z] at l2
        have : ¬ a.length < free.length := by simp at l2; omega
        rw [decide_eq_false this]
        rfl
      | cons y ys =>
        rw [z] at l2
        have : a.length < free.length := by simp at l2; omega
        rw [decide_eq_true this]
        rfl
    · have e1 : a.all (fun x => decide (x ∈ free)) = false := by
        cases z : a.all fun x => decide (x ∈ free) with
        | false => rfl
        | true => exact absurd (fun x hx => by simpa using List.all_eq_true.mp z x hx) s
      have e2 : decide (((withoutS free a).length : Int) = (free.length : Int) - (a.length : Int)) = false := by
        refine decide_eq_false fun z => s fun x hx => ?_
        -- all of a stands in free, by the numbers
        have h2 : (free.filter fun y => decide (y ∈ a)).length + (withoutS free a).length = free.length := by
          unfold withoutS
          clear l1 z s hf e1
          induction free with
          | nil => rfl
          | cons y ys ih =>
            by_cases c : y ∈ a
            · rw [List.filter_cons_of_pos (by simpa using c), List.filter_cons_of_neg (by simpa using c), List.length_cons, List.length_cons]
              omega
            · rw [List.filter_cons_of_neg (by simpa using c), List.filter_cons_of_pos (by simpa using c), List.length_cons, List.length_cons]
              omega
        have h3 : (free.filter fun y => decide (y ∈ a)).Nodup := List.Pairwise.filter _ hf.nodup
        -- were x missing, fewer would stand there
        cases Classical.em (x ∈ free) with
        | inl m => exact m
        | inr m =>
          have := nodup_len (l := x :: (free.filter fun y => decide (y ∈ a))) (D := a) (List.nodup_cons.mpr ⟨fun k => m (List.mem_filter.mp k).1, h3⟩) fun y hy => by
            rcases List.mem_cons.mp hy with e' | k
            · rw [e']; exact hx
            · simpa using (List.mem_filter.mp k).2
          rw [List.length_cons] at this
          omega
      rw [e1, e2]
      rfl
end
end Bs
end

section
namespace Bd
open PySem L2 Bs
open Evl hiding tCut pss_cut
theorem menu_ok : ∀ x ∈ menu, NameOk x := by
  intro x hx
  have h : (menu.all fun x => decide (1 ≤ x.length) && decide (x.length ≤ 10) && x.cps.toList.all fun c => decide (97 ≤ c) && decide (c ≤ 122)) = true := by decide +kernel
  have := List.all_eq_true.mp h x hx
  simp only [Bool.and_eq_true, decide_eq_true_eq, List.all_eq_true] at this
  exact ⟨this.1.1, this.1.2, this.2⟩
theorem mk_rows {cs : List (SR Str)} (h : CsOk cs) (nd : (cs.map (·.nm)).Nodup) (mem : ∀ c ∈ cs, c.nm ∈ menu) : RowsOk (cs.map mkR) := by
  intro i r hr
  rw [List.getElem?_map] at hr
  obtain ⟨c, hc, rfl⟩ := Option.map_eq_some_iff.mp hr
  have hm := List.mem_of_getElem? hc
  refine ⟨menu_ok _ (mem c hm), mk_dok (h.ask c hm), fun q hq => ?_, ?_⟩
  · rw [← List.map_take] at hq
    obtain ⟨d, hd, rfl⟩ := List.mem_map.mp hq
    obtain ⟨j, hj⟩ := List.mem_iff_getElem?.mp hd
    have lj : j < i := by
      have := (List.getElem?_eq_some_iff.mp hj).1
      rw [List.length_take] at this
      omega
    rw [List.getElem?_take_of_lt lj] at hj
    obtain ⟨l1, e1⟩ := List.getElem?_eq_some_iff.mp hj
    obtain ⟨l2, e2⟩ := List.getElem?_eq_some_iff.mp hc
    intro e
    have e : d.nm = c.nm := e
    have : j = i := (List.getElem_inj nd (h₀ := by rw [List.length_map]; exact l1) (h₁ := by rw [List.length_map]; exact l2)).mp (by
      rw [List.getElem_map, List.getElem_map, e1, e2, e])
    omega
  · rcases h.up i c hc with e | ⟨q, hq, e⟩
    · exact .inl e
    · refine .inr ⟨mkR q, ?_, e, rfl⟩
      rw [← List.map_take]
      exact List.mem_map_of_mem hq
theorem cs_oks {cs : List (SR Str)} (h : RowsOk (cs.map mkR)) : OkS ("" : Str) cs := by
  have := oks h
  rw [srs_mk] at this
  exact this
theorem ask_ok {cs : List (SR Str)} (h : CsOk cs) : AskOk cs := fun c hc a e => (of_rise (h.ask c hc a e).1).1
theorem rise_len {xs ys : List Int} (hx : Rise xs) (hy : Rise ys) (sub : ∀ x ∈ xs, x ∈ ys) : xs.length ≤ ys.length := by
  have e : xs = ys.filter fun y => decide (y ∈ xs) := Rise.ext hx (hy.filter _) fun z => by
    rw [List.mem_filter]
    simp only [decide_eq_true_eq]
    exact ⟨fun h => ⟨sub z h, h⟩, fun h => h.2⟩
  rw [e]
  exact List.length_filter_le _ _
abbrev hfC (cs : List (SR Str)) (every : List Int) : Str → List Int := hasF ("" : Str) cs every
abbrev chC (cs : List (SR Str)) (every : List Int) : List Str := (cs.map (·.nm)).filter (alF ("" : Str) cs every)
section
variable {cs : List (SR Str)} {every : List Int}
theorem ch_mem {c : SR Str} (hc : c ∈ cs) : c.nm ∈ chC cs every ↔ alF ("" : Str) cs every c.nm = true := by
  rw [List.mem_filter]
  exact ⟨fun h => h.2, fun h => ⟨List.mem_map_of_mem hc, h⟩⟩
theorem has_small (ok : OkS ("" : Str) cs) (asks : AskOk cs) (hw : Rise every) (hn : every ≠ []) (hl : every.length ≤ 64) {n : Str} (hm : n = ("" : Str) ∨ ∃ r ∈ cs, r.nm = n) : hfC cs every n ≠ [] ∧ Rise (hfC cs every n) ∧ (hfC cs every n).length ≤ 64 := by
  have hd := handed (whole := every) ok
  rcases hm with e | ⟨r, hr, e⟩
  · rw [e, show hfC cs every ("" : Str) = every from hd.h0]
    exact ⟨hn, hw, hl⟩
  · rw [← e]
    obtain ⟨h1, h2⟩ := handed_has ok asks hw hn hd r hr
    refine ⟨h1, h2, Nat.le_trans (rise_len h2 hw fun x hx => ?_) hl⟩
    have := anc_sub ok asks hw hn hd (ok.ind (p := fun n => Anc cs ("" : Str) n) (.refl _) (fun r hr u => .step hr u) r hr) x hx
    rw [hd.h0] at this
    exact this
end
theorem hits_has {K : PySem.W.Frag} {G : Hp} {ls : List (Key × V)} (nd : (ls.map (·.1)).Nodup) : ∀ {ks ls' : List (Key × V)} {m : List (Str × List Int)}, Paired (HasR K G) ks m → Paired (HasR K G) ls' m → (∀ p ∈ ls', p ∈ ls) → HitsV (EqF K G 0) ls ks true
  | _, _, _, .nil, .nil, _ => .nil
  | _, _, _, .cons (a := kv) (b := mm) a b, .cons (a := lv) a' b', h => by
    have e : valV ls kv.1 = some lv.2 := by
      have := val_nd nd lv (h lv List.mem_cons_self)
      rw [a'.1, ← a.1] at this
      exact this
    have r1 : (true : Bool) = (true && true) := rfl
    rw [r1]
    obtain ⟨x, x1, x2⟩ := a.2.1
    obtain ⟨y, y1, y2⟩ := a'.2.1
    refine .hit (k := kv.1) (v := kv.2) e ⟨.tuple (mm.2.map .int), .tuple (mm.2.map .int), by rw [x1]; exact .tup x2 (dp_ofints _), by rw [y1]; exact .tup y2 (dp_ofints _), shaped_ints _, shaped_ints _, ?_⟩ (hits_has nd b b' fun p hp => h p (List.mem_cons_of_mem _ hp))
    rw [eqv_intT]
    simp
theorem flt_has {K : PySem.W.Frag} {G : Hp} {hf : Str → List Int} (x : Str) : ∀ {kf : List (Key × V)} {cs : List (SR Str)}, Paired (HasR K G) kf ((cs.map (·.nm)).map fun n => (n, hf n)) → Paired (HasR K G) (kf.filter fun kv => !decide (kv.1 = (Sum.inr x : Key))) ((cs.filter fun r => !decide (r.nm = x)).map fun r => (r.nm, hf r.nm))
  | [], [], _ => .nil
  | [], _ :: _, h => by cases h
  | _ :: _, [], h => by cases h
  | kv :: kf, c :: cs, h => by
    rw [List.map_cons, List.map_cons] at h
    cases h with
    | cons a b =>
      have ih := flt_has x b
      have e1 : kv.1 = (Sum.inr c.nm : Key) := a.1
      by_cases e : c.nm = x
      · have p1 : ¬ ((!decide (kv.1 = (Sum.inr x : Key))) = true) := by rw [e1, e]; simp
        have p2 : ¬ ((!decide (c.nm = x)) = true) := by rw [e]; simp
        rw [List.filter_cons_of_neg (p := fun kv : Key × V => !decide (kv.1 = (Sum.inr x : Key))) p1, List.filter_cons_of_neg (p := fun r : SR Str => !decide (r.nm = x)) p2]
        exact ih
      · have p1 : (!decide (kv.1 = (Sum.inr x : Key))) = true := by
          rw [e1, decide_eq_false fun z => e (Sum.inr.inj z)]
          rfl
        have p2 : (!decide (c.nm = x)) = true := by rw [decide_eq_false e]; rfl
        rw [List.filter_cons_of_pos (p := fun kv : Key × V => !decide (kv.1 = (Sum.inr x : Key))) p1, List.filter_cons_of_pos (p := fun r : SR Str => !decide (r.nm = x)) p2]
        exact .cons a ih
theorem has_keys {K : PySem.W.Frag} {G : Hp} : ∀ {kf : List (Key × V)} {m : List (Str × List Int)}, Paired (HasR K G) kf m → kf.map (·.1) = m.map fun z => (Sum.inr z.1 : Key)
  | _, _, .nil => rfl
  | _, _, .cons a b => by rw [List.map_cons, List.map_cons, a.1, has_keys b]
theorem seqT_unlock {K : PySem.W.Frag} {G : Hp} {a d : Addr} {xs : List V} {od : Obj} {kf : List (Key × V)} {o : HO} (h : SqT K G a xs) (hd : G d = some (.frz od (.dK kf))) : SqT K (upd G d o) a xs := by
  rcases h with (h | ⟨u, h⟩) | h
  · exact .inl (.inl (by rw [upd_ne (ne_of h hd (by intro z; cases z))]; exact h))
  · exact .inl (.inr ⟨u, by rw [upd_ne (ne_of h hd (by intro z; cases z))]; exact h⟩)
  · exact .inr h
theorem zip_flt {G : V → RowM → Prop} (p : SR Str → Bool) : ∀ {ws : List V} {cs : List (SR Str)}, Paired G ws (cs.map mkR) → Paired G (((ws.zip cs).filter fun z => p z.2).map (·.1)) ((cs.filter p).map mkR)
  | [], [], _ => .nil
  | [], _ :: _, h => by cases h
  | _ :: _, [], h => by cases h
  | w :: ws, c :: cs, h => by
    rw [List.map_cons] at h
    cases h with
    | cons a b =>
      have ih := zip_flt p b
      rw [List.zip_cons_cons]
      cases e : p c with
      | true =>
        rw [List.filter_cons_of_pos (by exact e), List.filter_cons_of_pos e]
        exact .cons a ih
      | false =>
        rw [List.filter_cons_of_neg (by show ¬ p c = true; rw [e]; decide), List.filter_cons_of_neg (by rw [e]; decide)]
        exact ih
theorem zip_kids {G : V → RowM → Prop} : ∀ {ws : List V} {cs : List (SR Str)}, Paired G ws (cs.map mkR) → ∀ n : Str, Paired G (((ws.zip cs).filter fun z => decide (z.2.up = n)).map (·.1)) ((kidsS cs n).map mkR)
  | [], [], _, _ => .nil
  | [], _ :: _, h, _ => by cases h
  | _ :: _, [], h, _ => by cases h
  | w :: ws, c :: cs, h, n => by
    rw [List.map_cons] at h
    cases h with
    | cons a b =>
      have ih := zip_kids b n
      rw [List.zip_cons_cons]
      unfold kidsS at ih ⊢
      by_cases e : c.up = n
      · rw [List.filter_cons_of_pos (by simpa using e), List.filter_cons_of_pos (by simpa using e)]
        exact .cons a ih
      · rw [List.filter_cons_of_neg (by simpa using e), List.filter_cons_of_neg (by simpa using e)]
        exact ih
section
variable {K : PySem.W.Frag} {H : Hp} {σ : L2.St}
theorem lcN {α : Type} {ws : List V} {tl te : TE} {t : TT} {j : Nat} {vs : List Nat} (xs : List α) (p : α → Bool) (g : α → V) (h : EvL tl σ H ws) (hlen : ws.length = xs.length) (hz : xs.length ≤ 1000)
    (hw : ∀ x, wipe ((wipe σ vs).set j (some x)) vs = wipe σ vs) (ht : ∀ (i : Nat) (x : V) (y : α) H1, Ex H H1 → ws[i]? = some x → xs[i]? = some y → EvT t ((wipe σ vs).set j (some x)) H1 (p y))
    (he : ∀ (i : Nat) (x : V) (y : α) H1, Ex H H1 → ws[i]? = some x → xs[i]? = some y → p y = true → Ev te ((wipe σ vs).set j (some x)) H1 (g y)) : EvL (tLc (iList K tl) (gName j) t te vs) σ H ((xs.filter p).map g) := by
  rw [← giv_eq xs p g, ← hlen]
  have get : ∀ {i : Nat} {x : V}, ws[i]? = some x → ∃ y, xs[i]? = some y := fun {i x} e => by
    have := (List.getElem?_eq_some_iff.mp e).1
    exact ⟨_, List.getElem?_eq_getElem (by omega)⟩
  refine el_lcNL _ _ h (by omega) hw (fun i x H1 e hi => ?_) fun i x H1 e hi hf => ?_
  · obtain ⟨y, hy⟩ := get hi
    rw [hy]
    exact ht i x y H1 e hi hy
  · obtain ⟨y, hy⟩ := get hi
    rw [hy] at hf ⊢
    exact he i x y H1 e hi hy hf
theorem ev_inOr {ta tb : TE} {x : Int} {u : V} {ask : Option (List Int)} (hx : Ev ta σ H (.int x)) (hu : Ev tb σ H u) (ha : (ask = none ∧ u = .non) ∨ ∃ xs, ask = some xs ∧ SetAt K H u xs) : Ev (tOp (rIn K false) ta (tOrT K tb (tTup tNil))) σ H (.bl (asksB ask x)) := by
  intro H1 e Q q
  refine hx H1 e _ fun H2 e2 => hu H2 (Same.trans e e2) _ fun H3 e3 => ?_
  have emp : ∀ {Q : VK}, (∀ H2, Ex H1 H2 → Q (.bl false) H2) → (tTup tNil) σ H3 fun y H4 => rIn K false (.int x) y H4 Q := fun {Q} q => ⟨Nat.zero_le _, fun p hp => ⟨p, _, rfl, .inr (SqT.of upd_same), rfl, rfl, q _ (Same.trans (Same.trans e2 e3) (Same.new (Same.refl H3) hp _))⟩⟩
  rcases ha with ⟨rfl, rfl⟩ | ⟨xs, rfl, a, rfl, hs⟩
  · exact ⟨false, rfl, iteF (emp q)⟩
  · have hs3 := ex_t (Same.trans (Same.trans e e2) e3) hs
    cases xs with
    | nil => exact ⟨false, .inr (.inl ⟨_, hs3, rfl⟩), iteF (emp q)⟩
    | cons z zs =>
      refine ⟨true, .inr (.inl ⟨_, hs3, rfl⟩), iteT ⟨a, _, rfl, .inr hs3, rfl, flat_ints _, ?_⟩⟩
      rw [if_neg (by decide), in_ints]
      exact q H3 (Same.trans e2 e3)
end
theorem init_at {K : PySem.W.Frag} {C : Addr} {H : Hp} {x dx rl : Addr} {ws : List V} {cs : List (SR Str)} {φ : VK} {E : XK} (hx : H x = none) (hdx : H dx = none) (ne : dx ≠ x) (hrl : H rl = some (.lst ws)) (hrows : Paired (RowAt K H) ws (cs.map mkR)) (rok : RowsOk (cs.map mkR)) (len : cs.length ≤ 12)
    (q : ∀ H' tk, Same H H' → TreeAt K H' C x (cs.map mkR) false tk → φ .non H') : spInit K C (.ref x :: ([.ref rl] ++ [.bl false])) (upd (upd H dx (.own x)) x (.ins C dx [])) φ E :=
  ⟨H, x, dx, rl, ws, cs.map mkR, false, rfl, Same.new (Same.new (Same.refl H) hdx _) ((upd_ne ne.symm).trans hx) _, hx, upd_same, hrl, hrows, rok, by rw [List.length_map]; omega, fun H' tk s t _ => q H' tk s t⟩
end Bd
end

section
namespace Bd
open PySem L2 Bs
open Evl hiding tCut pss_cut
/-! x not in (a, b): a tuple of data -/
def rNotInT (K : PySem.W.Frag) : R2 := fun x y H Q => ∃ d ds, Dp K H x d ∧ Dp K H y (.tuple ds) ∧ SeqAt.shaped d = true ∧ SeqAt.shaped (.tuple ds) = true ∧ Q (.bl (!ds.any fun z => PyData.eqv z d)) H
theorem op_notInT {X : Cx} (hu : X.A.units + 100 < cLine) : OpR X (compareOp .NotIn) (rNotInT X.K) := by
  intro pins s σ H x y v u Q I rx ry h
  obtain ⟨d, ds, hd, he, sd, se, q⟩ := h
  obtain ⟨as, r1⟩ := Dp.reads I d x v hd rx
  obtain ⟨bs, r2⟩ := Dp.reads I (.tuple ds) y u he ry
  exact SeqAt.notIn_tuple_reads r2 r1 (SeqAt.canLay_of_shaped se) (SeqAt.canLay_of_shaped sd) (PyProof.Rows.room_in_shaped sd (by omega)) ⟨.bl _, H, I, rfl, q⟩
abbrev sLAsks : Stmt := (top 52)
theorem scLAsks : FnScope ["_law_rows", "_law_name", "_law_row"] ["_law_rows", "_law_name"] (defScope sLAsks) := ⟨rfl, rfl, rfl, by decide +kernel, rfl, by decide +kernel, by decide +kernel⟩
abbrev sLAlone2 : Stmt := (top 53)
theorem scLAlone2 : FnScope ["_law_rows", "_law_name", "_law_own", "_law_is_alone", "_law_found", "_law_kept", "_law_child", "_law_asks_here", "_law_mark", "_law_rest", "_law_row", "_law_one_here"] ["_law_rows", "_law_name", "_law_own", "_law_is_alone"] (defScope sLAlone2) := ⟨rfl, rfl, rfl, by decide +kernel, rfl, by decide +kernel, by decide +kernel⟩
abbrev sLDue : Stmt := (top 55)
theorem scLDue : FnScope ["_law_rows", "_law_name", "_law_own", "_law_is_alone", "_law_found", "_law_chosen", "_law_taken", "_law_child", "_law_kept", "_law_asks_here", "_law_mine", "_law_row", "_law_one_here"] ["_law_rows", "_law_name", "_law_own", "_law_is_alone", "_law_found"] (defScope sLDue) := ⟨rfl, rfl, rfl, by decide +kernel, rfl, by decide +kernel, by decide +kernel⟩
abbrev sLPairs : Stmt := (top 54)
theorem scLPairs : FnScope ["_law_rows", "_law_name", "_law_own", "_law_chosen", "_law_kids", "_law_at", "_law_child", "_law_asks_here", "_law_mark", "_law_ahead", "_law_can", "_law_other", "_law_theirs", "_law_taken", "_law_row", "_law_one_here"] ["_law_rows", "_law_name", "_law_own", "_law_chosen"] (defScope sLPairs) := ⟨rfl, rfl, rfl, by decide +kernel, rfl, by decide +kernel, by decide +kernel⟩

def AskV (K : PySem.W.Frag) (H : Hp) (u : V) (ask : Option (List Int)) : Prop := (ask = none ∧ u = .non) ∨ ∃ xs, ask = some xs ∧ SetAt K H u xs
theorem AskV.same {K : PySem.W.Frag} {H H' : Hp} {u : V} {ask : Option (List Int)} (s : Same H H') (h : AskV K H u ask) : AskV K H' u ask := h.imp id fun ⟨xs, e, z⟩ => ⟨xs, e, z.same s⟩
def RowsArg (K : PySem.W.Frag) (H : Hp) (rl : Addr) (ws : List V) (cs : List (SR Str)) : Prop := H rl = some (.lst ws) ∧ Paired (RowAt K H) ws (cs.map mkR) ∧ cs.length ≤ 12
theorem RowsArg.same {K : PySem.W.Frag} {H H' : Hp} {rl : Addr} {ws : List V} {cs : List (SR Str)} (s : Same H H') (h : RowsArg K H rl ws cs) : RowsArg K H' rl ws cs := ⟨s _ _ h.1, rows_same s h.2.1, h.2.2⟩
def spAsks (K : PySem.W.Frag) : Sp := fun vs H Q _ => ∃ (rl : Addr) (ws : List V) (cs : List (SR Str)) (c0 : SR Str), vs = [.ref rl, .str c0.nm] ∧ RowsArg K H rl ws cs ∧ (cs.map (·.nm)).Nodup ∧ c0 ∈ cs ∧
  ∀ t u H', Same H H' → SqT K H' t [u, .int (if c0.al then 1 else 0)] → AskV K H' u c0.ask → Q (.ref t) H'
def spAlone (K : PySem.W.Frag) : Sp := fun vs H Q _ => ∃ (rl : Addr) (n : Str) (ov : V) (b : Bool) (ws : List V) (cs : List (SR Str)) (own : List Int), vs = [.ref rl, .str n, ov, .bl b] ∧ RowsArg K H rl ws cs ∧ (cs.map (·.nm)).Nodup ∧ AskOk cs ∧ SetAt K H ov own ∧ Rise own ∧ own.length ≤ 64 ∧
  ∀ l H', H l = none → Same H H' → H' l = some (.lst ((pick b (kidsS cs n) own).1.map .str)) → Q (.ref l) H'
section
variable {P : Program} {w : World} {K : PySem.W.Frag} {mg : Str → Option Value} {base : Heap} {aL C CN CW : Addr} {left : List (Key × V)}
theorem ok_asks {f : Addr} {fd : FuncData} (F : Fun K "_law_asks" "_law_asks" sLAsks f fd) : FnOk P w K mg base CX0 1 f fd ["_law_rows", "_law_name"] (spAsks K) := by
  refine F.ok scLAsks (fun vs H Q E h => ?_) (fun cdv A outer s H vs Q E hr h => ?_)
  · obtain ⟨rl, ws, cs, c0, rfl, _⟩ := h
    rfl
  obtain ⟨rl, ws, cs, c0, rfl, ⟨hrl, hrows, len⟩, nd, hc0, q⟩ := h
  refine ⟨_, (pss_one (ps_ret (pe_ix ix_list (pe_lc (own := [("_law_row", 2)]) (g := gName 2) (tt := tTest (tOp rEq (tOp (rIxT K) (tVar 2) (tC (.int 0))) (tVar 1))) (te := (tTup (tCons (tOp (rIxT K) (tOp (rIxT K) (tOp (rIxT K) (tVar 2) (tC (.int 2))) (tC (.int 0))) (tC (.int 1))) (tCons (tOp (rIxT K) (tOp (rIxT K) (tOp (rIxT K) (tVar 2) (tC (.int 2))) (tC (.int 1))) (tC (.int 1))) tNil)))) rfl scLAsks.nd (pi_list (pv 0)) (blkOk_by (own := [("_law_row", 2)]) (N := ["_law_rows", "_law_name", "_law_row"]) (sc := defScope sLAsks) (by decide +kernel)) (fun _ _ _ _ _ => (pg_name (i := 2) scLAsks.nd rfl (Or.inl rfl))) (fun _ _ _ _ _ => (pts_one (pt_cmpR op_eq (pe_ix ix_tup (pv 2) pe_int (fun _ _ => rfl)) (pv 1) (nomark _)))) (fun _ _ _ _ _ => (pe_tup (pa_cons (pe_ix ix_tup (pe_ix ix_tup (pe_ix ix_tup (pv 2) pe_int (fun _ _ => rfl)) pe_int (fun _ _ => rfl)) pe_int (fun _ _ => rfl)) (pa_cons (pe_ix ix_tup (pe_ix ix_tup (pe_ix ix_tup (pv 2) pe_int (fun _ _ => rfl)) pe_int (fun _ _ => rfl)) pe_int (fun _ _ => rfl)) pa_nil))))) pe_int (fun _ _ => rfl)))), ?_⟩
  have wl := rows_len hrows
  obtain ⟨i0, w0, hw0, hcs0, hzip⟩ := zip_one wl nd hc0
  refine ⟨_, rfl, rl, rfl, ⟨_, SqL.of hrl⟩, fun D hD => lc_list (K := K) (a := rl) (xs := ws) (fun i G => ∃ acc : List V, G D = some (.lst acc) ∧ Same H G ∧ ((i ≤ i0 ∧ acc = []) ∨ (i0 < i ∧ ∃ t u, acc = [.ref t] ∧ SqT K G t [u, .int (if c0.al then 1 else 0)] ∧ AskV K G u c0.ask)))
    ⟨[], upd_same, Same.new (Same.refl H) hD _, .inl ⟨Nat.zero_le _, rfl⟩⟩ ?_ ?_ ?_⟩
  · rintro i G _ ⟨acc, e, s1, _⟩
    exact SqL.of (s1 _ _ hrl)
  · rintro i x G hx ⟨acc, eD, s1, hacc⟩
    have hi : i < cs.length := by
      have := (List.getElem?_eq_some_iff.mp hx).1
      omega
    have hc : cs[i]? = some cs[i] := List.getElem?_eq_getElem hi
    generalize cs[i] = c at hc
    obtain ⟨a, t, p1, p2, u, rfl, r1, r2, r3, r4, hu5⟩ := row_mk (row_at (rows_same s1 hrows) hx hc)
    have hcm := List.mem_of_getElem? hc
    refine ⟨rfl, ?_⟩
    refine ⟨_, rfl, a, _, _, _, rfl, rfl, r1, rfl, _, rfl, rfl, _, rfl, ?_⟩
    rw [dec_strs]
    have uniq : c.nm = c0.nm ↔ i = i0 := by
      obtain ⟨l1, e1⟩ := List.getElem?_eq_some_iff.mp hc
      obtain ⟨l2, e2⟩ := List.getElem?_eq_some_iff.mp hcs0
      constructor
      · intro e
        exact (List.getElem_inj nd (h₀ := by rw [List.length_map]; exact l1) (h₁ := by rw [List.length_map]; exact l2)).mp (by rw [List.getElem_map, List.getElem_map, e1, e2, e])
      · rintro rfl
        rw [hc] at hcs0
        cases hcs0
        rfl
    refine ite2 (fun cc => ?_) (fun cc => ?_)
    · have ei := uniq.mp (of_decide_eq_true cc)
      subst ei
      rw [hc] at hcs0
      cases hcs0
      refine ⟨_, rfl, a, _, _, _, rfl, rfl, r1, rfl, t, _, _, _, rfl, rfl, r2, rfl, p1, _, _, _, rfl, rfl, r3, rfl, _, rfl, a, _, _, _, rfl, rfl, r1, rfl, t, _, _, _, rfl, rfl, r2, rfl, p2, _, _, _, rfl, rfl, r4, rfl, by show 2 ≤ sizeLine; decide, fun t2 ht2 => ?_⟩
      have s2 := Same.new (Same.refl G) ht2 (.tup [u, .int (if c0.al then 1 else 0)])
      have e2 : upd G t2 (.tup [u, .int (if c0.al then 1 else 0)]) t2 = some (.tup [u, .int (if c0.al then 1 else 0)]) := upd_same
      generalize upd G t2 (.tup [u, .int (if c0.al then 1 else 0)]) = G2 at s2 e2 ⊢
      rcases hacc with ⟨_, rfl⟩ | ⟨h, _⟩
      · have tk := TK.lst (s2 _ _ eD) (.lst ([] ++ [V.ref t2]))
        refine ⟨_, s2 _ _ eD, by show 0 < sizeLine; decide, _, upd_same, Same.ch (s1.trans s2) hD _, .inr ⟨by omega, t2, u, rfl, tk.seqT (SqT.of e2), ?_⟩⟩
        exact hu5.imp id fun ⟨xs, e, z⟩ => ⟨xs, e, (z.same s2).tk tk⟩
      · omega
    · have ni : i ≠ i0 := fun e => by
        have := uniq.mpr e
        rw [decide_eq_true this] at cc
        exact cc rfl
      refine ⟨acc, eD, s1, ?_⟩
      rcases hacc with ⟨h, e⟩ | ⟨h, z⟩
      · exact .inl ⟨by omega, e⟩
      · exact .inr ⟨by omega, z⟩
  · rintro G ⟨acc, eD, s1, hacc⟩
    have hi0 := (List.getElem?_eq_some_iff.mp hw0).1
    rcases hacc with ⟨h, _⟩ | ⟨_, t, u, rfl, h1, h2⟩
    · omega
    · have at0 : atI [V.ref t] 0 = some (V.ref t) := at_of (j := 0) rfl rfl
      exact ⟨D, _, 0, _, rfl, rfl, SqL.of eD, at0, q t u G s1 h1 h2⟩
def neAsk : Option (List Int) → Bool
  | none => false
  | some a => !a.isEmpty
/-- asks not in (None, ()) -/
theorem ev_notNone {σ : L2.St} {H : Hp} {ta : TE} {u : V} {ask : Option (List Int)} (hu : Ev ta σ H u) (ha : AskV K H u ask) : Ev (tOp (rNotInT K) ta (tTup (tCons (tC .non) (tCons (tTup tNil) tNil)))) σ H (.bl (neAsk ask)) := by
  intro H1 e Q q
  refine hu H1 e _ fun H2 e2 => ⟨Nat.zero_le _, fun t0 ht0 => ⟨by show 2 ≤ sizeLine; decide, fun t1 ht1 => ?_⟩⟩
  have s1 := Same.new (Same.refl H2) ht0 (.tup [])
  have f0 : upd H2 t0 (.tup []) t0 = some (.tup []) := upd_same
  generalize upd H2 t0 (.tup []) = H3 at s1 f0 ht1 ⊢
  have s2 := Same.new (Same.refl H3) ht1 (.tup [.non, .ref t0])
  have f1 : upd H3 t1 (.tup [.non, .ref t0]) t1 = some (.tup [.non, .ref t0]) := upd_same
  have f0 := s2 _ _ f0
  generalize upd H3 t1 (.tup [.non, .ref t0]) = H4 at s2 f0 f1 ⊢
  have hd : Dp K H4 (.ref t1) (.tuple [.none, .tuple (([] : List Int).map .int)]) := .tup (SqT.of f1) (.cons .non (.cons (.tup (SqT.of f0) .nil) .nil))
  have sh : SeqAt.shaped (.tuple [.none, .tuple (([] : List Int).map .int)]) = true := by decide +kernel
  have sE : Same H H4 := Same.trans (Same.trans e e2) (s1.trans s2)
  rcases ha with ⟨rfl, rfl⟩ | ⟨xs, rfl, a, rfl, hs⟩
  · refine ⟨.none, _, .non, hd, by decide +kernel, sh, ?_⟩
    have : ([PyData.none, .tuple (([] : List Int).map .int)].any fun z => PyData.eqv z .none) = true := by decide +kernel
    rw [this]
    exact q H4 (Same.trans e2 (s1.trans s2))
  · refine ⟨.tuple (xs.map .int), _, .tup (Same.seqT sE hs) (dp_ofints _), hd, shaped_ints _, sh, ?_⟩
    have : ([PyData.none, .tuple (([] : List Int).map .int)].any fun z => PyData.eqv z (.tuple (xs.map .int))) = xs.isEmpty := by
      rw [List.any_cons, List.any_cons, eqv_intT, List.any_nil]
      have e1 : PyData.eqv .none (.tuple (xs.map .int)) = false := by
        rw [PyData.eqv] <;> simp
      rw [e1]
      cases xs <;> rfl
    rw [this]
    exact q H4 (Same.trans e2 (s1.trans s2))
theorem ev_lenT {σ : L2.St} {H : Hp} {ta : TE} {a : Addr} {xs : List V} (ha : Ev ta σ H (.ref a)) (hs : SqT K H a xs) : Ev (tCB (rLenS K) (tCons ta tNil)) σ H (.int (xs.length : Int)) := fun H1 e Q q =>
  ha H1 e _ fun H2 e2 => ⟨a, xs, rfl, .inr (ex_t (Same.trans e e2) hs), q H2 e2⟩
theorem pick_snoc (b : Bool) (ks : List (SR Str)) (c : SR Str) (own : List Int) : pick b (ks ++ [c]) own = if b then pStep (pick b ks own) c else ([], own) := by
  unfold pick
  cases b with
  | false => rfl
  | true =>
    rw [if_pos rfl, if_pos rfl, if_pos rfl, List.foldl_append]
    rfl
theorem mark_is (b : Bool) : decide (V.int (if b then 1 else 0) = V.int 1) = b := by
  cases b
  · exact decide_eq_false fun z => by cases z
  · exact decide_eq_true rfl
/-- the names right below n, as the law lists them -/
theorem kids_ev {σ : L2.St} {H : Hp} {tl : TE} {rl : Addr} {ws : List V} {cs : List (SR Str)} {n : Str} {j m : Nat} {vs : List Nat} (h : Ev tl σ H (.ref rl)) (ra : RowsArg K H rl ws cs) (hw : ∀ x, wipe ((wipe σ vs).set j (some x)) vs = wipe σ vs)
    (hj : ∀ x, ((wipe σ vs).set j (some x))[j]? = some (some x)) (hm : ∀ x, ((wipe σ vs).set j (some x))[m]? = some (some (.str n))) :
    EvL (tLc (iList K tl) (gName j) (tTest (tOp rEq (tOp (rIxT K) (tVar j) (tC (.int 1))) (tVar m))) (tOp (rIxT K) (tVar j) (tC (.int 0))) vs) σ H ((kidsS cs n).map fun (c : SR Str) => V.str c.nm) := by
  have len := ra.2.2
  refine lcL (K := K) cs (fun c => decide (c.up = n)) (fun c => V.str c.nm) h (SqL.of ra.1) (rows_len ra.2.1) (by omega) hw (fun i x c G e hx hc => ?_) fun i x c G e hx hc _ => ?_
  · obtain ⟨a, t, p1, p2, u, rfl, r1, _⟩ := row_mk (row_at ra.2.1 hx hc)
    refine et_test (ev_is (ev_op (ev_op (ev_var (hj _)) ev_c (rv_ixT (ex_t e r1) rfl)) (ev_var (hm _)) (rv_eq rfl)) ?_)
    rw [dec_strs]
  · obtain ⟨a, t, p1, p2, u, rfl, r1, _⟩ := row_mk (row_at ra.2.1 hx hc)
    exact ev_op (ev_var (hj _)) ev_c (rv_ixT (ex_t e r1) rfl)
theorem ok_alone2 {f g : Addr} {fd gd : FuncData} (F : Fun K "_law_alone" "_law_alone" sLAlone2 f fd) (T : TA mg) (cA : Cal P w K mg base "_law_asks" ["_law_rows", "_law_name"] 1 (spAsks K) g gd) : FnOk P w K mg base CX0 2 f fd ["_law_rows", "_law_name", "_law_own", "_law_is_alone"] (spAlone K) := by
  refine F.ok scLAlone2 (fun vs H Q E h => ?_) (fun cdv A outer s H vs Q E hr h => ?_)
  · obtain ⟨rl, n, ov, b, ws, cs, own, rfl, _⟩ := h
    rfl
  obtain ⟨rl, n, _, b, ws, cs, own, rfl, ra, nd, asks, ⟨oa, rfl, hown⟩, hrise, hol, q⟩ := h
  refine ⟨_, (pss_cons (ps_par (i := 4) (j := 5) (by rfl) scLAlone2.nd rfl rfl (by decide) rfl rfl (pa_cons (pe_lst pa_nil) (pa_cons (pe_callTy call_list_of (by rfl) T.z_list (by decide +kernel) (pa_cons (pv 2) pa_nil)) pa_nil)) (by rfl)) (pss_cons (ps_for PassesOwn.never rfl (pi_list (pe_lc (own := [("_law_row", 10)]) (g := gName 10) (tt := tTest (tOp rEq (tOp (rIxT K) (tVar 10) (tC (.int 1))) (tVar 1))) (te := (tOp (rIxT K) (tVar 10) (tC (.int 0)))) rfl scLAlone2.nd (pi_list (pv 0)) (blkOk_by (own := [("_law_row", 10)]) (N := ["_law_rows", "_law_name", "_law_own", "_law_is_alone", "_law_found", "_law_kept", "_law_child", "_law_asks_here", "_law_mark", "_law_rest", "_law_row", "_law_one_here"]) (sc := defScope sLAlone2) (by decide +kernel)) (fun _ _ _ _ _ => (pg_name (i := 10) scLAlone2.nd rfl (Or.inl rfl))) (fun _ _ _ _ _ => (pts_one (pt_cmpR op_eq (pe_ix ix_tup (pv 10) pe_int (fun _ _ => rfl)) (pv 1) (nomark _)))) (fun _ _ _ _ _ => (pe_ix ix_tup (pv 10) pe_int (fun _ _ => rfl))))) (pg_name (i := 6) scLAlone2.nd rfl (Or.inl rfl)) (pss_cons (ps_asg (pe_call cA.ok (hr.mono (by decide)) rfl cA.mg cA.kp cA.bd .nil pass0 (pa_cons (pv 0) (pa_cons (pv 6) pa_nil))) (pg_tup (by rfl) (pgs_cons (pg_name (i := 7) scLAlone2.nd rfl (Or.inr rfl)) (pgs_cons (pg_name (i := 8) scLAlone2.nd rfl (Or.inl rfl)) pgs_nil)))) (pss_one (ps_if (PW.pt (pw_and (pt_val (pv 3)) (pw_and (pt_cmpR op_eq (pv 8) pe_int (nomark _)) (pw_and1 (pt_cmpR (op_notInT (hu100 hr)) (pv 7) (pe_tup (pa_cons pe_non (pa_cons (pe_tup pa_nil) pa_nil))) (by first | exact nomark _ | rfl)))))) (pss_cons (ps_setLc (i := 9) (own := [("_law_one_here", 11)]) (g := gName 11) (tt := tTest (tOp (rIn K true) (tVar 11) (tVar 7))) (te := (tVar 11)) rfl scLAlone2.nd rfl rfl (sw_true rfl rfl rfl (by decide +kernel)) (pi_list (pv 5)) (blkOk_by (own := [("_law_one_here", 11)]) (N := ["_law_rows", "_law_name", "_law_own", "_law_is_alone", "_law_found", "_law_kept", "_law_child", "_law_asks_here", "_law_mark", "_law_rest", "_law_row", "_law_one_here"]) (sc := defScope sLAlone2) (by decide +kernel)) (fun _ _ _ _ _ => (pg_name (i := 11) scLAlone2.nd rfl (Or.inl rfl))) (fun _ _ _ _ _ => (pts_one (pt_cmpR op_notIn_seq (pv 11) (pv 7) (by first | exact nomark _ | rfl)))) (fun _ _ _ _ _ => (pv 11))) (pss_one (ps_if (PW.pt (pw_and (pt_cmpR op_eq (pe_callB call_len_seq (by rfl) T.z_len PySem.boot_len (pa_cons (pv 9) pa_nil)) (pe_op op_sub (pe_callB call_len_seq (by rfl) T.z_len PySem.boot_len (pa_cons (pv 5) pa_nil)) (pe_callB call_len_seq (by rfl) T.z_len PySem.boot_len (pa_cons (pv 7) pa_nil))) (nomark _)) (pw_and1 (pt_cmpR (op_neD hr.units) (pv 9) (pe_lst pa_nil) (nomark _))))) (pss_cons (ps_expr (pe_bm PySem.F.plainAttrs_list PySem.F.slot_list_append PySem.F.type_list_append mt_append (pv 4) (pa_cons (pv 6) pa_nil))) (pss_one (ps_set (i := 5) scLAlone2.nd rfl (Or.inl rfl) (pv 9)))) pss_nil))) pss_nil)))) (pss_one (ps_ret (pv 4))))), ?_⟩
  have wl := rows_len ra.2.1
  have len := ra.2.2
  refine ⟨Nat.zero_le _, fun fl hfl => ?_⟩
  have s1 := Same.new (Same.refl H) hfl (.lst [])
  have f1 : upd H fl (.lst []) fl = some (.lst []) := upd_same
  generalize upd H fl (.lst []) = H1 at s1 f1 ⊢
  refine ⟨_, rfl, oa, _, rfl, .inr (Same.seqT s1 hown), fun kl hkl => ⟨_, _, rfl, ?_⟩⟩
  have s2 := Same.new (Same.refl H1) hkl (.lst (own.map V.int))
  have f2 : upd H1 kl (.lst (own.map V.int)) kl = some (.lst (own.map V.int)) := upd_same
  have f1 := s2 _ _ f1
  generalize upd H1 kl (.lst (own.map V.int)) = H2 at s2 f1 f2 ⊢
  have s12 := s1.trans s2
  have hkin : ∀ {c : SR Str}, c ∈ kidsS cs n → c ∈ cs ∧ c.up = n := fun h => mem_kids.mp h
  have kn : (kidsS cs n).length ≤ 12 := Nat.le_trans (List.length_filter_le _ _) len
  have knd := kids_nd nd n
  have epick : pick b ([] : List (SR Str)) own = ([], own) := by
    unfold pick
    split <;> rfl
  dsimp only
  refine q_forNLn (xs := (kidsS cs n).map fun (c : SR Str) => V.str c.nm) (kids_ev (ev_var rfl) (ra.same s12) (fun _ => rfl) (fun _ => rfl) (fun _ => rfl))
    (fun l i σ G => ∃ (ka : Addr) (o6 o7 o8 o9 o10 o11 : Option V), σ = [some (.ref rl), some (.str n), some (.ref oa), some (.bl b), some (.ref fl), some (.ref ka), o6, o7, o8, o9, o10, o11] ∧ Same H G ∧ G fl = some (.lst ((pick b ((kidsS cs n).take i) own).1.map .str)) ∧
      G ka = some (.lst ((pick b ((kidsS cs n).take i) own).2.map .int)) ∧ G l = some (.lst ((kidsS cs n).map fun (c : SR Str) => V.str c.nm)) ∧ (pick b ((kidsS cs n).take i) own).1.length ≤ i ∧ l ≠ fl)
    (fun l G hl e hG => ⟨kl, _, _, _, _, _, _, rfl, Same.trans s12 e, by rw [List.take_zero, epick]; exact e _ _ f1, by rw [List.take_zero, epick]; exact e _ _ f2, hG, by rw [List.take_zero, epick]; exact Nat.le_refl _, (ne_of_none f1 hl).symm⟩) ?_ ?_ ?_
  · rintro l i σ G _ ⟨_, _, _, _, _, _, _, rfl, _, _, _, e, _⟩
    exact SqL.of e
  · rintro l i x σ G hx ⟨ka, o6, o7, o8, o9, o10, o11, rfl, sG, fG, kG, lG, bl, nlf⟩
    rw [List.getElem?_map] at hx
    obtain ⟨c, hc, rfl⟩ := Option.map_eq_some_iff.mp hx
    have hck := List.mem_of_getElem? hc
    have hcm := (hkin hck).1
    have hi : i < 12 := by
      have := (List.getElem?_eq_some_iff.mp hc).1
      omega
    have et : (kidsS cs n).take (i + 1) = (kidsS cs n).take i ++ [c] := by
      rw [List.take_add_one, hc]
      rfl
    have pk : own ≠ [] → PickOk ((kidsS cs n).take i) own (pick b ((kidsS cs n).take i) own) := fun hn => pick_ok hrise hn (by rw [List.map_take]; exact knd.sublist (List.take_sublist _ _)) b
    have prise : Rise (pick b ((kidsS cs n).take i) own).2 := by
      by_cases hn : own = []
      · have key : ∀ (ks : List (SR Str)) (s : List Str × List Int), Rise s.2 → Rise (ks.foldl pStep s).2 := by
          intro ks
          induction ks with
          | nil => exact fun s h => h
          | cons k ks ih =>
            intro s h
            refine ih (pStep s k) ?_
            unfold pStep
            split
            · exact h.filter _
            · exact h
        unfold pick
        split
        · exact key _ _ hrise
        · exact hrise
      · exact (pk hn).rise
    have plen : (pick b ((kidsS cs n).take i) own).2.length ≤ 64 := by
      have key : ∀ (ks : List (SR Str)) (s : List Str × List Int), (ks.foldl pStep s).2.length ≤ s.2.length := by
        intro ks
        induction ks with
        | nil => exact fun s => Nat.le_refl _
        | cons k ks ih =>
          intro s
          refine Nat.le_trans (ih (pStep s k)) ?_
          unfold pStep
          split
          · exact List.length_filter_le _ _
          · exact Nat.le_refl _
      unfold pick
      split
      · exact Nat.le_trans (key _ _) hol
      · exact hol
    rw [et, pick_snoc]
    generalize hst : pick b ((kidsS cs n).take i) own = st at fG kG bl prise plen
    have stF : b = false → st = ([], own) := fun hb => by rw [← hst, hb]; rfl
    refine ⟨_, rfl, _, rfl, rl, ws, cs, c, rfl, ra.same sG, nd, hcm, fun t u G1 s3 ht hu => ?_⟩
    refine ⟨t, _, rfl, ht, rfl, _, _, rfl, _, _, rfl, rfl, ?_⟩
    have sG1 := sG.trans s3
    have fG := s3 _ _ fG
    have kG := s3 _ _ kG
    have lG := s3 _ _ lG
    have hask := asks c hcm
    -- may it stand alone
    refine s_if (b := b && (c.al && neAsk c.ask)) (et_and (et_B (ev_var rfl)) fun _ => et_and (et_is (et_test (ev_op (ev_var rfl) ev_c (rv_eq rfl))) (mark_is _)) fun _ => et_test (ev_notNone (ev_var rfl) hu)) (fun hb G2 s4 => ?_) fun hb G2 s4 => ?_
    · rw [Bool.and_eq_true, Bool.and_eq_true] at hb
      obtain ⟨hb1, hb2, hb3⟩ := hb
      have fG := s4 _ _ fG
      have kG := s4 _ _ kG
      have lG := s4 _ _ lG
      have hu := hu.same s4
      rw [if_pos hb1]
      rcases hu with ⟨ea, _⟩ | ⟨a, ea, aa, rfl, hs⟩
      · rw [ea] at hb3
        cases hb3
      have hb3 : (!a.isEmpty) = true := by rw [ea] at hb3; exact hb3
      -- the rest
      refine q_asgL (lcL (K := K) st.2 (fun x => !decide (x ∈ a)) V.int (ev_var rfl) (SqL.of kG) (by rw [List.length_map]) (by omega) (fun _ => rfl) (fun j x y G3 e hx hy => ?_) fun j x y G3 e hx hy _ => ?_) fun rl2 G3 hrl2 s5 f5 => ?_
      · rw [List.getElem?_map, hy] at hx
        cases hx
        refine et_test (ev_is (ev_op (ev_var rfl) (ev_var rfl) (rv_niT (ex_t e hs) rfl (flat_ints _))) ?_)
        rw [in_ints]
      · rw [List.getElem?_map, hy] at hx
        cases hx
        exact ev_var rfl
      have f5 : G3 rl2 = some (.lst ((withoutS st.2 a).map V.int)) := f5
      have nff : rl2 ≠ fl := fun e => by
        rw [e, fG] at hrl2
        cases hrl2
      have fG := s5 _ _ fG
      have kG := s5 _ _ kG
      have lG := s5 _ _ lG
      have hs := ex_t s5 hs
      have em : mayS c st.2 = (decide (((withoutS st.2 a).length : Int) = (st.2.length : Int) - (a.length : Int)) && !(withoutS st.2 a).isEmpty) := by
        rw [may_count prise hask, hb2, ea]
        show (true && (!a.isEmpty && _)) = _
        rw [hb3, Bool.true_and, Bool.true_and]
      refine s_if (b := mayS c st.2) (et_is (et_and (a := decide (((withoutS st.2 a).length : Int) = (st.2.length : Int) - (a.length : Int))) (b := !(withoutS st.2 a).isEmpty) (et_is (et_test (ev_op (ev_len (ev_var rfl) (SqL.of f5)) (ev_op (ev_len (ev_var rfl) (SqL.of kG)) (ev_lenT (ev_var rfl) hs) rv_I0) (rv_eq rfl))) ?_) fun _ => et_is (et_test (ev_opL (xs := ([] : List Int).map V.int) (ev_var rfl) (el_lst ea_nil (Nat.zero_le _)) fun p G4 h4 e4 => rv_neL (e4 _ _ f5) h4)) ?_) em.symm) (fun hm G4 s6 => ?_) fun hm G4 s6 => ?_
      · rw [List.length_map, List.length_map, List.length_map]
        by_cases z : ((withoutS st.2 a).length : Int) = (st.2.length : Int) - (a.length : Int)
        · rw [decide_eq_true z]
          exact decide_eq_true (congrArg V.int z)
        · rw [decide_eq_false z]
          exact decide_eq_false fun y => z (V.int.inj y)
      · cases withoutS st.2 a <;> rfl
      · have fG := s6 _ _ fG
        have kG := s6 _ _ kG
        have lG := s6 _ _ lG
        have f5 := s6 _ _ f5
        have sall : Same H G4 := ((sG1.trans s4).trans s5).trans s6
        have nfl : H fl = none := hfl
        have elen : (st.1.map V.str).length < 100000 := by rw [List.length_map]; omega
        refine q_app (l := fl) (xs := st.1.map V.str) (v := .str c.nm) fG (ev_var rfl) (ev_var rfl) elen fun G5 s7 => ?_
        have hps : pStep st c = (st.1 ++ [c.nm], withoutS st.2 a) := by
          unfold pStep
          rw [hm, if_pos rfl, ea]
          rfl
        refine s_asg (v := .ref rl2) (ev_var rfl) fun G6 s8 => ?_
        rw [hps]
        have u1 : upd G5 fl (.lst (st.1.map V.str ++ [.str c.nm])) fl = some (.lst ((st.1 ++ [c.nm]).map V.str)) := by
          rw [upd_same, List.map_append]
          rfl
        have u2 : upd G5 fl (.lst (st.1.map V.str ++ [.str c.nm])) rl2 = some (.lst ((withoutS st.2 a).map V.int)) := (upd_ne nff).trans (s7 _ _ f5)
        refine ⟨rl2, _, _, _, _, _, _, rfl, (Same.ch (sall.trans s7) nfl _).trans s8, s8 _ _ u1, s8 _ _ u2, s8 _ _ ((upd_ne nlf).trans (s7 _ _ lG)), ?_, nlf⟩
        rw [List.length_append, List.length_singleton]
        omega
      · have hps : pStep st c = st := by
          unfold pStep
          rw [hm, if_neg (by decide)]
        rw [hps]
        exact ⟨ka, _, _, _, _, _, _, rfl, ((sG1.trans s4).trans s5).trans s6, s6 _ _ fG, s6 _ _ kG, s6 _ _ lG, Nat.le_succ_of_le bl, nlf⟩
    · have hps : (if b then pStep st c else ([], own)) = st := by
        cases hb0 : b with
        | false => exact (stF hb0).symm
        | true =>
          rw [hb0, Bool.true_and] at hb
          rw [if_pos rfl]
          have hm : mayS c st.2 = false := by
            cases z : mayS c st.2 with
            | false => rfl
            | true =>
              obtain ⟨h1, a, ea, na, _⟩ := may_ask z
              rw [h1, ea, Bool.true_and] at hb
              have : neAsk (some a) = true := by
                cases a with
                | nil => exact absurd rfl na
                | cons _ _ => rfl
              rw [this] at hb
              cases hb
          unfold pStep
          rw [hm, if_neg (by decide)]
      rw [hps]
      exact ⟨ka, _, _, _, _, _, _, rfl, sG1.trans s4, s4 _ _ fG, s4 _ _ kG, s4 _ _ lG, Nat.le_succ_of_le bl, nlf⟩
  · rintro l σ G ⟨ka, o6, o7, o8, o9, o10, o11, rfl, sG, fG, kG, lG, bl, nlf⟩
    rw [List.length_map, List.take_length] at fG
    exact ⟨_, rfl, q fl G hfl sG fG⟩
end
end Bd
end

section
namespace Bd
open PySem L2 Bs
open Evl hiding tCut pss_cut
def DueR (K : PySem.W.Frag) (G : Hp) (kv : Key × V) (e : Str × List Int × Bool) : Prop := kv.1 = (Sum.inr e.1 : Key) ∧ ∃ t u, kv.2 = .ref t ∧ SqT K G t [u, .bl e.2.2] ∧ SetAt K G u e.2.1 ∧ e.2.1.length ≤ 64
theorem DueR.tk {K : PySem.W.Frag} {G G' : Hp} {kv : Key × V} {e : Str × List Int × Bool} (s : TK G G') (h : DueR K G kv e) : DueR K G' kv e := by
  obtain ⟨h1, t, u, h2, h3, h4, h5⟩ := h
  exact ⟨h1, t, u, h2, s.seqT h3, h4.tk s, h5⟩
theorem due_keys {K : PySem.W.Frag} {G : Hp} : ∀ {kvs : List (Key × V)} {m : List (Str × List Int × Bool)}, Paired (DueR K G) kvs m → kvs.map (·.1) = m.map fun z => (Sum.inr z.1 : Key)
  | _, _, .nil => rfl
  | _, _, .cons a b => by rw [List.map_cons, List.map_cons, a.1, due_keys b]
theorem RowsArg.tk {K : PySem.W.Frag} {H H' : Hp} {rl fd : Addr} {ws : List V} {cs : List (SR Str)} {kvs : List (Key × V)} (h : RowsArg K H rl ws cs) (cok : CsOk cs) (hfd : H fd = some (.dK kvs)) (k : Kept fd H H') (t : TK H H') : RowsArg K H' rl ws cs :=
  ⟨k _ _ (ne_of h.1 hfd (by intro z; cases z)) h.1, rows_tk t (cs_due cok) h.2.1, h.2.2⟩
def spDue (K : PySem.W.Frag) (m : Nat) : Sp := fun vs H Q _ => ∃ (rl : Addr) (n : Str) (ov : V) (b : Bool) (fd : Addr) (ws : List V) (cs : List (SR Str)) (own : List Int) (kvs : List (Key × V)) (done : List (Str × List Int × Bool)),
  vs = [.ref rl, .str n, ov, .bl b, .ref fd] ∧ RowsArg K H rl ws cs ∧ OkS ("" : Str) cs ∧ AskOk cs ∧ CsOk cs ∧ (n = ("" : Str) ∨ ∃ r ∈ cs, r.nm = n) ∧ SetAt K H ov own ∧ Rise own ∧ own ≠ [] ∧ own.length ≤ 64 ∧ cs.length + 1 ≤ rank ("" : Str) cs n + m ∧ H fd = some (.dK kvs) ∧ Paired (DueR K H) kvs done ∧
  ((done ++ dueS cs m n own b).map (·.1)).Nodup ∧ (done ++ dueS cs m n own b).length ≤ 900 ∧
  ∀ H' kvs', Kept fd H H' → TK H H' → H' fd = some (.dK kvs') → Paired (DueR K H') kvs' (done ++ dueS cs m n own b) → Q (.ref fd) H'
theorem rCat_go {K : PySem.W.Frag} {G : Hp} {Q : VK} {a b : Addr} {xs ys : List Int} (ha : SqT K G a (xs.map V.int)) (hb : SqT K G b (ys.map V.int)) (len : xs.length + ys.length ≤ 1000) (q : ∀ p G', Same G G' → SqT K G' p ((xs ++ ys).map V.int) → Q (.ref p) G') : rCatA K (.ref a) (.ref b) G Q := by
  refine ⟨a, b, _, _, rfl, rfl, ha, hb, ?_, fun e => ?_, fun _ e => ?_, fun _ _ p hp => ?_⟩
  · rw [List.length_map, List.length_map]
    exact Nat.le_of_lt (small1000 len)
  · have e := List.map_eq_nil_iff.mp e
    subst e
    exact q b G (Same.refl G) hb
  · have e := List.map_eq_nil_iff.mp e
    subst e
    refine q a G (Same.refl G) ?_
    rw [List.append_nil]
    exact ha
  · refine q p _ (Same.new (Same.refl G) hp _) (SqT.of ?_)
    rw [List.map_append]
    exact upd_same
theorem q_tupL {K : PySem.W.Frag} {σ : L2.St} {H : Hp} {te : TE} {D : Ends} {tz : TS} {i : Nat} {xs : List V} (h : EvL te σ H xs) (k : ∀ p H1, Same H H1 → SqT K H1 p xs → tz D (σ.set i (some (.ref p))) H1) :
    tSeq (tAsg (tCB (fun xs H Q => ∃ p ys, xs = [.ref p] ∧ ((SqL K H p ys ∧ ∀ l, H l = none → Q (.ref l) (upd H l (.tup ys))) ∨ (SqT K H p ys ∧ Q (.ref p) H))) (tCons te tNil)) (gName i)) tz D σ H :=
  h H (Ex.refl H) _ fun p H1 _ e f => ⟨p, xs, rfl, .inl ⟨SqL.of f, fun l hl => k l _ (Same.trans e (Same.new (Same.refl H1) hl _)) (SqT.of upd_same)⟩⟩
theorem eqv_intN (xs : List Int) : PyData.eqv (.tuple (xs.map .int)) (.tuple []) = decide (xs = []) := eqv_intT xs []
theorem mine_ok {cs : List (SR Str)} (asks : AskOk cs) (cok : CsOk cs) {n : Str} {own : List Int} {p : List Str × List Int} (pk : PickOk (kidsS cs n) own p) (hrise : Rise own) (hol : own.length ≤ 64) (nd : (cs.map (·.nm)).Nodup) {c : SR Str} (hc : c ∈ kidsS cs n) :
    Rise (mineS p c) ∧ mineS p c ≠ [] ∧ (mineS p c).length ≤ 64 := by
  have hcm := (mem_kids.mp hc).1
  unfold mineS
  by_cases e : c.nm ∈ p.1
  · rw [if_pos (decide_eq_true e)]
    obtain ⟨r, hr, e1, _, a, e2, e3, _⟩ := pk.sub _ e
    have hrm := (mem_kids.mp hr).1
    have : r = c := by
      obtain ⟨i, hi⟩ := List.mem_iff_getElem?.mp hrm
      obtain ⟨j, hj⟩ := List.mem_iff_getElem?.mp hcm
      obtain ⟨l1, z1⟩ := List.getElem?_eq_some_iff.mp hi
      obtain ⟨l2, z2⟩ := List.getElem?_eq_some_iff.mp hj
      have := (List.getElem_inj nd (h₀ := by rw [List.length_map]; exact l1) (h₁ := by rw [List.length_map]; exact l2)).mp (by rw [List.getElem_map, List.getElem_map, z1, z2, e1])
      subst this
      rw [z1] at z2
      exact z2
    subst this
    rw [e2]
    exact ⟨asks _ hcm a e2, e3, (cok.ask _ hcm a e2).2⟩
  · rw [if_neg (by simpa using e)]
    have fl : p.2.length ≤ 64 := Nat.le_trans (rise_len pk.rise hrise fun x hx => ((pk.left x).mp hx).1) hol
    unfold sharedS
    split
    · exact ⟨pk.rise, pk.ne, fl⟩
    · next h => exact ⟨pk.rise.filter _, fun z => h (by rw [z]; rfl), Nat.le_trans (List.length_filter_le _ _) fl⟩
section
variable {P : Program} {w : World} {K : PySem.W.Frag} {mg : Str → Option Value} {base : Heap} {aL C CN CW : Addr} {left : List (Key × V)}
theorem ok_due0 {f : Addr} {fd : FuncData} (F : Fun K "_law_due" "_law_due" sLDue f fd) : FnOk P w K mg base CX0 3 f fd ["_law_rows", "_law_name", "_law_own", "_law_is_alone", "_law_found"] (spDue K 0) := by
  have no : ∀ {vs H Q E}, spDue K 0 vs H Q E → False := by
    rintro vs H Q E ⟨rl, n, ov, b, d, ws, cs, own, kvs, done, _, _, ok, _, _, hn, _, _, _, _, h, _⟩
    rcases hn with e | ⟨r, hr, e⟩
    · rw [e, rank_root] at h
      omega
    · have := rank_le ok hr
      rw [e] at this
      omega
  exact F.ok scLDue (fun vs H Q E h => (no h).elim) fun cdv A outer s H vs Q E hr h => (no h).elim
theorem ok_dueS {f g h : Addr} {fd gd hd : FuncData} {m : Nat} (F : Fun K "_law_due" "_law_due" sLDue f fd) (T : TA mg) (cA : Cal P w K mg base "_law_asks" ["_law_rows", "_law_name"] 1 (spAsks K) g gd) (cAl : Cal P w K mg base "_law_alone" ["_law_rows", "_law_name", "_law_own", "_law_is_alone"] 2 (spAlone K) h hd)
    (cD : Cal P w K mg base "_law_due" ["_law_rows", "_law_name", "_law_own", "_law_is_alone", "_law_found"] (m + 3) (spDue K m) f fd) : FnOk P w K mg base CX0 (m + 4) f fd ["_law_rows", "_law_name", "_law_own", "_law_is_alone", "_law_found"] (spDue K (m + 1)) := by
  refine F.ok scLDue (fun vs H Q E h => ?_) (fun cdv A outer s H vs Q E hr h => ?_)
  · obtain ⟨rl, n, ov, b, d, ws, cs, own, kvs, done, rfl, _⟩ := h
    rfl
  obtain ⟨rl, n, _, b, d, ws, cs, own, kvs, done, rfl, ra, ok, asks, cok, hn, ⟨oa, rfl, hown⟩, hrise, hne, hol, hrank, hd0, hkv, hnd, hlen, q⟩ := h
  have hu := hu_of hr
  refine ⟨_, (pss_cons (ps_asg (pe_tup (pa_cons (pe_call cAl.ok (hr.mono (by omega)) rfl cAl.mg cAl.kp cAl.bd .nil pass0 (pa_cons (pv 0) (pa_cons (pv 1) (pa_cons (pv 2) (pa_cons (pv 3) pa_nil))))) (pa_cons (pe_tup pa_nil) pa_nil))) (pg_tup (by rfl) (pgs_cons (pg_name (i := 5) scLDue.nd rfl (Or.inl rfl)) (pgs_cons (pg_name (i := 6) scLDue.nd rfl (Or.inr rfl)) pgs_nil)))) (pss_cons (ps_for PassesOwn.never rfl (pi_list (pv 5)) (pg_name (i := 7) scLDue.nd rfl (Or.inl rfl)) (pss_one (ps_set (i := 6) scLDue.nd rfl (Or.inr rfl) (pe_op op_catA (pv 6) (pe_ix ix_tup (pe_call cA.ok (hr.mono (by omega)) rfl cA.mg cA.kp cA.bd .nil pass0 (pa_cons (pv 0) (pa_cons (pv 7) pa_nil))) pe_int (fun _ _ => rfl)))))) (pss_cons (ps_set (i := 8) scLDue.nd rfl (Or.inl rfl) (pe_callTy call_tuple_of (by rfl) T.z_tuple (by decide +kernel) (pa_cons (pe_lc (own := [("_law_one_here", 12)]) (g := gName 12) (tt := tTest (tOp (rIn K true) (tVar 12) (tVar 6))) (te := (tVar 12)) rfl scLDue.nd (pi_tup (pv 2)) (blkOk_by (own := [("_law_one_here", 12)]) (N := ["_law_rows", "_law_name", "_law_own", "_law_is_alone", "_law_found", "_law_chosen", "_law_taken", "_law_child", "_law_kept", "_law_asks_here", "_law_mine", "_law_row", "_law_one_here"]) (sc := defScope sLDue) (by decide +kernel)) (fun _ _ _ _ _ => (pg_name (i := 12) scLDue.nd rfl (Or.inl rfl))) (fun _ _ _ _ _ => (pts_one (pt_cmpR op_notIn_seq (pv 12) (pv 6) (by first | exact nomark _ | rfl)))) (fun _ _ _ _ _ => (pv 12))) pa_nil))) (pss_cons (ps_for PassesOwn.never rfl (pi_list (pe_lc (own := [("_law_row", 11)]) (g := gName 11) (tt := tTest (tOp rEq (tOp (rIxT K) (tVar 11) (tC (.int 1))) (tVar 1))) (te := (tOp (rIxT K) (tVar 11) (tC (.int 0)))) rfl scLDue.nd (pi_list (pv 0)) (blkOk_by (own := [("_law_row", 11)]) (N := ["_law_rows", "_law_name", "_law_own", "_law_is_alone", "_law_found", "_law_chosen", "_law_taken", "_law_child", "_law_kept", "_law_asks_here", "_law_mine", "_law_row", "_law_one_here"]) (sc := defScope sLDue) (by decide +kernel)) (fun _ _ _ _ _ => (pg_name (i := 11) scLDue.nd rfl (Or.inl rfl))) (fun _ _ _ _ _ => (pts_one (pt_cmpR op_eq (pe_ix ix_tup (pv 11) pe_int (fun _ _ => rfl)) (pv 1) (nomark _)))) (fun _ _ _ _ _ => (pe_ix ix_tup (pv 11) pe_int (fun _ _ => rfl))))) (pg_name (i := 7) scLDue.nd rfl (Or.inl rfl)) (pss_cons (ps_set (i := 9) scLDue.nd rfl (Or.inr rfl) (pe_ix ix_tup (pe_call cA.ok (hr.mono (by omega)) rfl cA.mg cA.kp cA.bd .nil pass0 (pa_cons (pv 0) (pa_cons (pv 7) pa_nil))) pe_int (fun _ _ => rfl))) (pss_cons (ps_set (i := 10) scLDue.nd rfl (Or.inl rfl) (pe_callTy call_tuple_of (by rfl) T.z_tuple (by decide +kernel) (pa_cons (pe_lc (own := [("_law_one_here", 12)]) (g := gName 12) (tt := tAnd (tTest (tOp (fun x y H Q => y = V.non ∧ Q (.bl (!decide (x = .non))) H) (tVar 9) (tC .non))) (tTest (tOp (rIn K false) (tVar 12) (tVar 9)))) (te := (tVar 12)) rfl scLDue.nd (pi_tup (pv 8)) (blkOk_by (own := [("_law_one_here", 12)]) (N := ["_law_rows", "_law_name", "_law_own", "_law_is_alone", "_law_found", "_law_chosen", "_law_taken", "_law_child", "_law_kept", "_law_asks_here", "_law_mine", "_law_row", "_law_one_here"]) (sc := defScope sLDue) (by decide +kernel)) (fun _ _ _ _ _ => (pg_name (i := 12) scLDue.nd rfl (Or.inl rfl))) (fun _ _ _ _ _ => (pts_one (PW.pt (pw_and (pt_cmpR op_notN (pv 9) pe_non (nomark _)) (pw_and1 (pt_cmpR op_in_seq (pv 12) (pv 9) (by first | exact nomark _ | rfl))))))) (fun _ _ _ _ _ => (pv 12))) pa_nil))) (pss_cons (ps_set (i := 10) scLDue.nd rfl (Or.inl rfl) (pe_ifExp (pt_cmpR op_in_seq (pv 7) (pv 5) (by first | exact nomark _ | rfl)) (pv 9) (pe_ifExp (pt_cmpR (op_eqD hr.units) (pv 10) (pe_tup pa_nil) (nomark _)) (pv 8) (pv 10)))) (pss_cons (ps_dput hu (pv 4) (pv 7) (pe_tup (pa_cons (pv 10) (pa_cons (pe_cmpR op_in_seq (pv 7) (pv 5) (by first | exact nomark _ | rfl)) pa_nil))) rfl) (pss_one (ps_expr (pe_call cD.ok (hr.mono (by omega)) rfl cD.mg cD.kp cD.bd .nil pass0 (pa_cons (pv 0) (pa_cons (pv 7) (pa_cons (pv 10) (pa_cons (pe_cmpR op_in_seq (pv 7) (pv 5) (by first | exact nomark _ | rfl)) (pa_cons (pv 4) pa_nil))))))))))))) (pss_one (ps_ret (pv 4))))))), ?_⟩
  have nd := ok.1
  have knd := kids_nd nd n
  have pk := pick_ok hrise hne knd b
  have len := ra.2.2
  -- those that stand alone
  refine ⟨_, rfl, _, rfl, _, rfl, _, rfl, rl, n, _, b, ws, cs, own, rfl, ra, nd, asks, ⟨oa, rfl, hown⟩, hrise, hol, fun cl H1 hcl s1 ecl => ?_⟩
  refine ⟨Nat.zero_le _, fun t0 ht0 => ⟨by show 2 ≤ sizeLine; decide, fun tp htp => ?_⟩⟩
  have s2 := Same.new (Same.refl H1) ht0 (.tup [])
  have s3 := Same.new (Same.refl (upd H1 t0 (.tup []))) htp (.tup [.ref cl, .ref t0])
  have f0 : upd (upd H1 t0 (.tup [])) tp (.tup [.ref cl, .ref t0]) t0 = some (.tup []) := s3 _ _ upd_same
  have fp : upd (upd H1 t0 (.tup [])) tp (.tup [.ref cl, .ref t0]) tp = some (.tup [.ref cl, .ref t0]) := upd_same
  have s13 := s2.trans s3
  generalize upd (upd H1 t0 (.tup [])) tp (.tup [.ref cl, .ref t0]) = H3 at s13 f0 fp ⊢
  refine ⟨tp, _, rfl, SqT.of fp, rfl, _, _, rfl, _, _, rfl, rfl, ?_⟩
  have sH := s1.trans s13
  have ecl := s13 _ _ ecl
  generalize hp : pick b (kidsS cs n) own = p at pk ecl
  have hsub := pk.sub
  have chl : p.1.length ≤ 900 := by
    rw [← hp]
    have key : ∀ (ks : List (SR Str)) (s : List Str × List Int), (ks.foldl pStep s).1.length ≤ s.1.length + ks.length := by
      intro ks
      induction ks with
      | nil => exact fun s => Nat.le_refl _
      | cons k ks ih =>
        intro s
        refine Nat.le_trans (ih (pStep s k)) ?_
        unfold pStep
        split
        · rw [List.length_append, List.length_singleton, List.length_cons]
          omega
        · rw [List.length_cons]
          omega
    have kl : (kidsS cs n).length ≤ 12 := Nat.le_trans (List.length_filter_le _ _) len
    unfold pick
    split
    · have := key (kidsS cs n) ([], own)
      simp at this
      omega
    · exact Nat.zero_le _
  have chl12 : p.1.length ≤ 12 := by
    rw [← hp]
    have key : ∀ (ks : List (SR Str)) (s : List Str × List Int), (ks.foldl pStep s).1.length ≤ s.1.length + ks.length := by
      intro ks
      induction ks with
      | nil => exact fun s => Nat.le_refl _
      | cons k ks ih =>
        intro s
        refine Nat.le_trans (ih (pStep s k)) ?_
        unfold pStep
        split
        · rw [List.length_append, List.length_singleton, List.length_cons]
          omega
        · rw [List.length_cons]
          omega
    have kl : (kidsS cs n).length ≤ 12 := Nat.le_trans (List.length_filter_le _ _) len
    unfold pick
    split
    · have := key (kidsS cs n) ([], own)
      simp at this
      omega
    · exact Nat.zero_le _
  dsimp only
  -- what they take
  refine q_forLn (ev_var rfl) (SqL.of ecl) (fun i σ G => ∃ (ta : Addr) (tk : List Int) (o7 o8 o9 o10 o11 o12 : Option V), σ = [some (.ref rl), some (.str n), some (.ref oa), some (.bl b), some (.ref d), some (.ref cl), some (.ref ta), o7, o8, o9, o10, o11, o12] ∧ Same H3 G ∧ SqT K G ta (tk.map V.int) ∧ tk.length ≤ 64 * i ∧
      ∀ x, x ∈ tk ↔ ∃ c ∈ kidsS cs n, c.nm ∈ p.1.take i ∧ x ∈ c.ask.getD []) (fun G s => ⟨t0, [], _, _, _, _, _, _, rfl, s, SqT.of (s _ _ f0), Nat.zero_le _, fun x => ⟨fun z => by simp at z, fun ⟨_, _, z, _⟩ => by simp at z⟩⟩) ?_ ?_ ?_
  · rintro i σ G _ ⟨_, _, _, _, _, _, _, _, rfl, s, _⟩
    exact SqL.of (s _ _ ecl)
  · rintro i x σ G hx ⟨ta, tk, o7, o8, o9, o10, o11, o12, rfl, sG, hta, htl, hmem⟩
    rw [List.getElem?_map] at hx
    obtain ⟨y, hy, rfl⟩ := Option.map_eq_some_iff.mp hx
    have hyi : i < 12 := by
      have := (List.getElem?_eq_some_iff.mp hy).1
      omega
    obtain ⟨c, hc, rfl, _, a, ea, _⟩ := hsub y (List.mem_of_getElem? hy)
    have hcm := (mem_kids.mp hc).1
    refine ⟨_, rfl, _, rfl, _, rfl, rl, ws, cs, c, rfl, ra.same (sH.trans sG), nd, hcm, fun t u G1 s4 ht hu => ⟨t, _, 0, _, rfl, rfl, ht, rfl, ?_⟩⟩
    rcases hu with ⟨e, _⟩ | ⟨a', e, aa, rfl, hs⟩
    · rw [e] at ea
      cases ea
    have : a' = a := by rw [e] at ea; exact Option.some.inj ea
    subst this
    have al := (cok.ask _ hcm _ e).2
    refine rCat_go (ex_t s4 hta) hs (by omega) fun pp G2 s5 hpp => ⟨pp, _, _, _, _, _, _, _, rfl, (sG.trans s4).trans s5, hpp, by rw [List.length_append]; omega, fun x => ?_⟩
    rw [List.mem_append, hmem, List.take_add_one, hy]
    constructor
    · rintro (⟨c', h1, h2, h3⟩ | h)
      · exact ⟨c', h1, List.mem_append_left _ h2, h3⟩
      · exact ⟨c, hc, List.mem_append_right _ List.mem_cons_self, by rw [e]; exact h⟩
    · rintro ⟨c', h1, h2, h3⟩
      rcases List.mem_append.mp h2 with h2 | h2
      · exact .inl ⟨c', h1, h2, h3⟩
      · have e1 : c'.nm = c.nm := List.mem_singleton.mp h2
        have : c' = c := ok.uniq (mem_kids.mp h1).1 hcm e1
        rw [this, e] at h3
        exact .inr h3
  rintro σ G ⟨ta, tk, o7, o8, o9, o10, o11, o12, rfl, sG, hta, htl, hmem⟩
  rw [List.length_map, List.take_length] at hmem
  rw [List.length_map] at htl
  have s0 := sH.trans sG
  have hown := ex_t s0 hown
  -- what is left
  refine q_tupL (lcT (K := K) own (fun x => !decide (x ∈ tk)) V.int (ev_var rfl) hown (by rw [List.length_map]) (by omega) (fun _ => rfl) (fun j x y G3 e hx hy => ?_) fun j x y G3 e hx hy _ => ?_) fun ka G1 s4 hka => ?_
  · rw [List.getElem?_map, hy] at hx
    cases hx
    refine et_test (ev_is (ev_op (ev_var rfl) (ev_var rfl) (rv_niT (ex_t e hta) rfl (flat_ints _))) ?_)
    rw [in_ints]
  · rw [List.getElem?_map, hy] at hx
    cases hx
    exact ev_var rfl
  have ek : (own.filter fun x => !decide (x ∈ tk)) = p.2 := Rise.ext (hrise.filter _) pk.rise fun x => by
    rw [List.mem_filter, pk.left]
    refine and_congr_right fun _ => ?_
    rw [Bool.not_eq_true', decide_eq_false_iff_not, hmem]
    constructor
    · exact fun h r hr hm hx => h ⟨r, hr, hm, hx⟩
    · rintro h ⟨r, hr, hm, hx⟩
      exact h r hr hm hx
  rw [ek] at hka
  have p2l : p.2.length ≤ 64 := Nat.le_trans (rise_len pk.rise hrise fun x hx => ((pk.left x).mp hx).1) hol
  have ecl := s4 _ _ (sG _ _ ecl)
  have s0 := s0.trans s4
  have ra1 := ra.same s0
  have hd1 := s0 _ _ hd0
  have hkv1 := paired_mono (fun _ _ z => DueR.tk (.of s0) z) hkv
  clear s4 s13 sH sG hta s2 s3 s1 hown f0 fp
  -- each child in turn
  let Fc : SR Str → List (Str × List Int × Bool) := fun c => (c.nm, mineS p c, decide (c.nm ∈ p.1)) :: dueS cs m c.nm (mineS p c) (decide (c.nm ∈ p.1))
  have eD : dueS cs (m + 1) n own b = (kidsS cs n).flatMap Fc := by
    rw [dueS, hp]
  have eStep : ∀ {i : Nat} {c : SR Str}, (kidsS cs n)[i]? = some c → ((kidsS cs n).take (i + 1)).flatMap Fc = ((kidsS cs n).take i).flatMap Fc ++ Fc c := fun {i c} h => by
    rw [List.take_add_one, h, List.flatMap_append]
    simp
  have eSub : ∀ i, (((kidsS cs n).take i).flatMap Fc).Sublist ((kidsS cs n).flatMap Fc) := fun i => by
    have : (kidsS cs n).flatMap Fc = ((kidsS cs n).take i).flatMap Fc ++ ((kidsS cs n).drop i).flatMap Fc := by
      rw [← List.flatMap_append, List.take_append_drop]
    rw [this]
    exact List.sublist_append_left _ _
  rw [eD] at hnd hlen q
  have kn : (kidsS cs n).length ≤ 12 := Nat.le_trans (List.length_filter_le _ _) len
  refine q_forNLn (xs := (kidsS cs n).map fun (c : SR Str) => V.str c.nm) (kids_ev (ev_var rfl) ra1 (fun _ => rfl) (fun _ => rfl) (fun _ => rfl))
    (fun l i σ G => ∃ (o6 o7 o9 o10 o11 o12 : Option V) (kv : List (Key × V)), σ = [some (.ref rl), some (.str n), some (.ref oa), some (.bl b), some (.ref d), some (.ref cl), o6, o7, some (.ref ka), o9, o10, o11, o12] ∧ Kept d G1 G ∧ TK G1 G ∧ G d = some (.dK kv) ∧ Paired (DueR K G) kv (done ++ ((kidsS cs n).take i).flatMap Fc) ∧
      G l = some (.lst ((kidsS cs n).map fun (c : SR Str) => V.str c.nm)))
    (fun l G hl e hG => ⟨_, _, _, _, _, _, kvs, rfl, Kept.of e, .of e, e _ _ hd1, by rw [List.take_zero, List.flatMap_nil, List.append_nil]; exact paired_mono (fun _ _ z => DueR.tk (.of e) z) hkv1, hG⟩) ?_ ?_ ?_
  · rintro l i σ G _ ⟨_, _, _, _, _, _, _, rfl, _, _, _, _, e⟩
    exact SqL.of e
  · rintro l i x σ G hx ⟨o6, o7, o9, o10, o11, o12, kv, rfl, kG, tG, dG, pG, lG⟩
    rw [List.getElem?_map] at hx
    obtain ⟨c, hc, rfl⟩ := Option.map_eq_some_iff.mp hx
    have hck := List.mem_of_getElem? hc
    obtain ⟨hcm, hcu⟩ := mem_kids.mp hck
    obtain ⟨m1, m2, m3⟩ := mine_ok asks cok pk hrise hol nd hck
    have raG := ra1.tk cok hd1 kG tG
    have kaG := tG.seqT hka
    have clG := kG _ _ (ne_of ecl hd1 (by intro z; cases z)) ecl
    -- what it asks for
    refine ⟨_, rfl, _, rfl, rl, ws, cs, c, rfl, raG, nd, hcm, fun t u G2 s4 ht hu => ⟨t, _, 0, _, rfl, rfl, ht, rfl, ?_⟩⟩
    have hask := cok.ask c hcm
    refine q_tupL (lcT (K := K) p.2 (asksB c.ask) V.int (ev_var rfl) (ex_t s4 kaG) (by rw [List.length_map]) (by omega) (fun _ => rfl) (fun j x y G3 e hx hy => ?_) fun j x y G3 e hx hy _ => ?_) fun ma G3 s5 hma => ?_
    · rw [List.getElem?_map, hy] at hx
      cases hx
      rcases hu with ⟨ea, rfl⟩ | ⟨a, ea, aa, rfl, hs⟩
      · rw [ea]
        exact et_is (et_and (a := false) (b := false) (et_test (ev_op (x := .non) (y := .non) (ev_var rfl) ev_c fun H1 e1 Q q => ⟨rfl, q H1 (Ex.refl H1)⟩)) fun h => by cases h) rfl
      · rw [ea]
        refine et_is (et_and (a := true) (b := decide (y ∈ a)) (et_test (ev_op (x := .ref aa) (y := .non) (ev_var rfl) ev_c fun H1 e1 Q q => ⟨rfl, q H1 (Ex.refl H1)⟩)) fun _ => et_test (ev_is (ev_op (ev_var rfl) (ev_var rfl) (rv_isT (ex_t e hs) rfl (flat_ints _))) (by rw [in_ints]))) (by rw [Bool.true_and]; rfl)
    · rw [List.getElem?_map, hy] at hx
      cases hx
      exact ev_var rfl
    have s45 := s4.trans s5
    have hu := hu.same s5
    have ka3 := ex_t s45 kaG
    have cl3 := s45 _ _ clG
    have inCh : ∀ {σ : L2.St} {H : Hp}, σ[7]? = some (some (.str c.nm)) → σ[5]? = some (some (.ref cl)) → H cl = some (.lst (p.1.map .str)) → Ev (tOp (rIn K false) (tVar 7) (tVar 5)) σ H (.bl (decide (c.nm ∈ p.1))) := fun h1 h2 h3 => by
      refine ev_is (ev_op (ev_var h1) (ev_var h2) (rv_isL (SqL.of h3) rfl (flat_strs _))) ?_
      rw [in_strs]
    -- what it has
    have hmine : ∃ mv, mv = (if decide (c.nm ∈ p.1) then u else if decide (p.2.filter (asksB c.ask) = []) then V.ref ka else .ref ma) ∧ SetAt K G3 mv (mineS p c) := by
      refine ⟨_, rfl, ?_⟩
      unfold mineS
      by_cases e : c.nm ∈ p.1
      · rw [if_pos (decide_eq_true e), if_pos (decide_eq_true e)]
        rcases hu with ⟨ea, _⟩ | ⟨a, ea, hs⟩
        · obtain ⟨r, hr, e1, _, a, e2, _⟩ := hsub _ e
          have : r = c := ok.uniq (mem_kids.mp hr).1 hcm e1
          rw [this, ea] at e2
          cases e2
        · rw [ea]
          exact hs
      · rw [decide_eq_false e]
        simp only [Bool.false_eq_true, if_false]
        unfold sharedS
        cases z : p.2.filter (asksB c.ask) with
        | nil =>
          have : SetAt K G3 (.ref ka) p.2 := ⟨ka, rfl, ka3⟩
          simpa using this
        | cons y ys =>
          rw [z] at hma
          have : SetAt K G3 (.ref ma) (y :: ys) := ⟨ma, rfl, hma⟩
          simpa using this
    obtain ⟨mv, emv, hmv⟩ := hmine
    refine q_asg (v := mv) (ev_is (ev_if (b := decide (c.nm ∈ p.1)) (v := mv) (et_test (inCh rfl rfl cl3)) (fun hb => ev_is (ev_var rfl) ?_) fun hb => ev_if (b := decide (p.2.filter (asksB c.ask) = [])) (et_test (ev_opU (xs := []) (ev_var rfl) (eu_tup ea_nil (Nat.zero_le _)) fun p1 H4 h4 e4 => ?_)) (fun hb2 => ev_is (ev_var rfl) ?_) fun hb2 => ev_is (ev_var rfl) ?_) rfl) fun G4 s6 => ?_
    · rw [emv, hb]
      rfl
    · have := rv_eqD (K := K) (H := H4) (x := .ref ma) (y := .ref p1) (d := .tuple ((p.2.filter (asksB c.ask)).map .int)) (e := .tuple (([] : List Int).map .int)) (shaped_ints _) (shaped_ints _) fun H5 e5 => ⟨.tup (ex_t (Same.trans e4 e5) hma) (dp_ofints _), .tup (SqT.of (e5 _ _ h4)) .nil⟩
      rw [eqv_intT] at this
      exact this
    · rw [emv, hb, hb2]
      rfl
    · rw [emv, hb, hb2]
      rfl
    have s46 := s45.trans s6
    have hmv := hmv.same s6
    have cl4 := s6 _ _ cl3
    -- told
    unfold sDPut
    dsimp only [tSeq]
    refine eu_tup (σ := [some (.ref rl), some (.str n), some (.ref oa), some (.bl b), some (.ref d), some (.ref cl), o6, some (.str c.nm), some (.ref ka), some u, some mv, o11, o12]) (ea_cons (ev_var (i := 10) rfl) (ea_cons (inCh rfl rfl cl4) ea_nil)) (by show 2 ≤ 100000; decide) G4 (Ex.refl G4) _ fun tp G5 htp s7 ftp => ?_
    have s47 := s46.trans s7
    have d5 := s47 _ _ dG
    have pG5 := paired_mono (fun _ _ z => DueR.tk (.of s47) z) pG
    have ndi : ((done ++ ((kidsS cs n).take (i + 1)).flatMap Fc).map (·.1)).Nodup := hnd.sublist (List.Sublist.map _ (List.Sublist.append_left (eSub _) _))
    rw [eStep hc] at ndi
    have hleni : (done ++ ((kidsS cs n).take (i + 1)).flatMap Fc).length ≤ 900 := Nat.le_trans (List.Sublist.length_le (List.Sublist.append_left (eSub _) _)) hlen
    rw [eStep hc] at hleni
    have kvl : kv.length ≤ 900 := by
      rw [Paired.length pG]
      rw [List.length_append] at hleni ⊢
      rw [List.length_append] at hleni
      omega
    have hnew : valV kv (Sum.inr c.nm) = none := keys_none fun mm => by
      rw [due_keys pG5] at mm
      obtain ⟨z, hz, e⟩ := List.mem_map.mp mm
      have e : z.1 = c.nm := Sum.inr.inj e
      rw [← List.append_assoc, List.map_append, List.nodup_append] at ndi
      exact ndi.2.2 z.1 (List.mem_map_of_mem hz) c.nm (by rw [List.map_cons]; exact List.mem_cons_self) e
    refine ⟨_, rfl, _, rfl, d, _, rfl, DPut.k (k := Sum.inr c.nm) d5 (small1000 (by omega)), ?_⟩
    rw [putK_new _ hnew]
    have t7 : TK G5 (upd G5 d (.dK (kv ++ [(Sum.inr c.nm, .ref tp)]))) := TK.dk d5 _
    have k7 : Kept d G5 (upd G5 d (.dK (kv ++ [(Sum.inr c.nm, .ref tp)]))) := (Kept.refl d G5).upd _
    have d7 : upd G5 d (.dK (kv ++ [(Sum.inr c.nm, .ref tp)])) d = some (.dK (kv ++ [(Sum.inr c.nm, .ref tp)])) := upd_same
    have p7 : Paired (DueR K (upd G5 d (.dK (kv ++ [(Sum.inr c.nm, .ref tp)])))) (kv ++ [(Sum.inr c.nm, .ref tp)]) (done ++ ((kidsS cs n).take i).flatMap Fc ++ [(c.nm, mineS p c, decide (c.nm ∈ p.1))]) :=
      paired_snoc ⟨rfl, tp, mv, rfl, t7.seqT (SqT.of ftp), (hmv.same s7).tk t7, m3⟩ (paired_mono (fun _ _ z => DueR.tk t7 z) pG5)
    have kG7 : Kept d G (upd G5 d (.dK (kv ++ [(Sum.inr c.nm, .ref tp)]))) := (Kept.of s47).trans k7
    have tG7 : TK G (upd G5 d (.dK (kv ++ [(Sum.inr c.nm, .ref tp)]))) := (TK.of s47).trans t7
    have hmv7 := (hmv.same s7).tk t7
    have ncl : cl ≠ d := ne_of ecl hd1 (by intro z; cases z)
    have nl : l ≠ d := ne_of lG dG (by intro z; cases z)
    have cl7 := kG7 _ _ ncl clG
    generalize upd G5 d (.dK (kv ++ [(Sum.inr c.nm, .ref tp)])) = G7 at t7 k7 d7 p7 kG7 tG7 hmv7 cl7 ⊢
    have ra7 := raG.tk cok dG kG7 tG7
    -- and all below
    unfold tDrop tCall
    dsimp only
    refine (ea_cons (σ := [some (.ref rl), some (.str n), some (.ref oa), some (.bl b), some (.ref d), some (.ref cl), o6, some (.str c.nm), some (.ref ka), some u, some mv, o11, o12]) (ev_var (i := 0) rfl) (ea_cons (ev_var (i := 7) rfl) (ea_cons (ev_var (i := 10) rfl) (ea_cons (inCh rfl rfl cl7) (ea_cons (ev_var (i := 4) rfl) ea_nil))))) G7 (Ex.refl G7) _ fun G8 s8 => ?_
    have eF : done ++ ((kidsS cs n).take i).flatMap Fc ++ [(c.nm, mineS p c, decide (c.nm ∈ p.1))] ++ dueS cs m c.nm (mineS p c) (decide (c.nm ∈ p.1)) = done ++ (((kidsS cs n).take i).flatMap Fc ++ Fc c) := by
      simp [Fc]
    have hrk := rank_up ok hcm
    rw [hcu] at hrk
    refine ⟨rl, c.nm, mv, decide (c.nm ∈ p.1), d, ws, cs, mineS p c, _, _, rfl, ra7.same s8, ok, asks, cok, .inr ⟨c, hcm, rfl⟩, hmv7.same s8, m1, m2, m3, by omega, s8 _ _ d7, paired_mono (fun _ _ z => DueR.tk (.of s8) z) p7, by rw [eF]; exact ndi, by rw [eF]; exact hleni, fun G9 kv9 k9 t9 d9 p9 => ?_⟩
    rw [eF, ← eStep hc] at p9
    have kall := (kG7.trans (Kept.of s8)).trans k9
    have tall := (tG7.trans (.of s8)).trans t9
    exact ⟨_, _, _, _, _, _, kv9, rfl, kG.trans kall, tG.trans tall, d9, p9, kall _ _ nl lG⟩
  · rintro l σ G ⟨o6, o7, o9, o10, o11, o12, kv, rfl, kG, tG, dG, pG, lG⟩
    rw [List.length_map, List.take_length] at pG
    exact ⟨_, rfl, q G kv ((Kept.of s0).trans kG) ((TK.of s0).trans tG) dG pG⟩
theorem ok_dueN {f g h : Addr} {fd gd hd : FuncData} (F : Fun K "_law_due" "_law_due" sLDue f fd) (T : TA mg) (cA : Cal P w K mg base "_law_asks" ["_law_rows", "_law_name"] 1 (spAsks K) g gd) (cAl : Cal P w K mg base "_law_alone" ["_law_rows", "_law_name", "_law_own", "_law_is_alone"] 2 (spAlone K) h hd)
    (at_ : mg "_law_due" = some (.ref f)) (kp : PySem.W.keepIn K (.ref f) = true) (bd : Binds K fd ["_law_rows", "_law_name", "_law_own", "_law_is_alone", "_law_found"] []) : ∀ m, FnOk P w K mg base CX0 (m + 3) f fd ["_law_rows", "_law_name", "_law_own", "_law_is_alone", "_law_found"] (spDue K m)
  | 0 => ok_due0 F
  | m + 1 => ok_dueS F T cA cAl ⟨ok_dueN F T cA cAl at_ kp bd m, at_, kp, bd⟩
end
end Bd
end

section
namespace Bs
section
variable {N : Type} [DecidableEq N]
/-! ### which stand alone, by pairs -/
def askC (c : SR N) : List Int := c.ask.getD []
theorem pick_true (ks : List (SR N)) (own : List Int) : pick true ks own = ks.foldl pStep ([], own) := by
  unfold pick
  rw [if_pos rfl]
theorem fold_more : ∀ (ks : List (SR N)) (s : List N × List Int), ∃ t, (ks.foldl pStep s).1 = s.1 ++ t ∧ ∀ x ∈ t, ∃ c ∈ ks, c.nm = x
  | [], s => ⟨[], by simp, fun x h => by simp at h⟩
  | k :: ks, s => by
    obtain ⟨t, h1, h2⟩ := fold_more ks (pStep s k)
    rw [List.foldl_cons, h1]
    unfold pStep
    split
    · refine ⟨k.nm :: t, by simp, fun x hx => ?_⟩
      rcases List.mem_cons.mp hx with e | hx
      · exact ⟨k, List.mem_cons_self, e.symm⟩
      · obtain ⟨c, hc, e⟩ := h2 x hx
        exact ⟨c, List.mem_cons_of_mem _ hc, e⟩
    · exact ⟨t, rfl, fun x hx => by
        obtain ⟨c, hc, e⟩ := h2 x hx
        exact ⟨c, List.mem_cons_of_mem _ hc, e⟩⟩
variable {ks : List (SR N)} {own : List Int}
theorem nm_at (nd : (ks.map (·.nm)).Nodup) {i j : Nat} {c d : SR N} (hc : ks[i]? = some c) (hd : ks[j]? = some d) (e : c.nm = d.nm) : i = j := by
  obtain ⟨l1, z1⟩ := List.getElem?_eq_some_iff.mp hc
  obtain ⟨l2, z2⟩ := List.getElem?_eq_some_iff.mp hd
  exact (List.getElem_inj nd (h₀ := by rw [List.length_map]; exact l1) (h₁ := by rw [List.length_map]; exact l2)).mp (by rw [List.getElem_map, List.getElem_map, z1, z2, e])
theorem pick_split (i : Nat) : ∃ t, (pick true ks own).1 = (pick true (ks.take i) own).1 ++ t ∧ ∀ x ∈ t, ∃ c ∈ ks.drop i, c.nm = x := by
  rw [pick_true, pick_true]
  have := fold_more (ks.drop i) ((ks.take i).foldl pStep ([], own))
  rw [← List.foldl_append, List.take_append_drop] at this
  exact this
theorem drop_at {i : Nat} {c : SR N} (h : c ∈ ks.drop i) : ∃ j, i ≤ j ∧ ks[j]? = some c := by
  obtain ⟨k, hk⟩ := List.mem_iff_getElem?.mp h
  rw [List.getElem?_drop] at hk
  exact ⟨i + k, by omega, hk⟩
theorem take_at {i : Nat} {c : SR N} (h : c ∈ ks.take i) : ∃ j, j < i ∧ ks[j]? = some c := by
  obtain ⟨k, hk⟩ := List.mem_iff_getElem?.mp h
  have lk := (List.getElem?_eq_some_iff.mp hk).1
  rw [List.length_take] at lk
  rw [List.getElem?_take_of_lt (by omega)] at hk
  exact ⟨k, by omega, hk⟩
theorem pick_take (nd : (ks.map (·.nm)).Nodup) {i : Nat} {d : SR N} (hd : d ∈ ks.take i) : d.nm ∈ (pick true ks own).1 ↔ d.nm ∈ (pick true (ks.take i) own).1 := by
  obtain ⟨t, h1, h2⟩ := pick_split (ks := ks) (own := own) i
  rw [h1, List.mem_append]
  refine ⟨fun h => h.resolve_right fun h => ?_, .inl⟩
  obtain ⟨c, hc, e⟩ := h2 _ h
  obtain ⟨j, lj, hj⟩ := drop_at hc
  obtain ⟨k, lk, hk⟩ := take_at hd
  have := nm_at nd hj hk e
  omega
theorem pick_mem {ks : List (SR N)} {x : N} (h : x ∈ (pick true ks own).1) : ∃ c ∈ ks, c.nm = x := by
  obtain ⟨t, h1, h2⟩ := fold_more ks ([], own)
  rw [pick_true, h1, List.nil_append] at h
  exact h2 x h
theorem take_snoc {i : Nat} {c : SR N} (hc : ks[i]? = some c) : ks.take (i + 1) = ks.take i ++ [c] := by
  rw [List.take_add_one, hc]
  rfl
theorem pick_next {i : Nat} {c : SR N} (hc : ks[i]? = some c) : pick true (ks.take (i + 1)) own = pStep (pick true (ks.take i) own) c := by
  rw [take_snoc hc, pick_true, pick_true, List.foldl_append]
  rfl
theorem pick_turn (nd : (ks.map (·.nm)).Nodup) {i : Nat} {c : SR N} (hc : ks[i]? = some c) : c.nm ∈ (pick true ks own).1 ↔ mayS c (pick true (ks.take i) own).2 = true := by
  have hm : c ∈ ks.take (i + 1) := by rw [take_snoc hc]; exact List.mem_append_right _ List.mem_cons_self
  rw [pick_take nd hm, pick_next hc]
  have no : c.nm ∉ (pick true (ks.take i) own).1 := fun h => by
    obtain ⟨d, hd, e⟩ := pick_mem h
    obtain ⟨j, lj, hj⟩ := take_at hd
    have := nm_at nd hj hc e
    omega
  unfold pStep
  cases z : mayS c (pick true (ks.take i) own).2 with
  | true => simp
  | false => simpa using no
/-- those ahead that stand alone -/
def ahd (ks : List (SR N)) (ch : List N) (i : Nat) : List (SR N) := (ks.take i).filter fun c => decide (c.nm ∈ ch)
theorem pick_count (nd : (ks.map (·.nm)).Nodup) (hr : Rise own) (asks : ∀ c ∈ ks, ∀ a, c.ask = some a → Rise a) : ∀ i, i ≤ ks.length → ((pick true (ks.take i) own).2.length + ((ahd ks (pick true ks own).1 i).map fun c => (askC c).length).sum = own.length) ∧ Rise (pick true (ks.take i) own).2 ∧
    ∀ x, x ∈ (pick true (ks.take i) own).2 ↔ x ∈ own ∧ ∀ c ∈ ahd ks (pick true ks own).1 i, x ∉ askC c
  | 0, _ => by
    rw [List.take_zero, pick_true]
    simp [ahd, hr]
  | i + 1, hi => by
    have hc : ks[i]? = some ks[i] := List.getElem?_eq_getElem (by omega)
    generalize ks[i] = c at hc
    obtain ⟨h1, h2, h3⟩ := pick_count nd hr asks i (by omega)
    have hcm := List.mem_of_getElem? hc
    rw [pick_next hc]
    have ea : ahd ks (pick true ks own).1 (i + 1) = ahd ks (pick true ks own).1 i ++ if decide (c.nm ∈ (pick true ks own).1) then [c] else [] := by
      unfold ahd
      rw [take_snoc hc, List.filter_append]
      congr 1
      cases e : decide (c.nm ∈ (pick true ks own).1) <;> simp [List.filter, e]
    rw [ea]
    by_cases m : c.nm ∈ (pick true ks own).1
    · rw [decide_eq_true m, if_pos rfl]
      have may := (pick_turn nd hc).mp m
      obtain ⟨_, a, e, _, sub, _⟩ := may_ask may
      have ec : askC c = a := by unfold askC; rw [e]; rfl
      unfold pStep
      rw [may, if_pos rfl]
      have eg : c.ask.getD [] = a := ec
      rw [eg]
      have l := len_sub h2.nodup (asks c hcm a e).nodup sub
      refine ⟨?_, h2.filter _, fun x => ?_⟩
      · rw [List.map_append, List.sum_append]
        show (withoutS (pick true (ks.take i) own).2 a).length + _ = _
        simp only [List.map_cons, List.map_nil, List.sum_cons, List.sum_nil, ec]
        omega
      · show x ∈ withoutS (pick true (ks.take i) own).2 a ↔ _
        rw [mem_without, h3]
        constructor
        · rintro ⟨⟨b1, b2⟩, b3⟩
          refine ⟨b1, fun d hd => ?_⟩
          rcases List.mem_append.mp hd with hd | hd
          · exact b2 d hd
          · rw [List.mem_singleton.mp hd, ec]
            exact b3
        · rintro ⟨b1, b2⟩
          exact ⟨⟨b1, fun d hd => b2 d (List.mem_append_left _ hd)⟩, by rw [← ec]; exact b2 c (List.mem_append_right _ List.mem_cons_self)⟩
    · rw [decide_eq_false m, if_neg (by decide), List.append_nil]
      have may : mayS c (pick true (ks.take i) own).2 = false := by
        cases z : mayS c (pick true (ks.take i) own).2 with
        | false => rfl
        | true => exact absurd ((pick_turn nd hc).mpr z) m
      unfold pStep
      rw [may, if_neg (by decide)]
      exact ⟨h1, h2, h3⟩
/-- whether it could stand alone, by itself and by pairs -/
def canS (c : SR N) (own : List Int) (ah : List (SR N)) : Bool := c.al && (!(askC c).isEmpty && (decide ((askC c).filter (fun x => !decide (x ∈ own)) = []) && (ah.all fun o => decide ((askC c).filter (fun x => decide (x ∈ askC o)) = [])))) && decide ((own.length : Int) - (((ah.map fun o => (askC o).length).sum : Nat) : Int) - ((askC c).length : Int) > 0)
theorem may_can (nd : (ks.map (·.nm)).Nodup) (hr : Rise own) (asks : ∀ c ∈ ks, ∀ a, c.ask = some a → Rise a) {i : Nat} {c : SR N} (hc : ks[i]? = some c) : mayS c (pick true (ks.take i) own).2 = canS c own (ahd ks (pick true ks own).1 i) := by
  have hi := (List.getElem?_eq_some_iff.mp hc).1
  obtain ⟨h1, h2, h3⟩ := pick_count nd hr asks i (by omega)
  generalize ahd ks (pick true ks own).1 i = ah at h1 h3 ⊢
  generalize (pick true (ks.take i) own).2 = free at h1 h2 h3 ⊢
  unfold mayS canS
  rw [Bool.and_assoc]
  congr 1
  cases e : c.ask with
  | none =>
    have ec : askC c = [] := by unfold askC; rw [e]; rfl
    rw [ec]
    rfl
  | some a =>
    have ec : askC c = a := by unfold askC; rw [e]; rfl
    rw [ec, Bool.and_assoc]
    dsimp only
    congr 1
    congr 1
    · rw [Bool.eq_iff_iff, Bool.and_eq_true, List.all_eq_true, List.all_eq_true, decide_eq_true_eq, List.filter_eq_nil_iff]
      constructor
      · intro h
        refine ⟨fun x hx => ?_, fun o ho => ?_⟩
        · have := (h3 x).mp (of_decide_eq_true (h x hx))
          simpa using this.1
        · rw [decide_eq_true_eq, List.filter_eq_nil_iff]
          intro x hx
          have := ((h3 x).mp (of_decide_eq_true (h x hx))).2 o ho
          simpa using this
      · rintro ⟨g1, g2⟩ x hx
        refine decide_eq_true ((h3 x).mpr ⟨by simpa using g1 x hx, fun o ho => ?_⟩)
        have := g2 o ho
        rw [decide_eq_true_eq, List.filter_eq_nil_iff] at this
        simpa using this x hx
    · rw [Bool.eq_iff_iff, decide_eq_true_eq, decide_eq_true_eq]
      omega
end
end Bs
end

section
namespace Bd
open PySem L2 Bs
open Evl hiding tCut pss_cut
structure TU (mg : Str → Option Value) : Prop where
  z_sum : mg "sum" = none
def spPairs (K : PySem.W.Frag) : Sp := fun vs H Q _ => ∃ (rl cl : Addr) (n : Str) (ov : V) (ws : List V) (cs : List (SR Str)) (own : List Int) (ch : List Str), vs = [.ref rl, .str n, ov, .ref cl] ∧ RowsArg K H rl ws cs ∧ OkS ("" : Str) cs ∧ AskOk cs ∧ CsOk cs ∧ SetAt K H ov own ∧ Rise own ∧ own.length ≤ 64 ∧
  H cl = some (.lst (ch.map .str)) ∧ (∀ c ∈ kidsS cs n, c.nm ∈ ch ↔ c.nm ∈ (pick true (kidsS cs n) own).1) ∧ ∀ H', Same H H' → Q (.bl true) H'
theorem ne_ask (c : SR Str) : neAsk c.ask = !(askC c).isEmpty := by
  unfold askC
  cases c.ask <;> rfl
theorem cut_take {α : Type} (xs : List α) (f : α → V) {i : Nat} (h : i ≤ xs.length) : cutV (xs.map f) none (some (i : Int)) = (xs.take i).map f := by
  unfold cutV
  rw [HT.sIx_none, HT.sIx_nat, List.length_map, Nat.min_eq_left h, List.drop_zero, Nat.sub_zero, List.map_take]
theorem sum_nat {α : Type} (f : α → Nat) : ∀ xs : List α, (xs.map fun x => ((f x : Nat) : Int)).sum = (((xs.map f).sum : Nat) : Int)
  | [] => rfl
  | x :: xs => by
    rw [List.map_cons, List.map_cons, List.sum_cons, List.sum_cons, sum_nat f xs]
    omega
section
variable {K : PySem.W.Frag} {H : Hp} {σ : L2.St}
theorem ev_orS {ta : TE} {aa : Addr} {a : List Int} (h : Ev ta σ H (.ref aa)) (hs : SqT K H aa (a.map V.int)) (ne : a ≠ []) : Ev (tOrT K ta (tTup tNil)) σ H (.ref aa) := fun H1 e Q q =>
  h H1 e _ fun H2 e2 => by
    cases a with
    | nil => exact absurd rfl ne
    | cons z zs => exact ⟨true, .inr (.inl ⟨_, ex_t (Same.trans e e2) hs, rfl⟩), iteT (q H2 e2)⟩
theorem ask0 {tl tn : TE} {rl : Addr} {ws : List V} {cs : List (SR Str)} {c : SR Str} (hl : Ev tl σ H (.ref rl)) (hn : Ev tn σ H (.str c.nm)) (ra : RowsArg K H rl ws cs) (nd : (cs.map (·.nm)).Nodup) (hc : c ∈ cs) {H1 : Hp} (e : Ex H H1) {φ : VK} (k : ∀ u G, Same H1 G → AskV K G u c.ask → φ u G) :
    (tOp (rIxT K) (tCall (spAsks K) [] E0 (tCons tl (tCons tn tNil))) (tC (.int 0))) σ H1 φ :=
  hl H1 e _ fun H2 e2 => hn H2 (Same.trans e e2) _ fun H3 e3 => ⟨rl, ws, cs, c, rfl, ra.same (Same.trans e (Same.trans e2 e3)), nd, hc, fun t u G s ht hu => ⟨t, _, 0, _, rfl, rfl, ht, rfl, k u G (Same.trans (Same.trans e2 e3) s) hu⟩⟩
theorem ev_askLen {tl tn : TE} {rl : Addr} {ws : List V} {cs : List (SR Str)} {c : SR Str} {a : List Int} (hl : Ev tl σ H (.ref rl)) (hn : Ev tn σ H (.str c.nm)) (ra : RowsArg K H rl ws cs) (nd : (cs.map (·.nm)).Nodup) (hc : c ∈ cs) (ea : c.ask = some a) :
    Ev (tCB (rLenS K) (tCons (tOp (rIxT K) (tCall (spAsks K) [] E0 (tCons tl (tCons tn tNil))) (tC (.int 0))) tNil)) σ H (.int (((askC c).length : Nat) : Int)) := fun H1 e Q q =>
  ask0 hl hn ra nd hc e fun u G s hu => by
    rcases hu with ⟨z, _⟩ | ⟨a', z, aa, rfl, hs⟩
    · rw [ea] at z
      cases z
    · have : askC c = a' := by unfold askC; rw [z]; rfl
      rw [this] at q
      refine ⟨aa, _, rfl, .inr hs, ?_⟩
      rw [List.length_map]
      exact q G s
theorem ev_sum {ta : TE} {xs : List (SR Str)} (h : EvL ta σ H (xs.map fun (o : SR Str) => V.int (((askC o).length : Nat) : Int))) : Ev (tCB (rSum K) (tCons ta tNil)) σ H (.int (((xs.map fun o => (askC o).length).sum : Nat) : Int)) := fun H1 e Q q =>
  h H1 e _ fun p H2 hp e2 f => ⟨p, xs.map fun o => (((askC o).length : Nat) : Int), rfl, SqL.of (by rw [f, List.map_map]; rfl), by rw [sum_nat]; exact q H2 e2⟩
end
section
variable {P : Program} {w : World} {K : PySem.W.Frag} {mg : Str → Option Value} {base : Heap} {aL C CN CW : Addr} {left : List (Key × V)}
theorem ok_pairs {f g : Addr} {fd gd : FuncData} (F : Fun K "_law_pairs_right" "_law_pairs_right" sLPairs f fd) (T : TA mg) (Ts : TU mg) (cA : Cal P w K mg base "_law_asks" ["_law_rows", "_law_name"] 1 (spAsks K) g gd) : FnOk P w K mg base CX0 2 f fd ["_law_rows", "_law_name", "_law_own", "_law_chosen"] (spPairs K) := by
  refine F.ok scLPairs (fun vs H Q E h => ?_) (fun cdv A outer s H vs Q E hr h => ?_)
  · obtain ⟨rl, cl, n, ov, ws, cs, own, ch, rfl, _⟩ := h
    rfl
  obtain ⟨rl, cl, n, _, ws, cs, own, ch, rfl, ra, ok, asks, cok, ⟨oa, rfl, hown⟩, hrise, hol, hcl, hch, q⟩ := h
  refine ⟨_, (pss_cons (ps_setLc (i := 4) (own := [("_law_row", 14)]) (g := gName 14) (tt := tTest (tOp rEq (tOp (rIxT K) (tVar 14) (tC (.int 1))) (tVar 1))) (te := (tOp (rIxT K) (tVar 14) (tC (.int 0)))) rfl scLPairs.nd rfl rfl (sw_true rfl rfl rfl (by decide +kernel)) (pi_list (pv 0)) (blkOk_by (own := [("_law_row", 14)]) (N := ["_law_rows", "_law_name", "_law_own", "_law_chosen", "_law_kids", "_law_at", "_law_child", "_law_asks_here", "_law_mark", "_law_ahead", "_law_can", "_law_other", "_law_theirs", "_law_taken", "_law_row", "_law_one_here"]) (sc := defScope sLPairs) (by decide +kernel)) (fun _ _ _ _ _ => (pg_name (i := 14) scLPairs.nd rfl (Or.inl rfl))) (fun _ _ _ _ _ => (pts_one (pt_cmpR op_eq (pe_ix ix_tup (pv 14) pe_int (fun _ _ => rfl)) (pv 1) (nomark _)))) (fun _ _ _ _ _ => (pe_ix ix_tup (pv 14) pe_int (fun _ _ => rfl)))) (pss_cons (ps_for PassesOwn.never rfl (pi_enum (by rfl) T.z_enumerate (pa_cons (pv 4) pa_nil)) (pg_tup (by rfl) (pgs_cons (pg_name (i := 5) scLPairs.nd rfl (Or.inl rfl)) (pgs_cons (pg_name (i := 6) scLPairs.nd rfl (Or.inl rfl)) pgs_nil))) (pss_cons (ps_asg (pe_call cA.ok (hr.mono (by decide)) rfl cA.mg cA.kp cA.bd .nil pass0 (pa_cons (pv 0) (pa_cons (pv 6) pa_nil))) (pg_tup (by rfl) (pgs_cons (pg_name (i := 7) scLPairs.nd rfl (Or.inl rfl)) (pgs_cons (pg_name (i := 8) scLPairs.nd rfl (Or.inl rfl)) pgs_nil)))) (pss_cons (ps_setLc (i := 9) (own := [("_law_one_here", 15)]) (g := gName 15) (tt := tTest (tOp (rIn K false) (tVar 15) (tVar 3))) (te := (tVar 15)) rfl scLPairs.nd rfl rfl (sw_true rfl rfl rfl (by decide +kernel)) (pi_list (pe_slice sl_list (pv 4) po_none (po_some (pv 5)))) (blkOk_by (own := [("_law_one_here", 15)]) (N := ["_law_rows", "_law_name", "_law_own", "_law_chosen", "_law_kids", "_law_at", "_law_child", "_law_asks_here", "_law_mark", "_law_ahead", "_law_can", "_law_other", "_law_theirs", "_law_taken", "_law_row", "_law_one_here"]) (sc := defScope sLPairs) (by decide +kernel)) (fun _ _ _ _ _ => (pg_name (i := 15) scLPairs.nd rfl (Or.inl rfl))) (fun _ _ _ _ _ => (pts_one (pt_cmpR op_in_seq (pv 15) (pv 3) (by first | exact nomark _ | rfl)))) (fun _ _ _ _ _ => (pv 15))) (pss_cons (ps_set (i := 10) scLPairs.nd rfl (Or.inl rfl) (pe_and (pe_cmpR op_eq (pv 8) pe_int (nomark _)) (pe_and (pe_cmpR (op_notInT (hu100 hr)) (pv 7) (pe_tup (pa_cons pe_non (pa_cons (pe_tup pa_nil) pa_nil))) (by first | exact nomark _ | rfl)) (pe_one (pe_cmpR (op_eqD hr.units) (pe_lc (own := [("_law_one_here", 15)]) (g := gName 15) (tt := tTest (tOp (rIn K true) (tVar 15) (tVar 2))) (te := (tVar 15)) rfl scLPairs.nd (pi_tup (pe_orT (pv 7) (pe_one (pe_tup pa_nil)))) (blkOk_by (own := [("_law_one_here", 15)]) (N := ["_law_rows", "_law_name", "_law_own", "_law_chosen", "_law_kids", "_law_at", "_law_child", "_law_asks_here", "_law_mark", "_law_ahead", "_law_can", "_law_other", "_law_theirs", "_law_taken", "_law_row", "_law_one_here"]) (sc := defScope sLPairs) (by decide +kernel)) (fun _ _ _ _ _ => (pg_name (i := 15) scLPairs.nd rfl (Or.inl rfl))) (fun _ _ _ _ _ => (pts_one (pt_cmpR op_notIn_seq (pv 15) (pv 2) (by first | exact nomark _ | rfl)))) (fun _ _ _ _ _ => (pv 15))) (pe_lst pa_nil) (nomark _)))))) (pss_cons (ps_for PassesOwn.never rfl (pi_list (pv 9)) (pg_name (i := 11) scLPairs.nd rfl (Or.inl rfl)) (pss_cons (ps_set (i := 12) scLPairs.nd rfl (Or.inr rfl) (pe_ix ix_tup (pe_call cA.ok (hr.mono (by decide)) rfl cA.mg cA.kp cA.bd .nil pass0 (pa_cons (pv 0) (pa_cons (pv 11) pa_nil))) pe_int (fun _ _ => rfl))) (pss_one (ps_set (i := 10) scLPairs.nd rfl (Or.inl rfl) (pe_and (pv 10) (pe_one (pe_cmpR (op_eqD hr.units) (pe_lc (own := [("_law_one_here", 15)]) (g := gName 15) (tt := tTest (tOp (rIn K false) (tVar 15) (tVar 12))) (te := (tVar 15)) rfl scLPairs.nd (pi_tup (pe_orT (pv 7) (pe_one (pe_tup pa_nil)))) (blkOk_by (own := [("_law_one_here", 15)]) (N := ["_law_rows", "_law_name", "_law_own", "_law_chosen", "_law_kids", "_law_at", "_law_child", "_law_asks_here", "_law_mark", "_law_ahead", "_law_can", "_law_other", "_law_theirs", "_law_taken", "_law_row", "_law_one_here"]) (sc := defScope sLPairs) (by decide +kernel)) (fun _ _ _ _ _ => (pg_name (i := 15) scLPairs.nd rfl (Or.inl rfl))) (fun _ _ _ _ _ => (pts_one (pt_cmpR op_in_seq (pv 15) (pv 12) (by first | exact nomark _ | rfl)))) (fun _ _ _ _ _ => (pv 15))) (pe_lst pa_nil) (nomark _)))))))) (C8.pss_cut (ps_if (pt_val (pv 10)) (pss_cons (ps_set (i := 13) scLPairs.nd rfl (Or.inl rfl) (pe_callB (cr_sum rfl) (by rfl) Ts.z_sum (by decide +kernel) (pa_cons (pe_lc (own := [("_law_other", 11)]) (g := gName 11) (tt := tYes) (te := (tCB (rLenS K) (tCons (tOp (rIxT K) (tCall (spAsks K) [] E0 (tCons (tVar 0) (tCons (tVar 11) tNil))) (tC (.int 0))) tNil))) rfl scLPairs.nd (pi_list (pv 9)) (blkOk_by (own := [("_law_other", 11)]) (N := ["_law_rows", "_law_name", "_law_own", "_law_chosen", "_law_kids", "_law_at", "_law_child", "_law_asks_here", "_law_mark", "_law_ahead", "_law_can", "_law_other", "_law_theirs", "_law_taken", "_law_row", "_law_one_here"]) (sc := defScope sLPairs) (by decide +kernel)) (fun _ _ _ _ _ => (pg_name (i := 11) scLPairs.nd rfl (Or.inl rfl))) (fun _ _ _ _ _ => pts_nil) (fun _ _ _ _ _ => (pe_callB call_len_seq (by rfl) T.z_len PySem.boot_len (pa_cons (pe_ix ix_tup (pe_call cA.ok (hr.mono (by decide)) rfl cA.mg cA.kp cA.bd .nil pass0 (pa_cons (pv 0) (pa_cons (pv 11) pa_nil))) pe_int (fun _ _ => rfl)) pa_nil)))) pa_nil))) (pss_one (ps_set (i := 10) scLPairs.nd rfl (Or.inl rfl) (pe_cmpR op_gt (pe_op op_sub (pe_op op_sub (pe_callB call_len_seq (by rfl) T.z_len PySem.boot_len (pa_cons (pv 2) pa_nil)) (pv 13)) (pe_callB call_len_seq (by rfl) T.z_len PySem.boot_len (pa_cons (pv 7) pa_nil))) pe_int (nomark _))))) pss_nil) (pss_one (ps_if (pt_cmpR op_ne (pe_cmpR op_in_seq (pv 6) (pv 3) (by first | exact nomark _ | rfl)) (pv 10) (nomark _)) (pss_one (ps_ret pe_bl)) pss_nil)))))))) (pss_one (ps_ret pe_bl)))), ?_⟩
  have nd := ok.1
  have knd := kids_nd nd n
  have len := ra.2.2
  have kn : (kidsS cs n).length ≤ 12 := Nat.le_trans (List.length_filter_le _ _) len
  have kasks : ∀ c ∈ kidsS cs n, ∀ a, c.ask = some a → Rise a := fun c hc => asks c (mem_kids.mp hc).1
  refine q_asgL (kids_ev (ev_var rfl) ra (fun _ => rfl) (fun _ => rfl) (fun _ => rfl)) fun kl H1 hkl s1 ekl => ?_
  refine ⟨_, rfl, kl, _, rfl, SqL.of ekl, for_it (walk_enum (xs := (kidsS cs n).map fun (c : SR Str) => V.str c.nm)) (fun i σ G => ∃ (o5 o6 o7 o8 o9 o10 o11 o12 o13 o14 o15 : Option V), σ = [some (.ref rl), some (.str n), some (.ref oa), some (.ref cl), some (.ref kl), o5, o6, o7, o8, o9, o10, o11, o12, o13, o14, o15] ∧ Same H1 G)
    ⟨_, _, _, _, _, _, _, _, _, _, _, rfl, Same.refl H1⟩ ?_ ?_ ?_⟩
  · rintro i σ G _ ⟨_, _, _, _, _, _, _, _, _, _, _, rfl, s⟩
    exact SqL.of (s _ _ ekl)
  · rintro i v σ G G2 hi ⟨o5, o6, o7, o8, o9, o10, o11, o12, o13, o14, o15, rfl, sG⟩ ⟨TT, x, y, rfl, hTT, rfl, hx, hy⟩
    have hx' : x = .int (i : Nat) := (Option.some.inj hx).symm
    subst hx'
    rw [List.length_map] at hi
    obtain ⟨c, rfl, hc⟩ : ∃ c : SR Str, y = .str c.nm ∧ (kidsS cs n)[i]? = some c := by
      have hy : ((kidsS cs n).map fun (c : SR Str) => V.str c.nm)[i]? = some y := hy
      rw [List.getElem?_map] at hy
      obtain ⟨a, b, c⟩ := Option.map_eq_some_iff.mp hy
      exact ⟨a, c.symm, b⟩
    have hck := List.mem_of_getElem? hc
    have hcm := (mem_kids.mp hck).1
    refine ⟨TT, _, rfl, SqT.of upd_same, rfl, _, _, rfl, _, _, rfl, rfl, ?_⟩
    have s2 := Same.new sG hTT (.tup [.int (i : Nat), .str c.nm])
    generalize upd G TT (.tup [.int (i : Nat), .str c.nm]) = G2 at s2 ⊢
    have s02 := s1.trans s2
    -- what it asks for, whether it is marked
    refine ⟨_, rfl, _, rfl, rl, ws, cs, c, rfl, ra.same s02, nd, hcm, fun t u G3 s3 ht hu => ?_⟩
    refine ⟨t, _, rfl, ht, rfl, _, _, rfl, _, _, rfl, rfl, ?_⟩
    have s03 := s02.trans s3
    have s13 := s2.trans s3
    dsimp only
    have es : EvL (tSl (rSlL K) (tVar 4) tNoPart (tPart (tVar 5))) [some (.ref rl), some (.str n), some (.ref oa), some (.ref cl), some (.ref kl), some (.int (i : Int)), some (.str c.nm), some u, some (.int (if c.al then 1 else 0)), o9, o10, o11, o12, o13, o14, none] G3 (((kidsS cs n).take i).map fun (c : SR Str) => V.str c.nm) := by
      have := el_sl (K := K) (σ := [some (.ref rl), some (.str n), some (.ref oa), some (.ref cl), some (.ref kl), some (.int (i : Int)), some (.str c.nm), some u, some (.int (if c.al then 1 else 0)), o9, o10, o11, o12, o13, o14, none]) (te := tVar 4) (H := G3) (ev_var rfl) eo_none (eo_some (te := tVar 5) (i := (i : Int)) (ev_var rfl)) (SqL.of (s13 _ _ ekl))
      rw [cut_take _ _ (by omega)] at this
      exact this
    -- those ahead
    refine q_asgL (lcN (K := K) ((kidsS cs n).take i) (fun c => decide (c.nm ∈ ch)) (fun (c : SR Str) => V.str c.nm) (ws := ((kidsS cs n).take i).map fun (c : SR Str) => V.str c.nm) (fun H1 e Q q => es H1 e Q q) (by rw [List.length_map]) (by rw [List.length_take]; omega) (fun _ => rfl) (fun j x y G4 e hx hy => ?_) fun j x y G4 e hx hy _ => ?_) fun al G4 hal s4 fal => ?_
    · rw [List.getElem?_map, hy] at hx
      cases hx
      refine et_test (ev_is (ev_op (ev_var rfl) (ev_var rfl) (rv_isL (SqL.of (e _ _ (s03 _ _ hcl))) rfl (flat_strs _))) ?_)
      rw [in_strs]
    · rw [List.getElem?_map, hy] at hx
      cases hx
      exact ev_var rfl
    have eah : ((kidsS cs n).take i).filter (fun c => decide (c.nm ∈ ch)) = ahd (kidsS cs n) (pick true (kidsS cs n) own).1 i := by
      unfold ahd
      refine List.filter_congr fun d hd => ?_
      exact decide_eq_decide.mpr (hch d (List.mem_of_mem_take hd))
    rw [eah] at fal
    have hah : ∀ o ∈ ahd (kidsS cs n) (pick true (kidsS cs n) own).1 i, o ∈ cs ∧ ∃ a, o.ask = some a ∧ a ≠ [] := fun o ho => by
      obtain ⟨h1, h2⟩ := List.mem_filter.mp ho
      have h3 := List.mem_of_mem_take h1
      obtain ⟨j, hj⟩ := List.mem_iff_getElem?.mp h3
      obtain ⟨_, a, e1, e2, _⟩ := may_ask ((pick_turn knd hj).mp (of_decide_eq_true h2))
      exact ⟨(mem_kids.mp h3).1, a, e1, e2⟩
    have eah12 : (ahd (kidsS cs n) (pick true (kidsS cs n) own).1 i).length ≤ 12 := Nat.le_trans (List.length_filter_le _ _) (by rw [List.length_take]; omega)
    have emay := may_can knd hrise kasks hc
    have emem : (decide (c.nm ∈ ch)) = mayS c (pick true ((kidsS cs n).take i) own).2 := by
      rw [Bool.eq_iff_iff, decide_eq_true_eq, hch c hck, pick_turn knd hc]
    rw [emay] at emem
    clear emay es
    generalize ahd (kidsS cs n) (pick true (kidsS cs n) own).1 i = ah at fal hah eah12 emem
    have s04 := s03.trans s4
    have s14 := s13.trans s4
    have hu := hu.same s4
    have hown4 := ex_t s04 hown
    -- by itself
    refine q_asg (v := .bl (c.al && (!(askC c).isEmpty && decide ((askC c).filter (fun x => !decide (x ∈ own)) = [])))) (ev_andV (ev_is (ev_op (ev_var rfl) ev_c (rv_eq rfl)) (congrArg V.bl (mark_is _))) fun _ => ev_andV (ev_is (ev_notNone (ev_var rfl) hu) (congrArg V.bl (ne_ask c))) fun hne => ?_) fun G5 s5 => ?_
    · rcases hu with ⟨ea, _⟩ | ⟨a, ea, aa, rfl, hs⟩
      · unfold askC at hne
        rw [ea] at hne
        cases hne
      have ec : askC c = a := by unfold askC; rw [ea]; rfl
      rw [ec] at hne ⊢
      have ne : a ≠ [] := fun z => by rw [z] at hne; cases hne
      have al64 := (cok.ask c hcm a ea).2
      refine ev_opLL (xs := (a.filter fun x => !decide (x ∈ own)).map V.int) (ys := ([] : List Int).map V.int) (lcT (K := K) a (fun x => !decide (x ∈ own)) V.int (ev_orS (ev_var rfl) hs ne) hs (by rw [List.length_map]) (by omega) (fun _ => rfl) (fun j x y G5 e hx hy => ?_) fun j x y G5 e hx hy _ => ?_) (el_lst ea_nil (Nat.zero_le _)) fun p q H4 h4 h5 e4 => rv_eqL h4 h5
      · rw [List.getElem?_map, hy] at hx
        cases hx
        refine et_test (ev_is (ev_op (ev_var rfl) (ev_var rfl) (rv_niT (ex_t e hown4) rfl (flat_ints _))) ?_)
        rw [in_ints]
      · rw [List.getElem?_map, hy] at hx
        cases hx
        exact ev_var rfl
    have hu := hu.same s5
    have s05 := s04.trans s5
    have s15 := s14.trans s5
    have fal5 := s5 _ _ fal
    -- by pairs
    refine q_forLn (ev_var rfl) (SqL.of fal5) (fun j σ G => ∃ (o11 o12 o13 o14 o15 : Option V), σ = [some (.ref rl), some (.str n), some (.ref oa), some (.ref cl), some (.ref kl), some (.int (i : Int)), some (.str c.nm), some u, some (.int (if c.al then 1 else 0)), some (.ref al),
        some (.bl (c.al && (!(askC c).isEmpty && (decide ((askC c).filter (fun x => !decide (x ∈ own)) = []) && (ah.take j).all fun o => decide ((askC c).filter (fun x => decide (x ∈ askC o)) = []))))), o11, o12, o13, o14, o15] ∧ Same G5 G)
      (fun G s => ⟨_, _, _, _, _, by rw [List.take_zero, List.all_nil, Bool.and_true]; rfl, s⟩) ?_ ?_ ?_
    · rintro j σ G _ ⟨_, _, _, _, _, rfl, s⟩
      exact SqL.of (s _ _ fal5)
    · rintro j x σ G hx ⟨o11, o12, o13, o14, o15, rfl, s6⟩
      rw [List.getElem?_map] at hx
      obtain ⟨o, ho, rfl⟩ := Option.map_eq_some_iff.mp hx
      obtain ⟨hom, b, eb, _⟩ := hah o (List.mem_of_getElem? ho)
      have s06 := s05.trans s6
      refine ask0 (H := G) (ev_var rfl) (ev_var rfl) (ra.same s06) nd hom (Ex.refl G) fun u2 G6 s7 hu2 => ?_
      rcases hu2 with ⟨z, _⟩ | ⟨b', z, ba, rfl, hb⟩
      · rw [z] at eb
        cases eb
      have eo : askC o = b' := by unfold askC; rw [z]; rfl
      have hu7 := (hu.same s6).same s7
      rw [List.take_add_one, ho, List.all_append]
      refine s_asg (v := .bl ((c.al && (!(askC c).isEmpty && (decide ((askC c).filter (fun x => !decide (x ∈ own)) = []) && (ah.take j).all fun o => decide ((askC c).filter (fun x => decide (x ∈ askC o)) = [])))) && decide ((askC c).filter (fun x => decide (x ∈ b')) = []))) (ev_andV (ev_var rfl) fun hcan => ?_) fun G7 s8 => ⟨some (.str o.nm), some (.ref ba), o13, o14, o15, ?_, (s6.trans s7).trans s8⟩
      · have hne : (!(askC c).isEmpty) = true := by
          rw [Bool.and_eq_true, Bool.and_eq_true] at hcan
          exact hcan.2.1
        rcases hu7 with ⟨ea, _⟩ | ⟨a, ea, aa, rfl, hs⟩
        · unfold askC at hne
          rw [ea] at hne
          cases hne
        have ec : askC c = a := by unfold askC; rw [ea]; rfl
        rw [ec] at hne ⊢
        have ne : a ≠ [] := fun z => by rw [z] at hne; cases hne
        have al64 := (cok.ask c hcm a ea).2
        refine ev_opLL (xs := (a.filter fun x => decide (x ∈ b')).map V.int) (ys := ([] : List Int).map V.int) (lcT (K := K) a (fun x => decide (x ∈ b')) V.int (ev_orS (ev_var rfl) hs ne) hs (by rw [List.length_map]) (by omega) (fun _ => rfl) (fun j x y G5 e hx hy => ?_) fun j x y G5 e hx hy _ => ?_) (el_lst ea_nil (Nat.zero_le _)) fun p q H4 h4 h5 e4 => rv_eqL h4 h5
        · rw [List.getElem?_map, hy] at hx
          cases hx
          refine et_test (ev_is (ev_op (ev_var rfl) (ev_var rfl) (rv_isT (ex_t e hb) rfl (flat_ints _))) ?_)
          rw [in_ints]
        · rw [List.getElem?_map, hy] at hx
          cases hx
          exact ev_var rfl
      · have e1 : ∀ a b c d e : Bool, ((a && (b && (c && d))) && e) = (a && (b && (c && (d && e)))) := by decide
        rw [e1, ← eo]
        simp only [Option.toList_some, List.all_cons, List.all_nil, Bool.and_true]
        rfl
    rintro σ G ⟨o11, o12, o13, o14, o15, rfl, s6⟩
    rw [List.length_map, List.take_length]
    have s06 := s05.trans s6
    have s16 := s15.trans s6
    have fal6 := s6 _ _ fal5
    have hu6 := hu.same s6
    -- by number
    refine q_cut (M := fun σ' G' => ∃ (o11 o12 o13 o14 o15 : Option V), σ' = [some (.ref rl), some (.str n), some (.ref oa), some (.ref cl), some (.ref kl), some (.int (i : Int)), some (.str c.nm), some u, some (.int (if c.al then 1 else 0)), some (.ref al), some (.bl (canS c own ah)), o11, o12, o13, o14, o15] ∧ Same G G') ?_ ?_
    · refine s_when (b := c.al && (!(askC c).isEmpty && (decide ((askC c).filter (fun x => !decide (x ∈ own)) = []) && ah.all fun o => decide ((askC c).filter (fun x => decide (x ∈ askC o)) = [])))) (et_B (ev_var rfl)) (fun hb G7 s7 => ?_) fun hb G7 s7 => ?_
      · have hne : (!(askC c).isEmpty) = true := by
          rw [Bool.and_eq_true, Bool.and_eq_true] at hb
          exact hb.2.1
        have hu7 := hu6.same s7
        have s07 := s06.trans s7
        rcases hu7 with ⟨ea, _⟩ | ⟨a, ea, aa, rfl, hs⟩
        · unfold askC at hne
          rw [ea] at hne
          cases hne
        have ec : askC c = a := by unfold askC; rw [ea]; rfl
        have lc : EvL (tLc (iList K (tVar 9)) (gName 11) tYes (tCB (rLenS K) (tCons (tOp (rIxT K) (tCall (spAsks K) [] E0 (tCons (tVar 0) (tCons (tVar 11) tNil))) (tC (.int 0))) tNil)) [11]) [some (.ref rl), some (.str n), some (.ref oa), some (.ref cl), some (.ref kl), some (.int (i : Int)), some (.str c.nm), some (.ref aa), some (.int (if c.al then 1 else 0)), some (.ref al),
            some (.bl (c.al && (!(askC c).isEmpty && (decide ((askC c).filter (fun x => !decide (x ∈ own)) = []) && ah.all fun o => decide ((askC c).filter (fun x => decide (x ∈ askC o)) = []))))), o11, o12, o13, o14, o15] G7 ((ah.filter fun _ => true).map fun (o : SR Str) => V.int (((askC o).length : Nat) : Int)) :=
          lcL (K := K) ah (fun _ => true) (fun (o : SR Str) => V.int (((askC o).length : Nat) : Int)) (ev_var rfl) (SqL.of (s7 _ _ fal6)) (by rw [List.length_map]) (by omega) (fun _ => rfl) (fun j x y G8 e hx hy => et_yes) fun j x y G8 e hx hy _ => by
            rw [List.getElem?_map, hy] at hx
            cases hx
            obtain ⟨hom, b, eb, _⟩ := hah y (List.mem_of_getElem? hy)
            exact ev_askLen (ev_var rfl) (ev_var rfl) (ra.same (Same.trans s07 e)) nd hom eb
        have ft : (ah.filter fun _ => true) = ah := List.filter_eq_self.mpr fun _ _ => rfl
        rw [ft] at lc
        refine q_asg (v := .int (((ah.map fun o => (askC o).length).sum : Nat) : Int)) (ev_sum lc) fun G8 s8 => ?_
        have s08 := s07.trans s8
        refine s_asg (v := .bl (canS c own ah)) (ev_is (ev_op (ev_op (ev_op (ev_lenT (ev_var rfl) (ex_t s08 hown)) (ev_var rfl) rv_I0) (ev_lenT (ev_var rfl) (ex_t s8 hs)) rv_I0) ev_c rv_I0) ?_) fun G9 s9 => ⟨_, _, _, _, _, rfl, (s7.trans s8).trans s9⟩
        unfold canS
        rw [hb, Bool.true_and, List.length_map, List.length_map, ec]
      · refine ⟨o11, o12, o13, o14, o15, ?_, s7⟩
        unfold canS
        rw [hb]
        rfl
    rintro σ G7 ⟨o11, o12, o13, o14, o15, rfl, s7⟩
    have s07 := s06.trans s7
    refine s_when (b := false) (et_is (et_test (ev_op (z := .bl (!decide (V.bl (decide (c.nm ∈ ch)) = V.bl (canS c own ah)))) (ev_is (ev_op (ev_var rfl) (ev_var rfl) (rv_isL (SqL.of (s07 _ _ hcl)) rfl (flat_strs _))) (congrArg V.bl (in_strs _ _))) (ev_var rfl) (rv_ne rfl))) ?_) (fun h => by cases h) fun _ G8 s8 => ⟨_, _, _, _, _, _, _, _, _, _, _, rfl, (s16.trans s7).trans s8⟩
    rw [emem, decide_eq_true rfl]
    rfl
  · rintro σ G ⟨_, _, _, _, _, _, _, _, _, _, _, rfl, s⟩
    exact q G (s1.trans s)
end
end Bd
end

section
namespace Bd
open PySem L2 Bs
open Evl hiding tCut pss_cut
abbrev sLRight : Stmt := (top 56)
theorem scLRight : FnScope ["_law_source_here", "_law_every", "_law_rows", "_law_tree", "_law_hoped", "_law_found", "_law_chosen", "_law_row", "_law_name"] ["_law_source_here"] (defScope sLRight) := ⟨rfl, rfl, rfl, by decide +kernel, rfl, by decide +kernel, by decide +kernel⟩
abbrev sLaw : Stmt := (top 57)
theorem scLaw : FnScope ["_law_script", "_law_k", "_law_source_here", "_law_turn"] ["_law_script"] (defScope sLaw) := ⟨rfl, rfl, rfl, by decide +kernel, rfl, by decide +kernel, by decide +kernel⟩

structure TN (mg : Str → Option Value) : Prop where
  z_max : mg "max" = none
  z_min : mg "min" = none
  z_dict : mg "dict" = none
def spLRight (K : PySem.W.Frag) : Sp := fun vs H Q _ => ∃ (s : Addr), vs = [.ref s] ∧ Src H s ∧ ∀ H', Src H' s → Kept s H H' → Q (.bl true) H'
def spLaw (K : PySem.W.Frag) : Sp := fun vs H Q _ => ∃ (a : Addr) (ns : List Int), vs = [.ref a] ∧ SqL K H a (ns.map V.int) ∧ ns.length ≤ 63 ∧ ∀ H', Q (.bl true) H'
theorem src_same {H H' : Hp} {s : Addr} (e : Same H H') (h : Src H s) : Src H' s := by
  obtain ⟨x, y, z, h⟩ := h
  exact ⟨x, y, z, e _ _ h⟩
theorem paired_memR {α β : Type} {F : α → β → Prop} : ∀ {xs : List α} {ys : List β}, Paired F xs ys → ∀ {y : β}, y ∈ ys → ∃ x ∈ xs, F x y
  | _, _, .nil, _, h => by cases h
  | _, _, .cons a b, y, h => by
    rcases List.mem_cons.mp h with e | h
    · rw [e]
      exact ⟨_, List.mem_cons_self, a⟩
    · obtain ⟨x, hx, r⟩ := paired_memR b h
      exact ⟨x, List.mem_cons_of_mem _ hx, r⟩
theorem hits_mem {K : PySem.W.Frag} {G : Hp} {ls : List (Key × V)} (nd : (ls.map (·.1)).Nodup) : ∀ {ks : List (Key × V)} {m : List (Str × List Int)}, Paired (HasR K G) ks m → (∀ mm ∈ m, ∃ lv ∈ ls, HasR K G lv mm) → HitsV (EqF K G 0) ls ks true
  | _, _, .nil, _ => .nil
  | _, _, .cons (a := kv) (b := mm) a b, h => by
    obtain ⟨lv, hl, a'⟩ := h mm List.mem_cons_self
    have e : valV ls kv.1 = some lv.2 := by
      have := val_nd nd lv hl
      rw [a'.1, ← a.1] at this
      exact this
    have r1 : (true : Bool) = (true && true) := rfl
    rw [r1]
    obtain ⟨x, x1, x2⟩ := a.2.1
    obtain ⟨y, y1, y2⟩ := a'.2.1
    refine .hit (k := kv.1) (v := kv.2) e ⟨.tuple (mm.2.map .int), .tuple (mm.2.map .int), by rw [x1]; exact .tup x2 (dp_ofints _), by rw [y1]; exact .tup y2 (dp_ofints _), shaped_ints _, shaped_ints _, ?_⟩ (hits_mem nd b fun p hp => h p (List.mem_cons_of_mem _ hp))
    rw [eqv_intT]
    simp
theorem due_get {K : PySem.W.Frag} {G : Hp} {kvs : List (Key × V)} {L : List (Str × List Int × Bool)} (h : Paired (DueR K G) kvs L) (nd : (L.map (·.1)).Nodup) {e : Str × List Int × Bool} (he : e ∈ L) : ∃ t u, valV kvs (Sum.inr e.1) = some (.ref t) ∧ SqT K G t [u, .bl e.2.2] ∧ SetAt K G u e.2.1 ∧ e.2.1.length ≤ 64 := by
  obtain ⟨kv, hkv, h1, t, u, h2, h3, h4, h5⟩ := paired_memR h he
  have ndk : (kvs.map (·.1)).Nodup := by
    rw [due_keys h]
    have := nodup_inr nd
    rw [List.map_map] at this
    exact this
  have := val_nd ndk kv hkv
  rw [h1, h2] at this
  exact ⟨t, u, this, h3, h4, h5⟩
theorem range64 : ∃ xs : List Int, rgV 0 64 = xs.map V.int ∧ RiseOk (-1) xs ∧ xs.length = 64 ∧ xs ≠ [] := by
  refine ⟨(List.range 64).map fun i => (0 : Int) + (i : Nat), ?_, ?_, by decide, by decide⟩
  · rw [List.map_map]
    rfl
  · exact rise_of (by decide +kernel) fun x hx => by
      obtain ⟨i, hi, e⟩ := List.mem_map.mp hx
      have := List.mem_range.mp hi
      omega
section
variable {P : Program} {w : World} {K : PySem.W.Frag} {mg : Str → Option Value} {base : Heap} {aL C CN CW : Addr} {left : List (Key × V)}
theorem ok_lright {f e gT gN gR gE gS gA gO : Addr} {fd ed dT dN dR dE dS dA dO : FuncData} (F : Fun K "_law_right" "_law_right" sLRight f fd) (T : TN mg) (Ta : TA mg) (TCl : TC K mg C) (M : Mk K C e) (FI : FnOk P w K mg base CX0 7 e ed ["self", "rows", "handing"] (spInit K C)) (bI1 : Binds K ed ["self", "rows", "handing"] [.bool false])
    (cT : Cal P w K mg base "_law_set" ["_law_source_here", "_law_few"] 3 (spLSet K) gT dT) (cN : Cal P w K mg base "_law_next" ["_law_source_here", "_law_many"] 2 spNext gN dN) (cR : Cal P w K mg base "_law_set_rows" ["_law_source_here", "_law_many", "_law_every"] 4 (spLRows K) gR dR)
    (cSe : Cal P w K mg base "sets" ["tree", "whole"] 5 (spSets K C) gE dE) (cSt : Cal P w K mg base "stands_alone" ["tree", "whole"] 5 (spStands K C) gS dS) (cD : Cal P w K mg base "_law_due" ["_law_rows", "_law_name", "_law_own", "_law_is_alone", "_law_found"] 16 (spDue K 13) gA dA)
    (cP : Cal P w K mg base "_law_pairs_right" ["_law_rows", "_law_name", "_law_own", "_law_chosen"] 2 (spPairs K) gO dO) :
    FnOk P w K mg base CX0 17 f fd ["_law_source_here"] (spLRight K) := by
  refine F.ok scLRight (fun vs H Q E h => ?_) (fun cdv A outer s H vs Q E hr h => ?_)
  · obtain ⟨s, rfl, _⟩ := h
    rfl
  obtain ⟨p, rfl, hp, q⟩ := h
  have hu := hu_of hr
  refine ⟨_, (pss_cons (ps_set (i := 1) scLRight.nd rfl (Or.inl rfl) (pe_call cT.ok (hr.mono (by decide)) rfl cT.mg cT.kp cT.bd .nil pass0 (pa_cons (pv 0) (pa_cons pe_int pa_nil)))) (C8.pss_cut (ps_set (i := 1) scLRight.nd rfl (Or.inl rfl) (pe_ifExp (pt_cmpR (op_neD hr.units) (pv 1) (pe_tup pa_nil) (nomark _)) (pv 1) (pe_tup (pa_cons pe_int pa_nil)))) (C8.pss_cut (ps_if (pt_cmpR op_eq (pe_call cN.ok (hr.mono (by decide)) rfl cN.mg cN.kp cN.bd .nil pass0 (pa_cons (pv 0) (pa_cons pe_int pa_nil))) pe_int (nomark _)) (pss_one (ps_set (i := 1) scLRight.nd rfl (Or.inl rfl) (pe_callTy call_tuple_of (by rfl) Ta.z_tuple (by decide +kernel) (pa_cons (pe_listRg rfl (by rfl) Ta.z_list (prg_1 (by rfl) Ta.z_range pe_int)) pa_nil)))) pss_nil) (pss_cons (ps_set (i := 2) scLRight.nd rfl (Or.inr rfl) (pe_call cR.ok (hr.mono (by decide)) rfl cR.mg cR.kp cR.bd .nil pass0 (pa_cons (pv 0) (pa_cons (pe_op op_add pe_int (pe_call cN.ok (hr.mono (by decide)) rfl cN.mg cN.kp cN.bd .nil pass0 (pa_cons (pv 0) (pa_cons pe_int pa_nil)))) (pa_cons (pv 1) pa_nil))))) (pss_cons (ps_asg (pe_tup (pa_cons (pe_make (dvs := [.bl false]) M FI (hr.mono (by decide)) rfl TCl.g_Tree bI1 (.cons rfl .nil) pass0 (pa_cons (pv 2) pa_nil)) (pa_cons (pe_call cD.ok (hr.mono (by decide)) rfl cD.mg cD.kp cD.bd .nil pass0 (pa_cons (pv 2) (pa_cons pe_str (pa_cons (pv 1) (pa_cons pe_bl (pa_cons pe_dnewK pa_nil)))))) pa_nil))) (pg_tup (by rfl) (pgs_cons (pg_name (i := 3) scLRight.nd rfl (Or.inl rfl)) (pgs_cons (pg_name (i := 4) scLRight.nd rfl (Or.inr rfl)) pgs_nil)))) (pss_cons (ps_asg (pe_tup (pa_cons (pe_call cSe.ok (hr.mono (by decide)) rfl cSe.mg cSe.kp cSe.bd .nil pass0 (pa_cons (pv 3) (pa_cons (pv 1) pa_nil))) (pa_cons (pe_call cSt.ok (hr.mono (by decide)) rfl cSt.mg cSt.kp cSt.bd .nil pass0 (pa_cons (pv 3) (pa_cons (pv 1) pa_nil))) pa_nil))) (pg_tup (by rfl) (pgs_cons (pg_name (i := 5) scLRight.nd rfl (Or.inr rfl)) (pgs_cons (pg_name (i := 6) scLRight.nd rfl (Or.inr rfl)) pgs_nil)))) (pss_cons (ps_if (pt_cmpR (op_neDk (hu100 hr)) (pv 5) (pe_callTy (call_dictP rfl) (by rfl) T.z_dict (by decide +kernel) (pa_cons (pe_lock (pe_lc (own := [("_law_name", 8)]) (g := gName 8) (tt := tYes) (te := tTup (tCons (tVar 8) (tCons (tOp (rIxT K) (tDGet (tVar 4) (tVar 8)) (tC (.int 0))) tNil))) rfl scLRight.nd (pi_keys (pv 4)) (blkOk_by (own := [("_law_name", 8)]) (N := ["_law_source_here", "_law_every", "_law_rows", "_law_tree", "_law_hoped", "_law_found", "_law_chosen", "_law_row", "_law_name"]) (sc := defScope sLRight) (by decide +kernel)) (fun _ _ _ _ _ => (pg_name (i := 8) scLRight.nd rfl (Or.inl rfl))) (fun _ _ _ _ _ => pts_nil) (fun _ _ _ _ _ => (pe_tup (pa_cons (pv 8) (pa_cons (pe_ix ix_tup (pe_dget hu (pv 4) (pv 8) (fun _ _ => rfl)) pe_int (fun _ _ => rfl)) pa_nil)))))) pa_nil)) (nomark _)) (pss_one (ps_ret pe_bl)) pss_nil) (pss_cons (ps_if (pt_cmpR (op_neD hr.units) (pv 6) (pe_lc (own := [("_law_row", 7)]) (g := gName 7) (tt := tB (tOp (rIxT K) (tDGet (tVar 4) (tOp (rIxT K) (tVar 7) (tC (.int 0)))) (tC (.int 1)))) (te := (tOp (rIxT K) (tVar 7) (tC (.int 0)))) rfl scLRight.nd (pi_list (pv 2)) (blkOk_by (own := [("_law_row", 7)]) (N := ["_law_source_here", "_law_every", "_law_rows", "_law_tree", "_law_hoped", "_law_found", "_law_chosen", "_law_row", "_law_name"]) (sc := defScope sLRight) (by decide +kernel)) (fun _ _ _ _ _ => (pg_name (i := 7) scLRight.nd rfl (Or.inl rfl))) (fun _ _ _ _ _ => (pts_one (pt_val (pe_ix ix_tup (pe_dget hu (pv 4) (pe_ix ix_tup (pv 7) pe_int (fun _ _ => rfl)) (fun _ _ => rfl)) pe_int (fun _ _ => rfl))))) (fun _ _ _ _ _ => (pe_ix ix_tup (pv 7) pe_int (fun _ _ => rfl)))) (nomark _)) (pss_one (ps_ret pe_bl)) pss_nil) (pss_cons (ps_if (pt_not (pt_val (pe_call cP.ok (hr.mono (by decide)) rfl cP.mg cP.kp cP.bd .nil pass0 (pa_cons (pv 2) (pa_cons pe_str (pa_cons (pv 1) (pa_cons (pv 6) pa_nil))))))) (pss_one (ps_ret pe_bl)) pss_nil) (pss_one (ps_ret (pe_cmpR (op_eqD hr.units) (pe_lc (own := [("_law_name", 8)]) (g := gName 8) (tt := tNot (tB (tCall (spPairs K) [] E0 (tCons (tVar 2) (tCons (tVar 8) (tCons (tDGet (tVar 5) (tVar 8)) (tCons (tVar 6) tNil))))))) (te := tVar 8) rfl scLRight.nd (pi_list (pv 6)) (blkOk_by (own := [("_law_name", 8)]) (N := ["_law_source_here", "_law_every", "_law_rows", "_law_tree", "_law_hoped", "_law_found", "_law_chosen", "_law_row", "_law_name"]) (sc := defScope sLRight) (by decide +kernel)) (fun _ _ _ _ _ => (pg_name (i := 8) scLRight.nd rfl (Or.inl rfl))) (fun _ _ _ _ _ => (pts_one (pt_not (pt_val (pe_call cP.ok (hr.mono (by decide)) rfl cP.mg cP.kp cP.bd .nil pass0 (pa_cons (pv 2) (pa_cons (pv 8) (pa_cons (pe_dget hu (pv 5) (pv 8) (fun _ _ => rfl)) (pa_cons (pv 6) pa_nil))))))))) (fun _ _ _ _ _ => (pv 8))) (pe_lst pa_nil) (nomark _))))))))))))), ?_⟩
  refine ⟨_, rfl, p, 10, rfl, hp, by decide, fun v0 xs0 H1 h0 r0 l0 s1 k1 => ?_⟩
  -- every
  refine ⟨fun σ G => ∃ (ev : V) (every : List Int) (o2 o3 o4 o5 o6 o7 o8 : Option V), σ = [some (.ref p), some ev, o2, o3, o4, o5, o6, o7, o8] ∧ Src G p ∧ Kept p H G ∧ SetAt K G ev every ∧ RiseOk (-1) every ∧ every.length ≤ 64 ∧ every ≠ [], ?_, ?_⟩
  · obtain ⟨a0, rfl, ha0⟩ := h0
    refine ⟨_, rfl, Nat.zero_le _, fun t0 ht0 => ?_⟩
    have st := Same.new (Same.refl H1) ht0 (.tup [])
    refine ⟨.tuple (xs0.map .int), .tuple (([] : List Int).map .int), .tup (Same.seqT st ha0) (dp_ofints _), .tup (SqT.of upd_same) .nil, shaped_ints _, shaped_ints _, _, rfl, ?_⟩
    rw [eqv_intT]
    refine ite2 (fun c => ?_) (fun c => ?_)
    · have hne : xs0 ≠ [] := by simpa using c
      exact ⟨_, rfl, _, xs0, _, _, _, _, _, _, _, rfl, src_same st s1, k1.trans (Kept.of st), ⟨a0, rfl, Same.seqT st ha0⟩, r0, by omega, hne⟩
    · refine ⟨by show 1 ≤ sizeLine; decide, fun t1 ht1 => ?_⟩
      have st2 := Same.trans st (Same.new (Same.refl _) ht1 (.tup [.int 7]))
      exact ⟨_, [7], _, _, _, _, _, _, _, rfl, src_same st2 s1, k1.trans (Kept.of st2), ⟨t1, rfl, SqT.of upd_same⟩, ⟨by decide, by decide, True.intro⟩, by decide, by decide⟩
  rintro _ G0 ⟨ev, every, o2, o3, o4, o5, o6, o7, o8, rfl, s2, k2, hev, hre, lev, nev⟩
  -- at times all sixty-four
  refine ⟨fun σ G => ∃ (ev : V) (every : List Int) (o2 o3 o4 o5 o6 o7 o8 : Option V), σ = [some (.ref p), some ev, o2, o3, o4, o5, o6, o7, o8] ∧ Src G p ∧ Kept p H G ∧ SetAt K G ev every ∧ RiseOk (-1) every ∧ every.length ≤ 64 ∧ every ≠ [], ?_, ?_⟩
  · refine ⟨_, rfl, p, 8, rfl, s2, by decide, by decide, fun d G1 hd s3 k3 => ⟨rfl, _, rfl, ite2 (fun c => ?_) (fun c => ?_)⟩⟩
    · obtain ⟨xs, ex, rx, lx, nx⟩ := range64
      refine ⟨64, rfl, by unfold RgOk; decide, fun l hl => ⟨l, _, rfl, .inl ⟨SqL.of upd_same, fun t ht => ?_⟩⟩⟩
      have st1 := Same.new (Same.refl G1) hl (.lst (rgV 0 64))
      have st2 := Same.trans st1 (Same.new (Same.refl _) ht (.tup (rgV 0 64)))
      exact ⟨_, xs, _, _, _, _, _, _, _, rfl, src_same st2 s3, (k2.trans k3).trans (Kept.of st2), ⟨t, rfl, by rw [← ex]; exact SqT.of upd_same⟩, rx, by omega, nx⟩
    · exact ⟨ev, every, _, _, _, _, _, _, _, rfl, s3, k2.trans k3, hev.kept s2 k3, hre, lev, nev⟩
  clear hev hre lev nev k2 s2 ev every G0
  rintro _ G0 ⟨ev, every, o2, o3, o4, o5, o6, o7, o8, rfl, s2, k2, hev, hre, lev, nev⟩
  -- rows
  refine ⟨_, rfl, _, rfl, p, 12, rfl, s2, by decide, by decide, fun d G1 hd s3 k3 => ?_⟩
  refine ⟨_, _, rfl, rfl, _, rfl, ?_⟩
  have hev1 := hev.kept s2 k3
  refine ⟨p, 1 + d, ev, every, congrArg (fun z => [V.ref p, V.int z, ev]) (by omega), s3, by omega, hev1, hre, by omega, fun rl G2 ws cs hrl erl hrows cok nd cmem clen s4 k4 => ?_⟩
  have hev2 := hev1.kept s3 k4
  have len : cs.length ≤ 12 := by omega
  have rok := mk_rows cok nd cmem
  have ok := cs_oks rok
  have asks := ask_ok cok
  have hw : Rise every := (of_rise hre).1
  have kall : Kept p H G2 := (k2.trans k3).trans k4
  have l200 : (cs.map mkR).length ≤ 200 := by rw [List.length_map]; omega
  have esets : setsM (cs.map mkR) every = cs.map fun c => (c.nm, hfC cs every c.nm) := by
    unfold setsM
    rw [srs_mk, List.map_map]
    rfl
  have estands : standsM (cs.map mkR) every = chC cs every := by
    unfold standsM nms
    rw [srs_mk, List.map_map]
    rfl
  clear k2 k3 k4 hev hev1 s2 s3
  have han := handed (whole := every) ok
  -- what is due, by the law
  have hL1 : ∀ z ∈ dueS cs 13 ("" : Str) every true, z.2 = (hfC cs every z.1, alF ("" : Str) cs every z.1) := by
    have := due_is han 13 ("" : Str)
    rw [han.h0, han.a0] at this
    exact this
  obtain ⟨hL3, hL4⟩ := due_len ok every true (m := 13) (by omega)
  have hL2 := due_nd ok 13 ("" : Str) every true
  have hL5 : ∀ z ∈ dueS cs 13 ("" : Str) every true, ∃ r ∈ cs, r.nm = z.1 := fun z hz => (due_below _ _ _ _ z hz).1
  -- the tree, and what is due
  refine ⟨_, rfl, fun tr dx hx hdx ne => init_at hx hdx ne erl hrows rok len fun G3 tk3 t3 tree3 => ⟨rfl, ?_⟩⟩
  refine ⟨_, rfl, _, rfl, fun hd hhd => ?_⟩
  have th := Same.new (Same.refl G3) hhd (.dK [])
  have t3h := t3.trans th
  refine ⟨rl, ("" : Str), ev, true, hd, ws, cs, every, [], [], rfl, ⟨t3h _ _ erl, rows_same t3h hrows, len⟩, ok, asks, cok, .inl rfl, hev2.same t3h, hw, nev, lev, by rw [rank_root]; omega, upd_same, .nil, hL2, by rw [List.nil_append, hL4]; omega, fun G4 kvs k4 tk4 ehd hkvs => ?_⟩
  have t4 : Same G3 G4 := fun b o hb => k4 b o (ne_of_none hb hhd) (th _ _ hb)
  rw [List.nil_append] at hkvs
  refine ⟨by show 2 ≤ sizeLine; decide, fun tp htp => ?_⟩
  have t5 := Same.new (Same.refl G4) htp (.tup [.ref tr, .ref hd])
  refine ⟨tp, _, rfl, SqT.of upd_same, rfl, _, _, rfl, _, _, rfl, rfl, ?_⟩
  have t45 := t4.trans t5
  have t25 := t3.trans t45
  have tree5 := tree3.same t45 rok
  have ehd5 := t5 _ _ ehd
  have hkvs5 := paired_mono (fun _ _ z => DueR.tk (.of t5) z) hkvs
  generalize upd G4 tp (.tup [.ref tr, .ref hd]) = G5 at t5 t45 t25 tree5 ehd5 hkvs5 ⊢
  -- what the program tells
  refine ⟨_, rfl, _, rfl, tr, ev, cs.map mkR, every, rfl, ⟨⟨false, tk3, tree5⟩, rok, l200, hev2.same t25, hre, lev, nev⟩, fun fd G6 kvf hfd t6 efd hkf => ?_⟩
  rw [esets] at hkf
  refine ⟨_, rfl, _, rfl, tr, ev, cs.map mkR, every, rfl, ⟨⟨false, tk3, tree5.same t6 rok⟩, rok, l200, hev2.same (t25.trans t6), hre, lev, nev⟩, fun cl G7 hcl t7 ecl => ?_⟩
  rw [estands] at ecl
  refine ⟨by show 2 ≤ sizeLine; decide, fun tp2 htp2 => ?_⟩
  have t8 := Same.new (Same.refl G7) htp2 (.tup [.ref fd, .ref cl])
  refine ⟨tp2, _, rfl, SqT.of upd_same, rfl, _, _, rfl, _, _, rfl, rfl, ?_⟩
  have t78 := t7.trans t8
  have t58 := t6.trans t78
  have t28 := t25.trans t58
  have lw : LW K (upd G7 tp2 (.tup [.ref fd, .ref cl])) rl fd cl ws cs (hfC cs every) (chC cs every) := by
    refine ⟨t28 _ _ erl, rows_same t28 hrows, cok, len, ⟨kvf, t78 _ _ efd, ?_⟩, t8 _ _ ecl⟩
    rw [List.map_map]
    exact paired_mono (fun _ _ z => z.tk (.of t78)) hkf
  have hev3 := hev2.same t28
  have src3 := src_same t28 s4
  have k8 : Kept p H (upd G7 tp2 (.tup [.ref fd, .ref cl])) := kall.trans (Kept.of t28)
  have ehd8 := t58 _ _ ehd5
  have hkvs8 := paired_mono (fun _ _ z => DueR.tk (.of t58) z) hkvs5
  generalize upd G7 tp2 (.tup [.ref fd, .ref cl]) = G8 at lw hev3 src3 k8 ehd8 hkvs8 ⊢
  clear t8 t78 t58 t28 t7 t6 t5 t45 t25 t3 t4 th t3h tree3 tree5 ehd5 hkvs5 hkvs ehd ecl efd hkf hev2 s4 kall hrows erl k4 tk4
  have sH : ∀ {G : Hp}, Same G8 G → Src G p ∧ Kept p H G := fun {G} s => ⟨src_same s src3, k8.trans (Kept.of s)⟩
  -- all that was told, as one dict
  obtain ⟨kf, hkf, hkp⟩ := id lw.fd
  rw [List.map_map] at hkp
  generalize hLL : dueS cs 13 ("" : Str) every true = L at hL1 hL2 hL3 hL4 hL5 hkvs8
  have kfl : kf.length = cs.length := by
    have := Paired.length hkp
    rw [List.length_map] at this
    exact this
  have kvl : kvs.length = cs.length := by rw [Paired.length hkvs8, hL4]
  have ndk : (kvs.map (·.1)).Nodup := by
    rw [due_keys hkvs8]
    have := nodup_inr hL2
    rw [List.map_map] at this
    exact this
  refine ⟨_, rfl, hd, .dK kvs, ehd8, trivial, fun od => ?_⟩
  have hfd : upd G8 hd (.frz od (.dK kvs)) hd = some (.frz od (.dK kvs)) := upd_same
  refine ⟨_, rfl, hd, od, rfl, .inl ⟨kvs, hfd, fun D hD => ?_⟩⟩
  have tkl : TK G8 (upd G8 hd (.frz od (.dK kvs))) := TK.dk ehd8 _
  have nDf : D ≠ hd := fun e => by rw [e, hfd] at hD; cases hD
  have hD4 : G8 D = none := by rw [upd_ne nDf] at hD; exact hD
  refine lc_it walk_keys (fun j G' => ∃ (ps : List Addr) (k2 : List (Key × V)), G' D = some (.lst (ps.map V.ref)) ∧ Same (upd G8 hd (.frz od (.dK kvs))) G' ∧ Paired (fun p (kv : Key × V) => SqT K G' p [kV kv.1, kv.2]) ps k2 ∧ Paired (HasR K G8) k2 ((L.take j).map fun z => (z.1, z.2.1)))
    ⟨[], [], upd_same, Same.new (Same.refl _) hD _, .nil, .nil⟩ ?_ ?_ ?_
  · rintro j G' _ ⟨ps, k2, _, sG', _⟩
    exact sG' _ _ hfd
  · rintro j x G9 G' hj ⟨ps, k2, eD, sG', hps, hk2⟩ ⟨rfl, k, v, hkv, rfl⟩
    obtain ⟨m, hm, hk1, t, u, hv, ht, hu5, hl5⟩ := paired_get hkvs8 hkv
    have hk1 : k = (Sum.inr m.1 : Key) := hk1
    have hv : v = .ref t := hv
    subst hk1 hv
    refine ⟨rfl, ?_⟩
    have et : (L.take (j + 1)).map (fun z => (z.1, z.2.1)) = (L.take j).map (fun z => (z.1, z.2.1)) ++ [(m.1, m.2.1)] := by
      rw [List.take_add_one, hm, List.map_append]
      rfl
    rw [et]
    have psl : ps.length ≤ 12 := by
      have h1 := Paired.length hps
      have h2 := Paired.length hk2
      rw [List.length_map, List.length_take] at h2
      omega
    unfold tYes
    refine iteT ?_
    have g1 : DGet G' hd (kV (Sum.inr m.1 : Key)) (some (.ref t)) := .inl ⟨kvs, Sum.inr m.1, .inr ⟨od, sG' _ _ hfd⟩, rfl, (val_nd ndk _ (List.mem_of_getElem? hkv)).symm⟩
    have ht' : SqT K G' t [u, .bl m.2.2] := ex_t sG' (tkl.seqT ht)
    refine ⟨_, rfl, _, rfl, _, rfl, hd, _, rfl, g1, t, _, 0, _, rfl, rfl, ht', rfl, by show 2 ≤ sizeLine; decide, fun t2 ht2 => ?_⟩
    have st := Same.new (Same.refl G') ht2 (.tup [kV (Sum.inr m.1 : Key), u])
    refine ⟨_, st _ _ eD, by rw [List.length_map]; exact small1000 (by omega), ps ++ [t2], k2 ++ [(Sum.inr m.1, u)], by rw [upd_same, List.map_append]; rfl, ?_, ?_, paired_snoc ⟨rfl, hu5, hl5⟩ hk2⟩
    · intro b o hb
      have := st _ _ (sG' b o hb)
      rw [upd_ne (fun e => by rw [e] at hb; rw [hD] at hb; cases hb)]
      exact this
    · have tk2 : TK G' (upd (upd G' t2 (.tup [kV (Sum.inr m.1 : Key), u])) D (.lst (ps.map V.ref ++ [V.ref t2]))) := (TK.of st).trans (TK.lst (st _ _ eD) _)
      exact paired_snoc (F := fun (p : Addr) (kv : Key × V) => SqT K (upd (upd G' t2 (.tup [kV (Sum.inr m.1 : Key), u])) D (.lst (ps.map V.ref ++ [V.ref t2]))) p [kV kv.1, kv.2]) ((TK.lst (st _ _ eD) _).seqT (SqT.of upd_same)) (paired_mono (fun (p : Addr) (kv : Key × V) (z : SqT K G' p [kV kv.1, kv.2]) => tk2.seqT z) hps)
  rintro G' ⟨ps, k2, eD, sG', hps, hk2⟩
  rw [kvl, ← hL4, List.take_length] at hk2
  refine ⟨sG' _ _ hfd, ?_⟩
  -- the dict unlocked
  have sF : Same G8 (upd G' hd (.dK kvs)) := fun b o hb => by
    by_cases cb : b = hd
    · subst cb
      rw [upd_same, ← ehd8]
      exact hb
    · rw [upd_ne cb]
      exact sG' b o ((upd_ne cb).trans hb)
  have eDF : upd G' hd (.dK kvs) D = some (.lst (ps.map V.ref)) := (upd_ne nDf).trans eD
  have hpsF := paired_mono (fun (p : Addr) (kv : Key × V) (z : SqT K G' p [kV kv.1, kv.2]) => seqT_unlock (o := .dK kvs) z (sG' _ _ hfd)) hps
  generalize upd G' hd (.dK kvs) = G9 at sF eDF hpsF ⊢
  refine ⟨D, ps, _, rfl, SqL.of eDF, hpsF, fun d2 hd2 => ?_⟩
  have nd2 : (k2.map (·.1)).Nodup := by
    rw [has_keys hk2, List.map_map]
    have := nodup_inr hL2
    rw [List.map_map] at this
    exact this
  have em : mergeK [] k2 = k2 := by
    rw [mergeK_app _ [] (by simpa using nd2)]
    rfl
  rw [em]
  have sL := Same.new (Same.refl G9) hd2 (.dK k2)
  have sF2 := Same.trans sF sL
  have eL : upd G9 d2 (.dK k2) d2 = some (.dK k2) := upd_same
  generalize upd G9 d2 (.dK k2) = G10 at sL sF2 eL ⊢
  refine ⟨fd, d2, kf, k2, true, rfl, rfl, sF2 _ _ hkf, eL, fun _ => hits_mem nd2 (paired_mono (fun _ _ z => z.tk (.of sF2)) hkp) fun mm hm => ?_, ?_⟩
  · obtain ⟨c, hc, rfl⟩ := List.mem_map.mp hm
    obtain ⟨z, hz, ez⟩ := hL3 c hc
    have e2 := hL1 z hz
    have e3 : (z.1, z.2.1) = (c.nm, hfC cs every c.nm) := by rw [e2, ez]
    obtain ⟨lv, hlv, hR⟩ := paired_memR hk2 (List.mem_map_of_mem hz (f := fun z => (z.1, z.2.1)))
    rw [e3] at hR
    exact ⟨lv, hlv, hR.tk (.of sF2)⟩
  have e3 : (kf.length == k2.length) = true := by
    rw [Paired.length hk2, List.length_map, hL4, kfl]
    exact beq_self_eq_true _
  rw [e3]
  refine ⟨false, rfl, iteF ?_⟩
  have lwA := lw.same sF2
  have hevA := hev3.same sF2
  have ehdA := sF2 _ _ ehd8
  have hkvsA := paired_mono (fun _ _ z => DueR.tk (.of sF2) z) hkvs8
  have wl := rows_len lwA.rows
  have lay : ∀ x : Str, (∃ c ∈ cs, c.nm = x) → PyData.canLay0 (.str x) = true := fun x ⟨c, hc, e⟩ => by
    rw [← e]
    exact lay_name (menu_ok _ (cmem c hc))
  -- those that stand alone
  have ech : chC cs every = (cs.filter fun c => alF ("" : Str) cs every c.nm).map (·.nm) := by
    rw [chC, List.filter_map]
    rfl
  have row_nm : ∀ {σ : L2.St} {H : Hp} {i : Nat} {x : V} {c : SR Str}, Same G10 H → ws[i]? = some x → cs[i]? = some c → σ[7]? = some (some x) → Ev (tOp (rIxT K) (tVar 7) (tC (.int 0))) σ H (.str c.nm) := fun s hx hc hv => by
    obtain ⟨a, t, p1, p2, u, rfl, r1, _⟩ := row_mk (row_at (rows_same s lwA.rows) hx hc)
    exact ev_op (ev_var hv) ev_c (rv_ixT r1 rfl)
  dsimp only
  refine q_when (b := false) (et_test (ev_is (ev_opL (xs := (cs.filter fun c => alF ("" : Str) cs every c.nm).map fun (c : SR Str) => V.str c.nm) (ev_var rfl) (lcL (K := K) cs (fun c => alF ("" : Str) cs every c.nm) (fun (c : SR Str) => V.str c.nm) (ev_var rfl) (SqL.of lwA.rl) wl (by omega) (fun _ => rfl) (fun i x c H2 e hx hc => ?_) fun i x c H2 e hx hc _ => ?_) fun p1 H4 h4 e4 => rv_neLS (xs := chC cs every) (ys := chC cs every) (e4 _ _ lwA.cl) (by rw [h4, ech, List.map_map]; rfl) (fun x hx => ?_) fun x hx => ?_) (by rw [decide_eq_true rfl]; rfl))) (fun h => by cases h) fun _ G11 t11 => ?_
  · obtain ⟨z, hz, ez⟩ := hL3 c (List.mem_of_getElem? hc)
    obtain ⟨t, u, v1, v2, _⟩ := due_get hkvsA hL2 hz
    have en := row_nm (σ := (wipe [some (.ref p), some ev, some (.ref rl), some (.ref tr), some (.ref hd), some (.ref fd), some (.ref cl), o7, o8] [7]).set 7 (some x)) e hx hc rfl
    rw [ez] at v1
    have e2 := hL1 z hz
    refine et_B (ev_is (ev_op (ev_dget (k := Sum.inr c.nm) (ev_var rfl) en (e _ _ ehdA) v1) ev_c (rv_ixT (ex_t e v2) rfl)) ?_)
    rw [e2, ez]
  · exact row_nm e hx hc rfl
  · obtain ⟨c, hc, e⟩ := List.mem_map.mp (List.mem_filter.mp hx).1
    exact lay x ⟨c, hc, e⟩
  · obtain ⟨c, hc, e⟩ := List.mem_map.mp (List.mem_filter.mp hx).1
    exact lay x ⟨c, hc, e⟩
  have lwB := lwA.same t11
  have hevB := hevA.same t11
  have raB : RowsArg K G11 rl ws cs := ⟨lwB.rl, lwB.rows, len⟩
  have chp : ∀ n, alF ("" : Str) cs every n = true → ∀ c ∈ kidsS cs n, c.nm ∈ chC cs every ↔ c.nm ∈ (pick true (kidsS cs n) (hfC cs every n)).1 := fun n hn c hc => by
    obtain ⟨h1, h2⟩ := mem_kids.mp hc
    rw [ch_mem h1, han.a1 c h1, h2, hn, decide_eq_true_eq]
  -- by pairs, below the root
  refine q_when (b := false) (et_is (et_not (et_B (ev_call (vs := [.ref rl, .str "", ev, .ref cl]) (z := .bl true) (ea_cons (ev_var rfl) (ea_cons ev_c (ea_cons (ev_var rfl) (ea_cons (ev_var rfl) ea_nil)))) fun H3 e3 Q3 k3 E3 => ⟨rl, cl, "", ev, ws, cs, every, chC cs every, rfl, raB.same e3, ok, asks, cok, hevB.same e3, hw, lev, (e3 _ _ lwB.cl), ?_, k3⟩))) rfl) (fun h => by cases h) fun _ G12 t12 => ?_
  · have := chp ("" : Str) han.a0
    rw [show hfC cs every ("" : Str) = every from han.h0] at this
    exact this
  have lwC := lwB.same t12
  have raC := raB.same t12
  -- by pairs, below each that stands alone
  refine s_ret (v := .bl true) (ev_opLL (xs := []) (ys := []) ?_ (el_lst ea_nil (Nat.zero_le _)) fun p q H4 h4 h5 e4 => rv_eqL (xs := []) (ys := []) h4 h5) fun G13 t13 => ?_
  · have chl : (chC cs every).length ≤ 12 := by
      have := List.length_filter_le (alF ("" : Str) cs every) (cs.map (·.nm))
      rw [List.length_map] at this
      exact Nat.le_trans this len
    have := lcL (K := K) (σ := [some (.ref p), some ev, some (.ref rl), some (.ref tr), some (.ref hd), some (.ref fd), some (.ref cl), o7, o8]) (tl := tVar 6) (t := tNot (tB (tCall (spPairs K) [] E0 (tCons (tVar 2) (tCons (tVar 8) (tCons (tDGet (tVar 5) (tVar 8)) (tCons (tVar 6) tNil))))))) (te := tVar 8) (j := 8) (vs := [8]) (H := G12) (chC cs every) (fun _ => false) V.str (ev_var rfl) (SqL.of lwC.cl) (by rw [List.length_map]) (by omega) (fun _ => rfl) (fun i x y H2 e hx hy => ?_) fun i x y H2 e hx hy h => by cases h
    · rw [List.filter_eq_nil_iff.mpr fun _ _ => by decide] at this
      exact this
    · rw [List.getElem?_map, hy] at hx
      cases hx
      have hm := List.mem_of_getElem? hy
      obtain ⟨c0, hc0, rfl⟩ := List.mem_map.mp (List.mem_filter.mp hm).1
      have lwe := lwC.same e
      obtain ⟨kvs', v0, g1, g2, g3, g4⟩ := found_get lwe.fd (List.mem_map_of_mem hc0 : c0.nm ∈ cs.map (·.nm))
      obtain ⟨m1, m2, m3⟩ := has_small ok asks hw nev lev (.inr ⟨c0, hc0, rfl⟩)
      refine et_is (et_not (et_B (ev_call (vs := [.ref rl, .str c0.nm, v0, .ref cl]) (z := .bl true) (ea_cons (ev_var rfl) (ea_cons (ev_var rfl) (ea_cons (ev_dget (k := Sum.inr c0.nm) (ev_var rfl) (ev_var rfl) g1 g2) (ea_cons (ev_var rfl) ea_nil)))) fun H3 e3 Q3 k3 E3 => ⟨rl, cl, c0.nm, v0, ws, cs, hfC cs every c0.nm, chC cs every, rfl, (raC.same e).same e3, ok, asks, cok, g3.same e3, m2, m3, e3 _ _ lwe.cl, chp c0.nm ((ch_mem hc0).mp hm), k3⟩))) rfl
  · obtain ⟨h1, h2⟩ := sH (((Same.trans sF2 t11).trans t12).trans t13)
    exact q G13 h1 h2
theorem ok_law {f gS gR : Addr} {fd dS dR : FuncData} (F : Fun K "law" "law" sLaw f fd) (T : TA mg) (Tn : TN mg) (cS : Cal P w K mg base "_law_source" ["_law_script", "_law_k"] 2 (spSource K) gS dS) (cRt : Cal P w K mg base "_law_right" ["_law_source_here"] 17 (spLRight K) gR dR) :
    FnOk P w K mg base CX0 18 f fd ["_law_script"] (spLaw K) := by
  refine F.ok scLaw (fun vs H Q E h => ?_) (fun cdv A outer s H vs Q E hr h => ?_)
  · obtain ⟨a, ns, rfl, _⟩ := h
    rfl
  obtain ⟨a, ns, rfl, hS, hlen, q⟩ := h
  refine ⟨_, (pss_cons (ps_for PassesOwn.never rfl (pi_range1 rfl T.z_range (pa_cons (pe_callB (call_max2 rfl) (by rfl) Tn.z_max (by decide +kernel) (pa_cons pe_int (pa_cons (pe_callB (call_min2 rfl) (by rfl) Tn.z_min (by decide +kernel) (pa_cons pe_int (pa_cons (pe_callB call_len_seq (by rfl) T.z_len PySem.boot_len (pa_cons (pv 0) pa_nil)) pa_nil))) pa_nil))) pa_nil)) (pg_name (i := 1) scLaw.nd rfl (Or.inl rfl)) (pss_cons (ps_set (i := 2) scLaw.nd rfl (Or.inl rfl) (pe_call cS.ok (hr.mono (by decide)) rfl cS.mg cS.kp cS.bd .nil pass0 (pa_cons (pv 0) (pa_cons (pv 1) pa_nil)))) (pss_one (ps_for PassesOwn.never rfl (pi_range1 rfl T.z_range (pa_cons pe_int pa_nil)) (pg_name (i := 3) scLaw.nd rfl (Or.inl rfl)) (pss_one (ps_if (pt_not (pt_val (pe_call cRt.ok (hr.mono (by decide)) rfl cRt.mg cRt.kp cRt.bd .nil pass0 (pa_cons (pv 2) pa_nil)))) (pss_one (ps_ret pe_bl)) pss_nil)))))) (pss_one (ps_ret pe_bl))), ?_⟩
  refine ⟨_, rfl, a, _, rfl, .inl hS, _, _, rfl, _, _, rfl, _, rfl, ?_, ?_, for_range (fun i σ H' => ∃ o1 o2 o3 : Option V, σ = [some (.ref a), o1, o2, o3] ∧ Same H H') ⟨none, none, none, rfl, Same.refl H⟩ ?_ ?_⟩
  · split <;> split <;> omega
  · split <;> split <;> omega
  · rintro i σ H1 hi ⟨o1, o2, o3, rfl, s1⟩
    refine ⟨_, rfl, _, rfl, a, ns, i, by rw [Int.zero_add]; rfl, Same.seq s1 hS, fun sp H2 hsp s2 src2 => ?_⟩
    have hsp0 : H sp = none := Same.free s1 hsp
    refine ⟨6, rfl, by omega, by omega, for_range (n := 6) (fun j σ H' => ∃ o3 : Option V, σ = [some (.ref a), some (.int (0 + (i : Int))), some (.ref sp), o3] ∧ Src H' sp ∧ Same H H') ⟨_, rfl, src2, s1.trans s2⟩ ?_ ?_⟩
    · rintro j σ H3 hj ⟨o3, rfl, src3, s3⟩
      refine ⟨_, rfl, sp, rfl, src3, fun H4 src4 k4 => ⟨true, rfl, iteF ⟨_, rfl, src4, fun b o hb => ?_⟩⟩⟩
      exact k4 b o (ne_of_none hb hsp0) (s3 b o hb)
    · rintro σ H3 ⟨o3, rfl, src3, s3⟩
      exact ⟨_, _, _, rfl, s3⟩
  · rintro σ H1 ⟨o1, o2, o3, rfl, s1⟩
    exact q _
end
end Bd
end

section
namespace Bd
open PySem L2
/-- a def of the text as the top has written it -/
structure DK (K : PySem.W.Frag) (x : Str) (st : Stmt) (f : Addr) : Prop where
  at_ : PySem.W.nsIn K mainGlobals x = some (some (.ref f))
  fn : ∃ fd, Fun K x x st f fd
theorem dk_mk {K : PySem.W.Frag} {x : Str} {st : Stmt} {f : Addr} {oc : Value} {od an : Option Addr} {osl : Array (Option Value)} {kV doc pm cdv ct : Value} (a : PySem.W.nsIn K mainGlobals x = some (some (.ref f)))
    (l : K.lookup f = some ⟨oc, od, .func (PySem.W.fnOf x x (defArgs st) (defBody st) (defScope st) .none kV doc pm an cdv ct), osl⟩) (c : PySem.W.codeIn K cdv x = true) (k : PySem.W.keepIn K (.ref f) = true) : DK K x st f := ⟨a, _, fun_mk l c k⟩
/-- a method of the class -/
structure MK (K : PySem.W.Frag) (C : Addr) (m qual : Str) (st : Stmt) (f : Addr) : Prop where
  me : Meth K C m f
  fn : ∃ fd, Fun K m qual st f fd
theorem mk_mk {K : PySem.W.Frag} {C : Addr} {m qual : Str} {st : Stmt} {f : Addr} {oc : Value} {od an : Option Addr} {osl : Array (Option Value)} {kV doc pm cdv ct : Value} (a : PySem.W.findIn K (.ref C) m = some (some (.ref f))) (i : PySem.W.isFn K (.ref f) = true)
    (l : K.lookup f = some ⟨oc, od, .func (PySem.W.fnOf m qual (defArgs st) (defBody st) (defScope st) .none kV doc pm an cdv ct), osl⟩) (c : PySem.W.codeIn K cdv qual = true) (k : PySem.W.keepIn K (.ref f) = true) : MK K C m qual st f := ⟨⟨a, i, k⟩, _, fun_mk l c k⟩
/-- the maker, with its default -/
structure IK (K : PySem.W.Frag) (C f : Addr) : Prop where
  me : Meth K C "__init__" f
  fn : ∃ fd, FunD K "__init__" "Tree.__init__" (defArgs sInit) (defBody sInit) (defScope sInit) [.bl false] [] f fd
theorem ik_mk {K : PySem.W.Frag} {C f D : Addr} {oc dc : Value} {od an dd : Option Addr} {osl dsl : Array (Option Value)} {kV doc pm cdv ct : Value} {n : Nat} (a : PySem.W.findIn K (.ref C) "__init__" = some (some (.ref f))) (i : PySem.W.isFn K (.ref f) = true)
    (l : K.lookup f = some ⟨oc, od, .func (PySem.W.fnOf "__init__" "Tree.__init__" (defArgs sInit) (defBody sInit) (defScope sInit) (.ref D) kV doc pm an cdv ct), osl⟩) (c : PySem.W.codeIn K cdv "Tree.__init__" = true) (k : PySem.W.keepIn K (.ref f) = true)
    (d : K.lookup D = some ⟨dc, dd, .seq #[.bool false] n, dsl⟩) : IK K C f :=
  ⟨⟨a, i, k⟩, _, ⟨oc, od, .ref D, kV, doc, pm, an, cdv, ct, osl, rfl, l, c, .inr ⟨by simp, D, _, [.bool false], n, rfl, d, rfl, .cons rfl .nil⟩, .inl rfl⟩, k⟩
theorem init_binds2 {K : PySem.W.Frag} {f : Addr} {fd : FuncData} (F : FunD K "__init__" "Tree.__init__" (defArgs sInit) (defBody sInit) (defScope sInit) [.bl false] [] f fd) : Binds K fd ["self", "rows", "handing"] [] := by
  obtain ⟨ds, v, b⟩ := F.binds1 (ps := ["self", "rows", "handing"]) 3 1 (by simp) rfl fun T kV doc pm an cdv ct us its hl hi => match us, its, hl, hi with | [_, _, _], [_], _, _ => ⟨_, rfl, rfl⟩
  cases v
  exact b
theorem init_binds1 {K : PySem.W.Frag} {f : Addr} {fd : FuncData} (F : FunD K "__init__" "Tree.__init__" (defArgs sInit) (defBody sInit) (defScope sInit) [.bl false] [] f fd) : Binds K fd ["self", "rows", "handing"] [.bool false] := by
  obtain ⟨ds, v, b⟩ := F.binds1 (ps := ["self", "rows", "handing"]) 2 0 (by simp) rfl fun T kV doc pm an cdv ct us its hl hi => match us, its, hl, hi with | [_, _], [_], _, _ => ⟨_, rfl, rfl⟩
  cases v with
  | cons a r =>
    cases r
    cases a
    exact b
def leftOf (a1 a2 a3 : Addr) : List (Key × V) := [((Sum.inr "min" : Key), (.ref a1 : V)), ((Sum.inr "low" : Key), (.ref a2 : V)), ((Sum.inr "max" : Key), (.str "endless" : V)), ((Sum.inr "quota" : Key), (.str "endless" : V)), ((Sum.inr "burst" : Key), (.ref a3 : V)), ((Sum.inr "tops" : Key), (.str "endless" : V)), ((Sum.inr "sets" : Key), (.non : V)), ((Sum.inr "alone" : Key), (.int 0 : V))]
/-- the facts of the top -/
structure Tops (P : Program) (w : World) (K : PySem.W.Frag) (mg : Str → Option Value) (C aL q0 q1 : Addr) (left : List (Key × V)) : Prop where
  tp : TP P w K mg aL left
  lv : ∀ H, Paired (PV K H) left leftD
  tc : TC K mg C
  ti : TI K C
  ta : TA mg
  ts : TSo mg
  tn : TN mg
  tu : TU mg
  x0 : XN K mg "NoName" q0
  x1 : XN K mg "NoWord" q1
/-- what the top has written -/
theorem tops_mk {P : Program} {w : World} {K : PySem.W.Frag} {h : Heap} {mg : Str → Option Value} {C aL a1 a2 a3 q0 q1 : Addr} (X : K.In h) (G : h.Ns mainGlobals mg)
    {tl te tg u3 u4 u6 u8 t1 t2 t3 t4 t5 t6 t7 t8 : Tok} {h1 h2 h3 h4 h5 h6 h7 h8 : Int} {ep n1 n2 n3 : Nat} {x1 x2 x3 : Option Addr} {y1 y2 y3 : Array (Option Value)} {p1 p2 p3 p4 p5 p6 : Tok}
    (cz_len : PySem.W.nsIn K mainGlobals "len" = some none)
    (cz_int : PySem.W.nsIn K mainGlobals "int" = some none)
    (cz_bool : PySem.W.nsIn K mainGlobals "bool" = some none)
    (cz_str : PySem.W.nsIn K mainGlobals "str" = some none)
    (cz_tuple : PySem.W.nsIn K mainGlobals "tuple" = some none)
    (cz_list : PySem.W.nsIn K mainGlobals "list" = some none)
    (cz_all : PySem.W.nsIn K mainGlobals "all" = some none)
    (cz_enumerate : PySem.W.nsIn K mainGlobals "enumerate" = some none)
    (cz_isinstance : PySem.W.nsIn K mainGlobals "isinstance" = some none)
    (cz_range : PySem.W.nsIn K mainGlobals "range" = some none)
    (cz_abs : PySem.W.nsIn K mainGlobals "abs" = some none)
    (cz_max : PySem.W.nsIn K mainGlobals "max" = some none)
    (cz_min : PySem.W.nsIn K mainGlobals "min" = some none)
    (cz_sorted : PySem.W.nsIn K mainGlobals "sorted" = some none)
    (cz_set : PySem.W.nsIn K mainGlobals "set" = some none)
    (cz_sum : PySem.W.nsIn K mainGlobals "sum" = some none)
    (cz_dict : PySem.W.nsIn K mainGlobals "dict" = some none)
    (cgL : PySem.W.nsIn K mainGlobals "LONG" = some (some (.int 3000 tl)))
    (cgE : PySem.W.nsIn K mainGlobals "ENDLESS" = some (some (.str "endless" te)))
    (cgG : PySem.W.nsIn K mainGlobals "GREATEST_PROCESSOR" = some (some (.int 63 tg)))
    (cgO : PySem.W.nsIn K mainGlobals "LEFT_OUT" = some (some (.ref aL)))
    (ckO : K.lookup aL = some ⟨.type "dict", none, .dict #[⟨h1, .str "min" t1, .ref a1⟩, ⟨h2, .str "low" t2, .ref a2⟩, ⟨h3, .str "max" t3, .str "endless" u3⟩, ⟨h4, .str "quota" t4, .str "endless" u4⟩, ⟨h5, .str "burst" t5, .ref a3⟩, ⟨h6, .str "tops" t6, .str "endless" u6⟩, ⟨h7, .str "sets" t7, .none⟩, ⟨h8, .str "alone" t8, .int 0 u8⟩] ep, #[]⟩)
    (cl1 : K.lookup a1 = some ⟨.type "tuple", x1, .seq #[.int 0 p1, .int 1 p2] n1, y1⟩)
    (cl2 : K.lookup a2 = some ⟨.type "tuple", x2, .seq #[.int 0 p3, .int 1 p4] n2, y2⟩)
    (cl3 : K.lookup a3 = some ⟨.type "tuple", x3, .seq #[.int 0 p5, .int 1 p6] n3, y3⟩)
    (cgC : PySem.W.nsIn K mainGlobals "Tree" = some (some (.ref C)))
    (cpg : PySem.W.plainGet K C Str.empty = true)
    (chd : PySem.W.hasDictIn K C = true)
    (cpo : PySem.W.plainOver K C = true)
    (csa : PySem.W.findIn K (.ref C) "__setattr__" = some (some (.builtin "object.__setattr__")))
    (cnO : PySem.W.findIn K (.ref C) "order" = some none)
    (cnP : PySem.W.findIn K (.ref C) "parents" = some none)
    (cnK : PySem.W.findIn K (.ref C) "kids" = some none)
    (cnT : PySem.W.findIn K (.ref C) "table" = some none)
    (cnH : PySem.W.findIn K (.ref C) "hands" = some none)
    (ciA : PySem.W.findIn K (.ref C) "__class__" = some (some (.builtin "object.__class__")))
    (ciN : PySem.W.specialIn K (.builtin "object.__class__") "__get__" = some (some (.builtin "getset_descriptor.__get__")))
    (ciT : PySem.W.takesIn K (.builtin "object.__class__") = some true)
    (ciM : PySem.W.mroIn K C (.type "object") = some true)
    (ce0g : PySem.W.nsIn K mainGlobals "NoName" = some (some (.ref q0)))
    (ce0t : PySem.W.typeIn K (.ref q0) = some (.type "type"))
    (cx0k : PySem.W.keepIn K (.ref q0) = true)
    (cx0b : PySem.W.subIn K (.ref q0) (.type "BaseException") = some true)
    (ce1g : PySem.W.nsIn K mainGlobals "NoWord" = some (some (.ref q1)))
    (ce1t : PySem.W.typeIn K (.ref q1) = some (.type "type"))
    (cx1k : PySem.W.keepIn K (.ref q1) = true)
    (cx1b : PySem.W.subIn K (.ref q1) (.type "BaseException") = some true)
    (clo : (aL == sysModules) = false)
    (ch1 : h1 = hashStr w "min")
    (ch2 : h2 = hashStr w "low")
    (ch3 : h3 = hashStr w "max")
    (ch4 : h4 = hashStr w "quota")
    (ch5 : h5 = hashStr w "burst")
    (ch6 : h6 = hashStr w "tops")
    (ch7 : h7 = hashStr w "sets")
    (ch8 : h8 = hashStr w "alone")
    (cy0 : PySem.W.excIn K q0 [.type "ValueError", .type "Exception", .type "BaseException", .type "object"] "ValueError.__new__" = true)
    (cy1 : PySem.W.excIn K q1 [.type "ValueError", .type "Exception", .type "BaseException", .type "object"] "ValueError.__new__" = true)
    : Tops P w K mg C aL q0 q1 (leftOf a1 a2 a3) := by
  have L : ∀ {a : Addr} {x : Option Addr} {n : Nat} {y : Array (Option Value)} {p q : Tok}, K.lookup a = some ⟨.type "tuple", x, .seq #[.int 0 p, .int 1 q] n, y⟩ → ∀ H, Dp K H (.ref a) (.tuple [.int 0, .int 1]) := fun e H =>
    .tup (xs := [V.int 0, V.int 1]) (.inr ⟨_, _, _, e, rfl, rfl, by show 2 ≤ sizeLine; decide, .cons ⟨_, rfl⟩ (.cons ⟨_, rfl⟩ .nil)⟩) (.cons (.int _) (.cons (.int _) .nil))
  refine ⟨⟨PySem.W.mg_none_of X G cz_len, PySem.W.mg_none_of X G cz_int, PySem.W.mg_none_of X G cz_bool, PySem.W.mg_none_of X G cz_str, PySem.W.mg_none_of X G cz_tuple, PySem.W.mg_none_of X G cz_list, PySem.W.mg_none_of X G cz_dict, PySem.W.mg_none_of X G cz_all, PySem.W.mg_none_of X G cz_enumerate, PySem.W.mg_none_of X G cz_isinstance, ⟨_, PySem.W.mg_of X G cgL⟩, ⟨_, PySem.W.mg_of X G cgE⟩, ⟨_, PySem.W.mg_of X G cgG⟩, PySem.W.mg_of X G cgO, ⟨clo, ?_, by show 8 ≤ 1000; decide⟩, rfl⟩, fun H => ?_,
    ⟨⟨cpg, chd, cpo, csa⟩, cnO, cnP, cnK, cnT, cnH, PySem.W.mg_of X G cgC⟩, ⟨ciA, ciN, ciT, ciM⟩, ⟨PySem.W.mg_none_of X G cz_len, PySem.W.mg_none_of X G cz_int, PySem.W.mg_none_of X G cz_range, PySem.W.mg_none_of X G cz_abs, PySem.W.mg_none_of X G cz_tuple, PySem.W.mg_none_of X G cz_list, PySem.W.mg_none_of X G cz_enumerate⟩, ⟨PySem.W.mg_none_of X G cz_sorted, PySem.W.mg_none_of X G cz_set, PySem.W.mg_none_of X G cz_max⟩, ⟨PySem.W.mg_none_of X G cz_max, PySem.W.mg_none_of X G cz_min, PySem.W.mg_none_of X G cz_dict⟩, ⟨PySem.W.mg_none_of X G cz_sum⟩, ⟨cy0, PySem.W.mg_of X G ce0g, cx0k, cx0b, ce0t⟩, ⟨cy1, PySem.W.mg_of X G ce1g, cx1k, cx1b, ce1t⟩⟩
  · refine ⟨[((Sum.inr "min" : Key), (.ref a1 : Value)), ((Sum.inr "low" : Key), (.ref a2 : Value)), ((Sum.inr "max" : Key), (.str "endless" u3 : Value)), ((Sum.inr "quota" : Key), (.str "endless" u4 : Value)), ((Sum.inr "burst" : Key), (.ref a3 : Value)), ((Sum.inr "tops" : Key), (.str "endless" u6 : Value)), ((Sum.inr "sets" : Key), (.none : Value)), ((Sum.inr "alone" : Key), (.int 0 u8 : Value))], .cons ⟨rfl, rfl⟩ (.cons ⟨rfl, rfl⟩ (.cons ⟨rfl, ⟨_, rfl⟩⟩ (.cons ⟨rfl, ⟨_, rfl⟩⟩ (.cons ⟨rfl, rfl⟩ (.cons ⟨rfl, ⟨_, rfl⟩⟩ (.cons ⟨rfl, rfl⟩ (.cons ⟨rfl, ⟨_, rfl⟩⟩ (.nil)))))))), fun h2 X2 => ⟨_, _, _, X2 _ _ ckO, ⟨rfl, rfl, rfl⟩, rfl, fun e he => ?_, .cons (by simp [mixKind, keyIs, Value.isStrOf]) rfl (.cons (by simp [mixKind, keyIs, Value.isStrOf]) rfl (.cons (by simp [mixKind, keyIs, Value.isStrOf]) rfl (.cons (by simp [mixKind, keyIs, Value.isStrOf]) rfl (.cons (by simp [mixKind, keyIs, Value.isStrOf]) rfl (.cons (by simp [mixKind, keyIs, Value.isStrOf]) rfl (.cons (by simp [mixKind, keyIs, Value.isStrOf]) rfl (.cons (by simp [mixKind, keyIs, Value.isStrOf]) rfl (.nil)))))))), ?_⟩⟩
    · simp only [List.mem_toArray, List.mem_cons, List.not_mem_nil, or_false] at he
      rcases he with rfl | rfl | rfl | rfl | rfl | rfl | rfl | rfl
      · exact ⟨Sum.inr "min", by simp [mixKind, keyIs, Value.isStrOf], ch1⟩
      · exact ⟨Sum.inr "low", by simp [mixKind, keyIs, Value.isStrOf], ch2⟩
      · exact ⟨Sum.inr "max", by simp [mixKind, keyIs, Value.isStrOf], ch3⟩
      · exact ⟨Sum.inr "quota", by simp [mixKind, keyIs, Value.isStrOf], ch4⟩
      · exact ⟨Sum.inr "burst", by simp [mixKind, keyIs, Value.isStrOf], ch5⟩
      · exact ⟨Sum.inr "tops", by simp [mixKind, keyIs, Value.isStrOf], ch6⟩
      · exact ⟨Sum.inr "sets", by simp [mixKind, keyIs, Value.isStrOf], ch7⟩
      · exact ⟨Sum.inr "alone", by simp [mixKind, keyIs, Value.isStrOf], ch8⟩
    · show ([Sum.inr "min", Sum.inr "low", Sum.inr "max", Sum.inr "quota", Sum.inr "burst", Sum.inr "tops", Sum.inr "sets", Sum.inr "alone"] : List Key).Nodup
      decide
  · exact .cons ⟨rfl, L cl1 H⟩ (.cons ⟨rfl, L cl2 H⟩ (.cons ⟨rfl, .str _⟩ (.cons ⟨rfl, .str _⟩ (.cons ⟨rfl, L cl3 H⟩ (.cons ⟨rfl, .str _⟩ (.cons ⟨rfl, .non⟩ (.cons ⟨rfl, .int _⟩ (.nil))))))))
theorem all_mk {P : Program} {w : World} {K : PySem.W.Frag} {h : Heap} {mg : Str → Option Value} {fa C aL q0 q1 i : Addr} {left : List (Key × V)} {m0 m1 m2 : Addr} {f0 f1 f2 f3 f4 f5 f6 f7 f8 f9 f10 f11 f12 f13 f14 f15 f16 f17 f18 f19 f20 f21 f22 f23 f24 f25 f26 f27 f28 f29 f30 f31 f32 f33 f34 f35 : Addr} (X : K.In h) (G : h.Ns mainGlobals mg) (hfa : mg "law" = some (.ref fa)) (TT : Tops P w K mg C aL q0 q1 left)
    (D0 : DK K "is_integer" sIsInteger f0)
    (D1 : DK K "is_amount" sIsAmount f1)
    (D2 : DK K "divisor" sDivisor f2)
    (D3 : DK K "is_name" sIsName f3)
    (D4 : DK K "is_word" sIsWord f4)
    (D5 : DK K "is_endless" sIsEndless f5)
    (D6 : DK K "is_set" sIsSet f6)
    (D7 : DK K "may_have" sMayHave f7)
    (D8 : DK K "is_due" sIsDue f8)
    (D9 : DK K "is_dues" sIsDues f9)
    (D10 : DK K "is_group_row" sIsGroupRow f10)
    (D11 : DK K "may_stand" sMayStand f11)
    (D12 : DK K "check_tree" sCTree f12)
    (D13 : DK K "check_group" sCheckGroup f13)
    (D14 : DK K "sets" sSets f14)
    (D15 : DK K "stands_alone" sStands f15)
    (D16 : DK K "check_whole" sCWhole f16)
    (D17 : DK K "handed_down" sHanded f17)
    (D18 : DK K "may_stand_alone" sMay f18)
    (D19 : DK K "shared" sShared f19)
    (D20 : DK K "without" sWithout f20)
    (D21 : DK K "_law_cell_at" sCellAt f21)
    (D22 : DK K "_law_mixed" sMixed f22)
    (D23 : DK K "_law_source" sSource f23)
    (D24 : DK K "_law_next" sNext f24)
    (D25 : DK K "_law_one" sOne f25)
    (D26 : DK K "_law_names" sNames2 f26)
    (D27 : DK K "_law_set" sLSet f27)
    (D28 : DK K "_law_some_of" sLSome f28)
    (D29 : DK K "_law_set_rows" sLRows f29)
    (D30 : DK K "_law_asks" sLAsks f30)
    (D31 : DK K "_law_alone" sLAlone2 f31)
    (D32 : DK K "_law_pairs_right" sLPairs f32)
    (D33 : DK K "_law_due" sLDue f33)
    (D34 : DK K "_law_right" sLRight f34)
    (D35 : DK K "law" sLaw f35)
    (M0 : MK K C "names" "Tree.names" sTNames m0)
    (M1 : MK K C "children" "Tree.children" sTKids m1)
    (M2 : MK K C "due" "Tree.due" sTDue m2)
    (DI : IK K C i) (mk : PySem.W.makesIn K C = true) (kc : PySem.W.keepIn K (.ref C) = true) :
    ∃ fd : FuncData, (∀ (s : Shared) (v : Value), BindsTo s fd ⟨[v], []⟩ [("_law_script", v)]) ∧ ∀ base : Heap, K.In base → base.Ns mainGlobals mg → FnOk P w K mg base CX0 18 fa fd ["_law_script"] (spLaw K) := by
  have e1 := hfa.symm.trans (PySem.W.mg_of X G D35.at_)
  cases e1
  obtain ⟨d0, F0⟩ := D0.fn
  obtain ⟨d1, F1⟩ := D1.fn
  obtain ⟨d2, F2⟩ := D2.fn
  obtain ⟨d3, F3⟩ := D3.fn
  obtain ⟨d4, F4⟩ := D4.fn
  obtain ⟨d5, F5⟩ := D5.fn
  obtain ⟨d6, F6⟩ := D6.fn
  obtain ⟨d7, F7⟩ := D7.fn
  obtain ⟨d8, F8⟩ := D8.fn
  obtain ⟨d9, F9⟩ := D9.fn
  obtain ⟨d10, F10⟩ := D10.fn
  obtain ⟨d11, F11⟩ := D11.fn
  obtain ⟨d12, F12⟩ := D12.fn
  obtain ⟨d13, F13⟩ := D13.fn
  obtain ⟨d14, F14⟩ := D14.fn
  obtain ⟨d15, F15⟩ := D15.fn
  obtain ⟨d16, F16⟩ := D16.fn
  obtain ⟨d17, F17⟩ := D17.fn
  obtain ⟨d18, F18⟩ := D18.fn
  obtain ⟨d19, F19⟩ := D19.fn
  obtain ⟨d20, F20⟩ := D20.fn
  obtain ⟨d21, F21⟩ := D21.fn
  obtain ⟨d22, F22⟩ := D22.fn
  obtain ⟨d23, F23⟩ := D23.fn
  obtain ⟨d24, F24⟩ := D24.fn
  obtain ⟨d25, F25⟩ := D25.fn
  obtain ⟨d26, F26⟩ := D26.fn
  obtain ⟨d27, F27⟩ := D27.fn
  obtain ⟨d28, F28⟩ := D28.fn
  obtain ⟨d29, F29⟩ := D29.fn
  obtain ⟨d30, F30⟩ := D30.fn
  obtain ⟨d31, F31⟩ := D31.fn
  obtain ⟨d32, F32⟩ := D32.fn
  obtain ⟨d33, F33⟩ := D33.fn
  obtain ⟨d34, F34⟩ := D34.fn
  obtain ⟨d35, F35⟩ := D35.fn
  obtain ⟨e0, E0⟩ := M0.fn
  obtain ⟨e1, E1⟩ := M1.fn
  obtain ⟨e2, E2⟩ := M2.fn
  obtain ⟨di, FIn⟩ := DI.fn
  have T := TT.tp
  have TCl := TT.tc
  have TA1 := TT.ta
  have b0 : Binds K d0 ["thing"] [] := F0.binds fun _ _ _ _ _ _ us hl => match us, hl with | [_], _ => rfl
  have b1 : Binds K d1 ["thing"] [] := F1.binds fun _ _ _ _ _ _ us hl => match us, hl with | [_], _ => rfl
  have b2 : Binds K d2 ["one", "other"] [] := F2.binds fun _ _ _ _ _ _ us hl => match us, hl with | [_, _], _ => rfl
  have b3 : Binds K d3 ["thing"] [] := F3.binds fun _ _ _ _ _ _ us hl => match us, hl with | [_], _ => rfl
  have b4 : Binds K d4 ["thing"] [] := F4.binds fun _ _ _ _ _ _ us hl => match us, hl with | [_], _ => rfl
  have b5 : Binds K d5 ["thing"] [] := F5.binds fun _ _ _ _ _ _ us hl => match us, hl with | [_], _ => rfl
  have b6 : Binds K d6 ["thing"] [] := F6.binds fun _ _ _ _ _ _ us hl => match us, hl with | [_], _ => rfl
  have b7 : Binds K d7 ["word", "value"] [] := F7.binds fun _ _ _ _ _ _ us hl => match us, hl with | [_, _], _ => rfl
  have b8 : Binds K d8 ["thing"] [] := F8.binds fun _ _ _ _ _ _ us hl => match us, hl with | [_], _ => rfl
  have b9 : Binds K d9 ["thing"] [] := F9.binds fun _ _ _ _ _ _ us hl => match us, hl with | [_], _ => rfl
  have b10 : Binds K d10 ["thing"] [] := F10.binds fun _ _ _ _ _ _ us hl => match us, hl with | [_], _ => rfl
  have b11 : Binds K d11 ["tree", "row"] [] := F11.binds fun _ _ _ _ _ _ us hl => match us, hl with | [_, _], _ => rfl
  have b12 : Binds K d12 ["thing"] [] := F12.binds fun _ _ _ _ _ _ us hl => match us, hl with | [_], _ => rfl
  have b13 : Binds K d13 ["tree", "name"] [] := F13.binds fun _ _ _ _ _ _ us hl => match us, hl with | [_, _], _ => rfl
  have b14 : Binds K d14 ["tree", "whole"] [] := F14.binds fun _ _ _ _ _ _ us hl => match us, hl with | [_, _], _ => rfl
  have b15 : Binds K d15 ["tree", "whole"] [] := F15.binds fun _ _ _ _ _ _ us hl => match us, hl with | [_, _], _ => rfl
  have b16 : Binds K d16 ["whole"] [] := F16.binds fun _ _ _ _ _ _ us hl => match us, hl with | [_], _ => rfl
  have b17 : Binds K d17 ["tree", "whole"] [] := F17.binds fun _ _ _ _ _ _ us hl => match us, hl with | [_, _], _ => rfl
  have b18 : Binds K d18 ["tree", "child", "free"] [] := F18.binds fun _ _ _ _ _ _ us hl => match us, hl with | [_, _, _], _ => rfl
  have b19 : Binds K d19 ["asked", "free"] [] := F19.binds fun _ _ _ _ _ _ us hl => match us, hl with | [_, _], _ => rfl
  have b20 : Binds K d20 ["numbers", "gone"] [] := F20.binds fun _ _ _ _ _ _ us hl => match us, hl with | [_, _], _ => rfl
  have b21 : Binds K d21 ["_law_script", "_law_k"] [] := F21.binds fun _ _ _ _ _ _ us hl => match us, hl with | [_, _], _ => rfl
  have b22 : Binds K d22 ["_law_cell", "_law_k"] [] := F22.binds fun _ _ _ _ _ _ us hl => match us, hl with | [_, _], _ => rfl
  have b23 : Binds K d23 ["_law_script", "_law_k"] [] := F23.binds fun _ _ _ _ _ _ us hl => match us, hl with | [_, _], _ => rfl
  have b24 : Binds K d24 ["_law_source_here", "_law_many"] [] := F24.binds fun _ _ _ _ _ _ us hl => match us, hl with | [_, _], _ => rfl
  have b25 : Binds K d25 ["_law_source_here", "_law_things"] [] := F25.binds fun _ _ _ _ _ _ us hl => match us, hl with | [_, _], _ => rfl
  have b26 : Binds K d26 ["_law_source_here", "_law_many"] [] := F26.binds fun _ _ _ _ _ _ us hl => match us, hl with | [_, _], _ => rfl
  have b27 : Binds K d27 ["_law_source_here", "_law_few"] [] := F27.binds fun _ _ _ _ _ _ us hl => match us, hl with | [_, _], _ => rfl
  have b28 : Binds K d28 ["_law_source_here", "_law_many_so"] [] := F28.binds fun _ _ _ _ _ _ us hl => match us, hl with | [_, _], _ => rfl
  have b29 : Binds K d29 ["_law_source_here", "_law_many", "_law_every"] [] := F29.binds fun _ _ _ _ _ _ us hl => match us, hl with | [_, _, _], _ => rfl
  have b30 : Binds K d30 ["_law_rows", "_law_name"] [] := F30.binds fun _ _ _ _ _ _ us hl => match us, hl with | [_, _], _ => rfl
  have b31 : Binds K d31 ["_law_rows", "_law_name", "_law_own", "_law_is_alone"] [] := F31.binds fun _ _ _ _ _ _ us hl => match us, hl with | [_, _, _, _], _ => rfl
  have b32 : Binds K d32 ["_law_rows", "_law_name", "_law_own", "_law_chosen"] [] := F32.binds fun _ _ _ _ _ _ us hl => match us, hl with | [_, _, _, _], _ => rfl
  have b33 : Binds K d33 ["_law_rows", "_law_name", "_law_own", "_law_is_alone", "_law_found"] [] := F33.binds fun _ _ _ _ _ _ us hl => match us, hl with | [_, _, _, _, _], _ => rfl
  have b34 : Binds K d34 ["_law_source_here"] [] := F34.binds fun _ _ _ _ _ _ us hl => match us, hl with | [_], _ => rfl
  have v0 : Binds K e0 ["self"] [] := E0.binds fun _ _ _ _ _ _ us hl => match us, hl with | [_], _ => rfl
  have v1 : Binds K e1 ["self", "name"] [] := E1.binds fun _ _ _ _ _ _ us hl => match us, hl with | [_, _], _ => rfl
  have v2 : Binds K e2 ["self", "name", "word"] [] := E2.binds fun _ _ _ _ _ _ us hl => match us, hl with | [_, _, _], _ => rfl
  obtain ⟨oc, od, kV, doc, pm, an, cdv, ct, osl, rfl, lk, hcd⟩ := id F35.ex
  refine ⟨PySem.W.fnOf "law" "law" (defArgs sLaw) (defBody sLaw) (defScope sLaw) .none kV doc pm an cdv ct, fun s v => .of_eq rfl, fun base _ _ => ?_⟩
  have c0 : Cal P w K mg base "is_integer" ["thing"] 1 spIsInteger f0 d0 := ⟨ok_isInteger F0 T, PySem.W.mg_of X G D0.at_, F0.kp, b0⟩
  have c2 : Cal P w K mg base "divisor" ["one", "other"] 1 spDivisor f2 d2 := ⟨ok_divisor F2 T, PySem.W.mg_of X G D2.at_, F2.kp, b2⟩
  have c1 : Cal P w K mg base "is_amount" ["thing"] 2 (spIsAmount K) f1 d1 := ⟨ok_isAmount F1 T c0 c2, PySem.W.mg_of X G D1.at_, F1.kp, b1⟩
  have c5 : Cal P w K mg base "is_endless" ["thing"] 1 (spIsEndless K) f5 d5 := ⟨ok_isEndless F5 T, PySem.W.mg_of X G D5.at_, F5.kp, b5⟩
  have c4 : Cal P w K mg base "is_word" ["thing"] 1 spIsWord f4 d4 := ⟨ok_isWord F4 T, PySem.W.mg_of X G D4.at_, F4.kp, b4⟩
  have z4 : Cal P w K mg base "is_word" ["thing"] 1 (spIsWord2 K) f4 d4 := ⟨ok_isWord2 F4 T, PySem.W.mg_of X G D4.at_, F4.kp, b4⟩
  have c6 : Cal P w K mg base "is_set" ["thing"] 2 (spIsSet K) f6 d6 := ⟨ok_isSet F6 T c0, PySem.W.mg_of X G D6.at_, F6.kp, b6⟩
  have c7 : Cal P w K mg base "may_have" ["word", "value"] 3 (spMayHave K) f7 d7 := ⟨ok_mayHave F7 T c1 c0 c6 c5, PySem.W.mg_of X G D7.at_, F7.kp, b7⟩
  have c8 : Cal P w K mg base "is_due" ["thing"] 4 (spIsDue K) f8 d8 := ⟨ok_isDue F8 T c4 c7, PySem.W.mg_of X G D8.at_, F8.kp, b8⟩
  have c3 : Cal P w K mg base "is_name" ["thing"] 1 spIsName f3 d3 := ⟨ok_isName F3 T, PySem.W.mg_of X G D3.at_, F3.kp, b3⟩
  have c9 : Cal P w K mg base "is_dues" ["thing"] 5 (spIsDues K) f9 d9 := ⟨ok_isDues F9 T c8, PySem.W.mg_of X G D9.at_, F9.kp, b9⟩
  have c10 : Cal P w K mg base "is_group_row" ["thing"] 6 (spIsGroupRow K) f10 d10 := ⟨ok_isGroupRow F10 T c3 c9, PySem.W.mg_of X G D10.at_, F10.kp, b10⟩
  have c11 : Cal P w K mg base "may_stand" ["tree", "row"] 2 (spMayStand K C) f11 d11 := ⟨ok_mayStand F11 T TCl c5, PySem.W.mg_of X G D11.at_, F11.kp, b11⟩
  have c13 : CalX P w K mg base "check_group" ["tree", "name"] 1 (spCG K C q0) f13 d13 := ⟨ok_checkGroup F13 T TCl TT.x0, PySem.W.mg_of X G D13.at_, F13.kp, b13⟩
  have w0 : FnOk P w K mg base CX0 1 m0 e0 ["self"] (spTNames K C) := ok_tnames E0 T TCl
  have w1 : FnOk P w K mg base (L2.CX P w) 1 m1 e1 ["self", "name"] (spTKids K C q0) := ok_tkids E1 T TCl TT.x0
  have w2 : FnOk P w K mg base (L2.CX P w) 2 m2 e2 ["self", "name", "word"] (spTDue K C q0 q1) := ok_tdue E2 TCl TT.x1 c13 z4
  have FI : FnOk P w K mg base CX0 7 i di ["self", "rows", "handing"] (spInit K C) := ok_init FIn T TCl TT.lv c10 c11
  have c12 : Cal P w K mg base "check_tree" ["thing"] 1 (spCTree K C) f12 d12 := ⟨ok_ctree F12 T TCl TT.ti, PySem.W.mg_of X G D12.at_, F12.kp, b12⟩
  have c16 : Cal P w K mg base "check_whole" ["whole"] 3 (spCWhole K) f16 d16 := ⟨ok_cwhole F16 T c6, PySem.W.mg_of X G D16.at_, F16.kp, b16⟩
  have c18 : Cal P w K mg base "may_stand_alone" ["tree", "child", "free"] 3 (spMay K C) f18 d18 := ⟨ok_may F18 T TCl M2.me w2 v2, PySem.W.mg_of X G D18.at_, F18.kp, b18⟩
  have c19 : Cal P w K mg base "shared" ["asked", "free"] 1 (spShared K) f19 d19 := ⟨ok_shared F19 T, PySem.W.mg_of X G D19.at_, F19.kp, b19⟩
  have c20 : Cal P w K mg base "without" ["numbers", "gone"] 1 (spWithout K) f20 d20 := ⟨ok_without F20 T, PySem.W.mg_of X G D20.at_, F20.kp, b20⟩
  have c17 : Cal P w K mg base "handed_down" ["tree", "whole"] 4 (spHanded K C) f17 d17 := ⟨ok_handed F17 TCl M0.me M1.me M2.me w0 v0 w1 v1 w2 v2 c18 c20 c19, PySem.W.mg_of X G D17.at_, F17.kp, b17⟩
  have c14 : Cal P w K mg base "sets" ["tree", "whole"] 5 (spSets K C) f14 d14 := ⟨ok_sets F14 c12 c16 c17, PySem.W.mg_of X G D14.at_, F14.kp, b14⟩
  have c15 : Cal P w K mg base "stands_alone" ["tree", "whole"] 5 (spStands K C) f15 d15 := ⟨ok_stands F15 TCl M0.me w0 v0 c12 c16 c17, PySem.W.mg_of X G D15.at_, F15.kp, b15⟩
  have c21 : Cal P w K mg base "_law_cell_at" ["_law_script", "_law_k"] 1 (spCellAt K) f21 d21 := ⟨ok_cellAt F21 TA1, PySem.W.mg_of X G D21.at_, F21.kp, b21⟩
  have c22 : Cal P w K mg base "_law_mixed" ["_law_cell", "_law_k"] 1 spMixed f22 d22 := ⟨ok_mixed F22 TA1, PySem.W.mg_of X G D22.at_, F22.kp, b22⟩
  have c24 : Cal P w K mg base "_law_next" ["_law_source_here", "_law_many"] 2 spNext f24 d24 := ⟨ok_next F24 TA1 c22, PySem.W.mg_of X G D24.at_, F24.kp, b24⟩
  have c23 : Cal P w K mg base "_law_source" ["_law_script", "_law_k"] 2 (spSource K) f23 d23 := ⟨ok_source F23 TA1 c22 c21, PySem.W.mg_of X G D23.at_, F23.kp, b23⟩
  have c25 : Cal P w K mg base "_law_one" ["_law_source_here", "_law_things"] 3 (spOne K) f25 d25 := ⟨ok_one F25 TA1 c24, PySem.W.mg_of X G D25.at_, F25.kp, b25⟩
  have c26 : Cal P w K mg base "_law_names" ["_law_source_here", "_law_many"] 3 spNames2 f26 d26 := ⟨ok_names2 F26 TA1 c24, PySem.W.mg_of X G D26.at_, F26.kp, b26⟩
  have c27 : Cal P w K mg base "_law_set" ["_law_source_here", "_law_few"] 3 (spLSet K) f27 d27 := ⟨ok_lset F27 TA1 TT.ts c24, PySem.W.mg_of X G D27.at_, F27.kp, b27⟩
  have c28 : Cal P w K mg base "_law_some_of" ["_law_source_here", "_law_many_so"] 3 (spLSome K) f28 d28 := ⟨ok_lsome F28 TA1 c24, PySem.W.mg_of X G D28.at_, F28.kp, b28⟩
  have c29 : Cal P w K mg base "_law_set_rows" ["_law_source_here", "_law_many", "_law_every"] 4 (spLRows K) f29 d29 := ⟨ok_lrows F29 TA1 TT.ts c24 c26 c28 c27 c25, PySem.W.mg_of X G D29.at_, F29.kp, b29⟩
  have c30 : Cal P w K mg base "_law_asks" ["_law_rows", "_law_name"] 1 (spAsks K) f30 d30 := ⟨ok_asks F30 , PySem.W.mg_of X G D30.at_, F30.kp, b30⟩
  have c31 : Cal P w K mg base "_law_alone" ["_law_rows", "_law_name", "_law_own", "_law_is_alone"] 2 (spAlone K) f31 d31 := ⟨ok_alone2 F31 TA1 c30, PySem.W.mg_of X G D31.at_, F31.kp, b31⟩
  have c33 : Cal P w K mg base "_law_due" ["_law_rows", "_law_name", "_law_own", "_law_is_alone", "_law_found"] 16 (spDue K 13) f33 d33 := ⟨ok_dueN F33 TA1 c30 c31 (PySem.W.mg_of X G D33.at_) F33.kp b33 13, PySem.W.mg_of X G D33.at_, F33.kp, b33⟩
  have c32 : Cal P w K mg base "_law_pairs_right" ["_law_rows", "_law_name", "_law_own", "_law_chosen"] 2 (spPairs K) f32 d32 := ⟨ok_pairs F32 TA1 TT.tu c30, PySem.W.mg_of X G D32.at_, F32.kp, b32⟩
  have c34 : Cal P w K mg base "_law_right" ["_law_source_here"] 17 (spLRight K) f34 d34 := ⟨ok_lright F34 TT.tn TA1 TCl ⟨mk, DI.me.at_, DI.me.fn, kc⟩ FI (init_binds1 FIn) c27 c24 c29 c14 c15 c33 c32, PySem.W.mg_of X G D34.at_, F34.kp, b34⟩
  exact ok_law F35 TA1 TT.tn c23 c34
theorem walk {l : PySem.W.OpenLaw} {q : Program} {loose : List Str} {XP : (Str → Option Value) → Heap → Prop} {YP : World → Heap → Prop} {d : DefRec} {K : Params → PySem.W.Frag} (hn : l.most = some 63) (hdf : d.params.defaults = [])
    (hY : ∀ (w : World) (h : Heap), YP w h → (K w.params).In h)
    (F : ∀ (w : World) (mg : Str → Option Value) (fa : Addr) (h : Heap), (K w.params).In h → h.Ns mainGlobals mg → mg d.name = some (.ref fa) →
      ∃ fd : FuncData, (∀ (s : Shared) (u : Value), BindsTo s fd ⟨[u], []⟩ [("_law_script", u)]) ∧ ∀ base : Heap, (K w.params).In base → base.Ns mainGlobals mg → FnOk l.prog w (K w.params) mg base CX0 18 fa fd ["_law_script"] (spLaw (K w.params))) :
    PySem.W.WalkO q loose XP YP l.row.toRowW d [] (fun f vs => PySem.call f vs) :=
  L2.walk_of (n := 63) (k := 18) (x := "_law_script") (CX := fun _ => CX0) (sp := fun w => spLaw (K w.params)) hn (by decide) hdf ⟨rfl, by decide, by decide⟩ hY F (fun _ _ a ns hl _ hS => ⟨a, ns, rfl, hS, hl, fun _ => rfl⟩) fun _ _ _ _ _ z => z
end Bd
end
open PySem PySem.W PyProof.Rows
set_option maxRecDepth 100000 in
set_option maxHeartbeats 0 in
theorem PySem.Challenge.cw_branchdues_k68_whole_sets_holds : PySem.Challenge.rw_branchdues_k68_whole_sets.Holds := by
  w_on; o_law; k_head; (case hw => w_witness2)
  k_fill
  refine Bd.walk (l := PySem.Challenge.rw_branchdues_k68_whole_sets) rfl rfl (fun w h Y => PySem.W.kIn_of Y) ?F
  case F =>
    intro w mg fa h KX G hmg
    refine' Bd.all_mk KX G hmg (Bd.tops_mk KX G ?zzcz_len ?zzcz_int ?zzcz_bool ?zzcz_str ?zzcz_tuple ?zzcz_list ?zzcz_all ?zzcz_enumerate ?zzcz_isinstance ?zzcz_range ?zzcz_abs ?zzcz_max ?zzcz_min ?zzcz_sorted ?zzcz_set ?zzcz_sum ?zzcz_dict ?zzcgL ?zzcgE ?zzcgG ?zzcgO ?zzckO ?zzcl1 ?zzcl2 ?zzcl3 ?zzcgC ?zzcpg ?zzchd ?zzcpo ?zzcsa ?zzcnO ?zzcnP ?zzcnK ?zzcnT ?zzcnH ?zzciA ?zzciN ?zzciT ?zzciM ?zzce0g ?zzce0t ?zzcx0k ?zzcx0b ?zzce1g ?zzce1t ?zzcx1k ?zzcx1b ?zzclo ?zzch1 ?zzch2 ?zzch3 ?zzch4 ?zzch5 ?zzch6 ?zzch7 ?zzch8 ?zzcy0 ?zzcy1) (Bd.dk_mk ?zza0 ?zzb0 ?zzd0 ?zzg0) (Bd.dk_mk ?zza1 ?zzb1 ?zzd1 ?zzg1) (Bd.dk_mk ?zza2 ?zzb2 ?zzd2 ?zzg2) (Bd.dk_mk ?zza3 ?zzb3 ?zzd3 ?zzg3) (Bd.dk_mk ?zza4 ?zzb4 ?zzd4 ?zzg4) (Bd.dk_mk ?zza5 ?zzb5 ?zzd5 ?zzg5) (Bd.dk_mk ?zza6 ?zzb6 ?zzd6 ?zzg6) (Bd.dk_mk ?zza7 ?zzb7 ?zzd7 ?zzg7) (Bd.dk_mk ?zza8 ?zzb8 ?zzd8 ?zzg8) (Bd.dk_mk ?zza9 ?zzb9 ?zzd9 ?zzg9) (Bd.dk_mk ?zza10 ?zzb10 ?zzd10 ?zzg10) (Bd.dk_mk ?zza11 ?zzb11 ?zzd11 ?zzg11) (Bd.dk_mk ?zza12 ?zzb12 ?zzd12 ?zzg12) (Bd.dk_mk ?zza13 ?zzb13 ?zzd13 ?zzg13) (Bd.dk_mk ?zza14 ?zzb14 ?zzd14 ?zzg14) (Bd.dk_mk ?zza15 ?zzb15 ?zzd15 ?zzg15) (Bd.dk_mk ?zza16 ?zzb16 ?zzd16 ?zzg16) (Bd.dk_mk ?zza17 ?zzb17 ?zzd17 ?zzg17) (Bd.dk_mk ?zza18 ?zzb18 ?zzd18 ?zzg18) (Bd.dk_mk ?zza19 ?zzb19 ?zzd19 ?zzg19) (Bd.dk_mk ?zza20 ?zzb20 ?zzd20 ?zzg20) (Bd.dk_mk ?zza21 ?zzb21 ?zzd21 ?zzg21) (Bd.dk_mk ?zza22 ?zzb22 ?zzd22 ?zzg22) (Bd.dk_mk ?zza23 ?zzb23 ?zzd23 ?zzg23) (Bd.dk_mk ?zza24 ?zzb24 ?zzd24 ?zzg24) (Bd.dk_mk ?zza25 ?zzb25 ?zzd25 ?zzg25) (Bd.dk_mk ?zza26 ?zzb26 ?zzd26 ?zzg26) (Bd.dk_mk ?zza27 ?zzb27 ?zzd27 ?zzg27) (Bd.dk_mk ?zza28 ?zzb28 ?zzd28 ?zzg28) (Bd.dk_mk ?zza29 ?zzb29 ?zzd29 ?zzg29) (Bd.dk_mk ?zza30 ?zzb30 ?zzd30 ?zzg30) (Bd.dk_mk ?zza31 ?zzb31 ?zzd31 ?zzg31) (Bd.dk_mk ?zza32 ?zzb32 ?zzd32 ?zzg32) (Bd.dk_mk ?zza33 ?zzb33 ?zzd33 ?zzg33) (Bd.dk_mk ?zza34 ?zzb34 ?zzd34 ?zzg34) (Bd.dk_mk ?zza35 ?zzb35 ?zzd35 ?zzg35) (Bd.mk_mk ?zzm0a ?zzm0b ?zzm0c ?zzm0d ?zzm0e) (Bd.mk_mk ?zzm1a ?zzm1b ?zzm1c ?zzm1d ?zzm1e) (Bd.mk_mk ?zzm2a ?zzm2b ?zzm2c ?zzm2d ?zzm2e) (Bd.ik_mk ?zzs1 ?zzs2 ?zzs3 ?zzs4 ?zzs5 ?zzs6) ?zzmk ?zzkc
    (case zzcz_len => k_is)
    (case zzcz_int => k_is)
    (case zzcz_bool => k_is)
    (case zzcz_str => k_is)
    (case zzcz_tuple => k_is)
    (case zzcz_list => k_is)
    (case zzcz_all => k_is)
    (case zzcz_enumerate => k_is)
    (case zzcz_isinstance => k_is)
    (case zzcz_range => k_is)
    (case zzcz_abs => k_is)
    (case zzcz_max => k_is)
    (case zzcz_min => k_is)
    (case zzcz_sorted => k_is)
    (case zzcz_set => k_is)
    (case zzcz_sum => k_is)
    (case zzcz_dict => k_is)
    (case zzcgL => k_is)
    (case zzcgE => k_is)
    (case zzcgG => k_is)
    (case zzcgO => k_is)
    (case zzckO => k_is)
    (case zzcl1 => k_is)
    (case zzcl2 => k_is)
    (case zzcl3 => k_is)
    (case zzcgC => k_is)
    (case zzcpg => k_is)
    (case zzchd => k_is)
    (case zzcpo => k_is)
    (case zzcsa => k_is)
    (case zzcnO => k_is)
    (case zzcnP => k_is)
    (case zzcnK => k_is)
    (case zzcnT => k_is)
    (case zzcnH => k_is)
    (case zzciA => k_is)
    (case zzciN => k_is)
    (case zzciT => k_is)
    (case zzciM => k_is)
    (case zzce0g => k_is)
    (case zzce0t => k_is)
    (case zzcx0k => k_is)
    (case zzcx0b => k_is)
    (case zzce1g => k_is)
    (case zzce1t => k_is)
    (case zzcx1k => k_is)
    (case zzcx1b => k_is)
    (case zzclo => first | rfl | kernel_rfl | decide)
    (case zzch1 => first | rfl | kernel_rfl | decide)
    (case zzch2 => first | rfl | kernel_rfl | decide)
    (case zzch3 => first | rfl | kernel_rfl | decide)
    (case zzch4 => first | rfl | kernel_rfl | decide)
    (case zzch5 => first | rfl | kernel_rfl | decide)
    (case zzch6 => first | rfl | kernel_rfl | decide)
    (case zzch7 => first | rfl | kernel_rfl | decide)
    (case zzch8 => first | rfl | kernel_rfl | decide)
    (case zzcy0 => first | rfl | kernel_rfl | decide)
    (case zzcy1 => first | rfl | kernel_rfl | decide)
    (case zza0 => k_is)
    (case zzb0 => k_is)
    (case zzd0 => k_is)
    (case zzg0 => k_is)
    (case zza1 => k_is)
    (case zzb1 => k_is)
    (case zzd1 => k_is)
    (case zzg1 => k_is)
    (case zza2 => k_is)
    (case zzb2 => k_is)
    (case zzd2 => k_is)
    (case zzg2 => k_is)
    (case zza3 => k_is)
    (case zzb3 => k_is)
    (case zzd3 => k_is)
    (case zzg3 => k_is)
    (case zza4 => k_is)
    (case zzb4 => k_is)
    (case zzd4 => k_is)
    (case zzg4 => k_is)
    (case zza5 => k_is)
    (case zzb5 => k_is)
    (case zzd5 => k_is)
    (case zzg5 => k_is)
    (case zza6 => k_is)
    (case zzb6 => k_is)
    (case zzd6 => k_is)
    (case zzg6 => k_is)
    (case zza7 => k_is)
    (case zzb7 => k_is)
    (case zzd7 => k_is)
    (case zzg7 => k_is)
    (case zza8 => k_is)
    (case zzb8 => k_is)
    (case zzd8 => k_is)
    (case zzg8 => k_is)
    (case zza9 => k_is)
    (case zzb9 => k_is)
    (case zzd9 => k_is)
    (case zzg9 => k_is)
    (case zza10 => k_is)
    (case zzb10 => k_is)
    (case zzd10 => k_is)
    (case zzg10 => k_is)
    (case zza11 => k_is)
    (case zzb11 => k_is)
    (case zzd11 => k_is)
    (case zzg11 => k_is)
    (case zza12 => k_is)
    (case zzb12 => k_is)
    (case zzd12 => k_is)
    (case zzg12 => k_is)
    (case zza13 => k_is)
    (case zzb13 => k_is)
    (case zzd13 => k_is)
    (case zzg13 => k_is)
    (case zza14 => k_is)
    (case zzb14 => k_is)
    (case zzd14 => k_is)
    (case zzg14 => k_is)
    (case zza15 => k_is)
    (case zzb15 => k_is)
    (case zzd15 => k_is)
    (case zzg15 => k_is)
    (case zza16 => k_is)
    (case zzb16 => k_is)
    (case zzd16 => k_is)
    (case zzg16 => k_is)
    (case zza17 => k_is)
    (case zzb17 => k_is)
    (case zzd17 => k_is)
    (case zzg17 => k_is)
    (case zza18 => k_is)
    (case zzb18 => k_is)
    (case zzd18 => k_is)
    (case zzg18 => k_is)
    (case zza19 => k_is)
    (case zzb19 => k_is)
    (case zzd19 => k_is)
    (case zzg19 => k_is)
    (case zza20 => k_is)
    (case zzb20 => k_is)
    (case zzd20 => k_is)
    (case zzg20 => k_is)
    (case zza21 => k_is)
    (case zzb21 => k_is)
    (case zzd21 => k_is)
    (case zzg21 => k_is)
    (case zza22 => k_is)
    (case zzb22 => k_is)
    (case zzd22 => k_is)
    (case zzg22 => k_is)
    (case zza23 => k_is)
    (case zzb23 => k_is)
    (case zzd23 => k_is)
    (case zzg23 => k_is)
    (case zza24 => k_is)
    (case zzb24 => k_is)
    (case zzd24 => k_is)
    (case zzg24 => k_is)
    (case zza25 => k_is)
    (case zzb25 => k_is)
    (case zzd25 => k_is)
    (case zzg25 => k_is)
    (case zza26 => k_is)
    (case zzb26 => k_is)
    (case zzd26 => k_is)
    (case zzg26 => k_is)
    (case zza27 => k_is)
    (case zzb27 => k_is)
    (case zzd27 => k_is)
    (case zzg27 => k_is)
    (case zza28 => k_is)
    (case zzb28 => k_is)
    (case zzd28 => k_is)
    (case zzg28 => k_is)
    (case zza29 => k_is)
    (case zzb29 => k_is)
    (case zzd29 => k_is)
    (case zzg29 => k_is)
    (case zza30 => k_is)
    (case zzb30 => k_is)
    (case zzd30 => k_is)
    (case zzg30 => k_is)
    (case zza31 => k_is)
    (case zzb31 => k_is)
    (case zzd31 => k_is)
    (case zzg31 => k_is)
    (case zza32 => k_is)
    (case zzb32 => k_is)
    (case zzd32 => k_is)
    (case zzg32 => k_is)
    (case zza33 => k_is)
    (case zzb33 => k_is)
    (case zzd33 => k_is)
    (case zzg33 => k_is)
    (case zza34 => k_is)
    (case zzb34 => k_is)
    (case zzd34 => k_is)
    (case zzg34 => k_is)
    (case zza35 => k_is)
    (case zzb35 => k_is)
    (case zzd35 => k_is)
    (case zzg35 => k_is)
    (case zzm0a => k_is)
    (case zzm0b => k_is)
    (case zzm0c => k_is)
    (case zzm0d => k_is)
    (case zzm0e => k_is)
    (case zzm1a => k_is)
    (case zzm1b => k_is)
    (case zzm1c => k_is)
    (case zzm1d => k_is)
    (case zzm1e => k_is)
    (case zzm2a => k_is)
    (case zzm2b => k_is)
    (case zzm2c => k_is)
    (case zzm2d => k_is)
    (case zzm2e => k_is)
    (case zzs1 => k_is)
    (case zzs2 => k_is)
    (case zzs3 => k_is)
    (case zzs4 => k_is)
    (case zzs5 => k_is)
    (case zzs6 => k_is)
    (case zzmk => k_is)
    (case zzkc => k_is)
