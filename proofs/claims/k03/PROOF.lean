import PyProof.Rows.All
import Wide.All
import OpenK.AllK
import Wide.FinOn
import HandS.ForMost
import HandS.Codes
import HandS.Zip
import HandS.SortKw
import KE.GoesEnum
import KE.GoesZip
import KE.KDictZip
import KE.DataMinMax
import KE.SortData
import PyProof.ListStr
import PyProof.StrBlock2
import HandS.TupAny
import HandS.ExcInit
import HandS.ExcField
import HandS.ExcIs
import HandS.FStr
import HandS.HotCalls
import KE.KExcSuper
import KE.KExcIs
import HandS.IsInst
import HandS.Comp
import KE.KOwnIter
import HandS.MapObj
import HandS.Iter
import KE.KDictPairs
import HandS.Conv
import HandS.Dict
import HandS.Property
import HandS.Style
import PyProof.Rows.StrStep
import PyProof.AutoSeq1
import HandS.DictComp
import HandS.FStrTup
import PyProof.ReprHeads
import PyProof.ReprHeadsEmpty
import PyProof.ReprUnder
import PyProof.ReprNest
import HandS.Lambda
import HandS.Ends
import PyProof.ReprRoads
import HandS.OwnEq
import HandS.Strs
import HandS.ExcValue
import PyProof.CollectStr
import PyProof.Rows.SortStr
import PyProof.Rows.StrComp
import HandS.TryOnly
import KE.KUnpack
import PyProof.CollectIter
import PyProof.Walks
import HandS.ReplaceLit
import HandS.Walk
import HandS.Replace
import HandS.Deep
import HandS.OwnIter
import HandS.RevRange
import HandS.Text
import PyProof.Rows.StrStrike
import PySem.Challenge.RW_rankedjoins_k03_lists_as_texts
set_option Elab.async false
set_option linter.all false
section
namespace RJ
/-- neighbors of a row -/
def adjs (row : List Nat) : List (Nat × Nat) := row.zip row.tail
theorem adjs_cons2 (a b : Nat) (t : List Nat) : adjs (a :: b :: t) = (a, b) :: adjs (b :: t) := rfl
theorem adjs_one (a : Nat) : adjs [a] = [] := rfl
theorem adjs_nil : adjs [] = [] := rfl
/-- one pass from left to right -/
def pass (l r m : Nat) : List Nat → List Nat
  | [] => []
  | [a] => [a]
  | a :: b :: t => if a = l ∧ b = r then m :: pass l r m t else a :: pass l r m (b :: t)
theorem pass_id {l r m : Nat} : ∀ {row : List Nat}, (l, r) ∉ adjs row → pass l r m row = row
  | [], _ => rfl
  | [a], _ => rfl
  | a :: b :: t, h => by
    rw [adjs_cons2] at h
    have h1 : ¬ (a = l ∧ b = r) := fun q => h (by rw [q.1, q.2]; exact List.mem_cons_self ..)
    rw [pass, if_neg h1, pass_id (row := b :: t) fun q => h (List.mem_cons_of_mem _ q)]
theorem pass_head {l r m : Nat} : ∀ {a : Nat} {t : List Nat}, ∃ x rest, pass l r m (a :: t) = x :: rest ∧ (x = a ∨ x = m)
  | a, [] => ⟨a, [], rfl, .inl rfl⟩
  | a, b :: t => by
    rw [pass]
    split
    · exact ⟨m, _, rfl, .inr rfl⟩
    · exact ⟨a, _, rfl, .inl rfl⟩
theorem mem_adjs_cons {p : Nat × Nat} {a : Nat} {t : List Nat} (h : p ∈ adjs t) : p ∈ adjs (a :: t) := by
  cases t with
  | nil => rw [adjs_nil] at h; cases h
  | cons b t => rw [adjs_cons2]; exact List.mem_cons_of_mem _ h
theorem pass_adj {l r m : Nat} {p : Nat × Nat} : ∀ {row : List Nat}, p ∈ adjs (pass l r m row) → (p ∈ adjs row ∧ p ≠ (l, r)) ∨ p.1 = m ∨ p.2 = m
  | [], h => by cases h
  | [a], h => by cases h
  | a :: b :: t, h => by
    rw [pass] at h
    split at h
    · rename_i hab
      cases e : pass l r m t with
      | nil => rw [e] at h; cases h
      | cons x rest =>
        rw [e, adjs_cons2] at h
        rcases List.mem_cons.mp h with q | q
        · exact .inr (.inl (by rw [q]))
        · rw [← e] at q
          rcases pass_adj q with ⟨q1, q2⟩ | q
          · exact .inl ⟨mem_adjs_cons (mem_adjs_cons q1), q2⟩
          · exact .inr q
    · rename_i hab
      obtain ⟨x, rest, e, hx⟩ := pass_head (l := l) (r := r) (m := m) (a := b) (t := t)
      rw [e, adjs_cons2] at h
      rcases List.mem_cons.mp h with q | q
      · rcases hx with hx | hx
        · refine .inl ⟨?_, ?_⟩
          · rw [q, hx, adjs_cons2]; exact List.mem_cons_self ..
          · rw [q, hx]; intro z; exact hab ⟨(Prod.mk.inj z).1, (Prod.mk.inj z).2⟩
        · exact .inr (.inr (by rw [q]; exact hx))
      · rw [← e] at q
        rcases pass_adj q with ⟨q1, q2⟩ | q
        · exact .inl ⟨mem_adjs_cons q1, q2⟩
        · exact .inr q
theorem pass_len {l r m : Nat} : ∀ {row : List Nat}, (pass l r m row).length ≤ row.length
  | [] => Nat.le_refl _
  | [a] => Nat.le_refl _
  | a :: b :: t => by
    rw [pass]
    split
    · have := pass_len (l := l) (r := r) (m := m) (row := t)
      simp only [List.length_cons]; omega
    · have := pass_len (l := l) (r := r) (m := m) (row := b :: t)
      simp only [List.length_cons] at this ⊢; omega
theorem pass_lt {l r m : Nat} : ∀ {row : List Nat}, (l, r) ∈ adjs row → (pass l r m row).length < row.length
  | [], h => by cases h
  | [a], h => by cases h
  | a :: b :: t, h => by
    rw [pass]
    split
    · have := pass_len (l := l) (r := r) (m := m) (row := t)
      simp only [List.length_cons]; omega
    · rename_i hab
      rw [adjs_cons2] at h
      rcases List.mem_cons.mp h with q | q
      · exact absurd ⟨(Prod.mk.inj q).1.symm, (Prod.mk.inj q).2.symm⟩ hab
      · have := pass_lt (l := l) (r := r) (m := m) (row := b :: t) q
        simp only [List.length_cons] at this ⊢; omega
theorem pass_mem {l r m x : Nat} : ∀ {row : List Nat}, x ∈ pass l r m row → x ∈ row ∨ x = m
  | [], h => by cases h
  | [a], h => .inl h
  | a :: b :: t, h => by
    rw [pass] at h
    split at h
    · rcases List.mem_cons.mp h with q | q
      · exact .inr q
      · rcases pass_mem q with q | q
        · exact .inl (List.mem_cons_of_mem _ (List.mem_cons_of_mem _ q))
        · exact .inr q
    · rcases List.mem_cons.mp h with q | q
      · exact .inl (by rw [q]; exact List.mem_cons_self ..)
      · rcases pass_mem q with q | q
        · exact .inl (List.mem_cons_of_mem _ q)
        · exact .inr q
/-- the passes of these pairs, the first of which makes b + k -/
def run (b : Nat) : List (Nat × Nat) → Nat → List Nat → List Nat
  | [], _, row => row
  | p :: ps, k, row => run b ps (k + 1) (pass p.1 p.2 (b + k) row)
def cutL (b : Nat) (ps : List (Nat × Nat)) (row : List Nat) : List Nat := run b ps 0 row
theorem run_append (b : Nat) : ∀ (ps qs : List (Nat × Nat)) (k : Nat) (row : List Nat), run b (ps ++ qs) k row = run b qs (k + ps.length) (run b ps k row)
  | [], qs, k, row => rfl
  | p :: ps, qs, k, row => by
    show run b (ps ++ qs) (k + 1) _ = run b qs (k + (ps.length + 1)) (run b ps (k + 1) _)
    rw [run_append b ps qs, show k + 1 + ps.length = k + (ps.length + 1) by omega]
theorem run_none {b : Nat} : ∀ {ps : List (Nat × Nat)} {k : Nat} {row : List Nat}, (∀ p ∈ ps, p ∉ adjs row) → run b ps k row = row
  | [], _, _, _ => rfl
  | p :: ps, k, row, h => by
    show run b ps (k + 1) (pass p.1 p.2 (b + k) row) = row
    rw [pass_id (h p (List.mem_cons_self ..))]
    exact run_none fun q hq => h q (List.mem_cons_of_mem _ hq)
/-- the parts of a join are pieces ahead of it -/
def WF (b : Nat) (ps : List (Nat × Nat)) : Prop := ∀ i p, ps[i]? = some p → p.1 < b + i ∧ p.2 < b + i
theorem WF.take {b : Nat} {ps : List (Nat × Nat)} (h : WF b ps) (n : Nat) : WF b (ps.take n) := fun i p e => by
  rw [List.getElem?_take] at e
  split at e
  · exact h i p e
  · cases e
theorem take_succ_of {α : Type} {l : List α} {n : Nat} {x : α} (h : l[n]? = some x) : l.take (n + 1) = l.take n ++ [x] := by
  rw [List.take_add_one, h]; rfl
theorem take_len_of {α : Type} {l : List α} {n : Nat} {x : α} (h : l[n]? = some x) : (l.take n).length = n := by
  obtain ⟨h1, _⟩ := List.getElem?_eq_some_iff.mp h
  rw [List.length_take]; omega
theorem cutL_snoc (b : Nat) (ps : List (Nat × Nat)) (q : Nat × Nat) (row : List Nat) : cutL b (ps ++ [q]) row = pass q.1 q.2 (b + ps.length) (cutL b ps row) := by
  unfold cutL
  rw [run_append, Nat.zero_add]; rfl
theorem mem_take_get {α : Type} {l : List α} {n : Nat} {x : α} (h : x ∈ l.take n) : ∃ i, i < n ∧ l[i]? = some x := by
  obtain ⟨i, hi⟩ := List.mem_iff_getElem?.mp h
  rw [List.getElem?_take] at hi
  split at hi
  · exact ⟨i, by assumption, hi⟩
  · cases hi
theorem cut_clean_take {b : Nat} {ps : List (Nat × Nat)} (hw : WF b ps) (row : List Nat) : ∀ n, ∀ p ∈ ps.take n, p ∉ adjs (cutL b (ps.take n) row)
  | 0, p, hp => by rw [List.take_zero] at hp; cases hp
  | n + 1, p, hp => by
    cases e : ps[n]? with
    | none =>
      have hle : ps.length ≤ n := List.getElem?_eq_none_iff.mp e
      rw [List.take_of_length_le (by omega)] at hp ⊢
      have := cut_clean_take hw row n p (by rw [List.take_of_length_le hle]; exact hp)
      rw [List.take_of_length_le hle] at this
      exact this
    | some q =>
      rw [take_succ_of e] at hp ⊢
      rw [cutL_snoc, take_len_of e]
      have hq := hw n q e
      intro hm
      rcases pass_adj hm with ⟨h1, h2⟩ | h1
      · rcases List.mem_append.mp hp with z | z
        · exact cut_clean_take hw row n p z h1
        · exact h2 (List.mem_singleton.mp z)
      · have hlt : p.1 < b + n ∧ p.2 < b + n := by
          rcases List.mem_append.mp hp with z | z
          · obtain ⟨i, hi, ei⟩ := mem_take_get z
            have := hw i p ei
            omega
          · rw [List.mem_singleton.mp z]; exact hq
        omega
theorem cut_clean {b : Nat} {ps : List (Nat × Nat)} (hw : WF b ps) (row : List Nat) : ∀ p ∈ ps, p ∉ adjs (cutL b ps row) := by
  have h := cut_clean_take hw row ps.length
  rw [List.take_length] at h
  exact h
theorem split_at {α : Type} {l : List α} {n : Nat} {x : α} (h : l[n]? = some x) : l = l.take n ++ x :: l.drop (n + 1) := by
  obtain ⟨h1, h2⟩ := List.getElem?_eq_some_iff.mp h
  rw [← h2, ← List.drop_eq_getElem_cons h1, List.take_append_drop]
theorem cutL_at {b : Nat} {ps : List (Nat × Nat)} {r : Nat} {p : Nat × Nat} (h : ps[r]? = some p) (row : List Nat) (hno : ∀ j q, j < r → ps[j]? = some q → q ∉ adjs row) :
    cutL b ps row = run b (ps.drop (r + 1)) (r + 1) (pass p.1 p.2 (b + r) row) := by
  have e := split_at h
  have hl := take_len_of h
  unfold cutL
  rw [e, run_append, hl, Nat.zero_add]
  rw [← e]
  rw [run_none (ps := ps.take r) (row := row) fun q hq => by
    obtain ⟨j, hj, ej⟩ := mem_take_get hq
    exact hno j q hj ej]
  rfl
/-- the lowest rank that is there may be joined first -/
theorem cut_step {b : Nat} {ps : List (Nat × Nat)} (hw : WF b ps) {r : Nat} {p : Nat × Nat} (h : ps[r]? = some p) (row : List Nat) (hno : ∀ j q, j < r → ps[j]? = some q → q ∉ adjs row) :
    cutL b ps (pass p.1 p.2 (b + r) row) = cutL b ps row := by
  have hp := hw r p h
  have no2 : ∀ j q, j < r → ps[j]? = some q → q ∉ adjs (pass p.1 p.2 (b + r) row) := fun j q hj ej hm => by
    rcases pass_adj hm with ⟨z, _⟩ | z
    · exact hno j q hj ej z
    · have := hw j q ej; omega
  have no3 : (p.1, p.2) ∉ adjs (pass p.1 p.2 (b + r) row) := fun hm => by
    rcases pass_adj hm with ⟨_, z⟩ | z
    · exact z rfl
    · have z' : p.1 = b + r ∨ p.2 = b + r := z
      omega
  rw [cutL_at h row hno, cutL_at h _ no2, pass_id no3]
theorem cut_done {b : Nat} {ps : List (Nat × Nat)} {row : List Nat} (h : ∀ p ∈ ps, p ∉ adjs row) : cutL b ps row = row := run_none h
theorem adjs_append {u v : List Nat} {x : Nat} : adjs (u ++ x :: v) = adjs (u ++ [x]) ++ adjs (x :: v) := by
  induction u with
  | nil => rfl
  | cons a u ih =>
    cases u with
    | nil => rfl
    | cons c u =>
      show (a, c) :: adjs (c :: u ++ x :: v) = ((a, c) :: adjs (c :: u ++ [x])) ++ adjs (x :: v)
      exact congrArg (fun z => (a, c) :: z) ih
theorem pass_left {l r m : Nat} : ∀ {u v : List Nat}, (l, r) ∉ adjs (u ++ [l]) → pass l r m (u ++ l :: r :: v) = u ++ m :: pass l r m v
  | [], v, _ => by
    show pass l r m (l :: r :: v) = m :: pass l r m v
    rw [pass, if_pos ⟨rfl, rfl⟩]
  | [a], v, h => by
    have h1 : ¬ (a = l ∧ l = r) := fun q => h (by show (l, r) ∈ adjs [a, l]; rw [adjs_cons2, q.1, ← q.2]; exact List.mem_cons_self ..)
    show pass l r m (a :: l :: r :: v) = a :: m :: pass l r m v
    rw [pass, if_neg h1, pass, if_pos ⟨rfl, rfl⟩]
  | a :: c :: u, v, h => by
    have h1 : ¬ (a = l ∧ c = r) := fun q => h (by show (l, r) ∈ adjs (a :: c :: (u ++ [l])); rw [adjs_cons2, q.1, q.2]; exact List.mem_cons_self ..)
    have h2 : (l, r) ∉ adjs ((c :: u) ++ [l]) := fun q => h (by show (l, r) ∈ adjs (a :: c :: (u ++ [l])); exact mem_adjs_cons q)
    show pass l r m (a :: c :: (u ++ l :: r :: v)) = a :: (c :: u ++ m :: pass l r m v)
    rw [pass, if_neg h1]
    exact congrArg (a :: ·) (pass_left (u := c :: u) h2)
theorem pass_over {l r m : Nat} (h1 : m ≠ l) (h2 : m ≠ r) : ∀ {u v : List Nat}, (l, r) ∉ adjs u → pass l r m (u ++ m :: v) = u ++ m :: pass l r m v
  | [], v, _ => by
    cases v with
    | nil => rfl
    | cons c v =>
      show pass l r m (m :: c :: v) = m :: pass l r m (c :: v)
      rw [pass, if_neg fun q => h1 q.1]
  | [a], v, h => by
    show pass l r m (a :: m :: v) = a :: m :: pass l r m v
    rw [pass, if_neg fun q => h2 q.2]
    exact congrArg (a :: ·) (pass_over h1 h2 (u := []) (by rw [adjs_nil]; exact List.not_mem_nil))
  | a :: c :: u, v, h => by
    have hn : ¬ (a = l ∧ c = r) := fun q => h (by rw [adjs_cons2, q.1, q.2]; exact List.mem_cons_self ..)
    show pass l r m (a :: c :: (u ++ m :: v)) = a :: (c :: u ++ m :: pass l r m v)
    rw [pass, if_neg hn]
    exact congrArg (a :: ·) (pass_over h1 h2 (u := c :: u) fun q => h (mem_adjs_cons q))
theorem adjs_sub_left {u v : List Nat} {p : Nat × Nat} (h : p ∈ adjs u) : p ∈ adjs (u ++ v) := by
  induction u with
  | nil => cases h
  | cons a u ih =>
    cases u with
    | nil => cases h
    | cons c u =>
      rw [adjs_cons2] at h
      show p ∈ (a, c) :: adjs (c :: u ++ v)
      rcases List.mem_cons.mp h with q | q
      · rw [q]; exact List.mem_cons_self ..
      · exact List.mem_cons_of_mem _ (ih q)
theorem adjs_sub_right {u v : List Nat} {p : Nat × Nat} (h : p ∈ adjs v) : p ∈ adjs (u ++ v) := by
  induction u with
  | nil => exact h
  | cons a u ih => exact mem_adjs_cons ih
/-- the leftmost place of the lowest rank may be joined first -/
theorem cut_first {b : Nat} {ps : List (Nat × Nat)} (hw : WF b ps) {r : Nat} {p : Nat × Nat} (h : ps[r]? = some p) {u v : List Nat} (hu : p ∉ adjs (u ++ [p.1]))
    (hno : ∀ j q, j < r → ps[j]? = some q → q ∉ adjs (u ++ p.1 :: p.2 :: v)) : cutL b ps (u ++ (b + r) :: v) = cutL b ps (u ++ p.1 :: p.2 :: v) := by
  have hp := hw r p h
  have no2 : ∀ j q, j < r → ps[j]? = some q → q ∉ adjs (u ++ (b + r) :: v) := fun j q hj ej hm => by
    have hq := hw j q ej
    have key : q ∈ adjs u ∨ q ∈ adjs v ∨ q.1 = b + r ∨ q.2 = b + r := by
      rw [adjs_append] at hm
      rcases List.mem_append.mp hm with z | z
      · -- adjs (u ++ [b + r])
        clear hm
        revert z
        clear hu hno
        induction u with
        | nil => intro z; cases z
        | cons a u ih =>
          intro z
          cases u with
          | nil =>
            have z' : q ∈ [(a, b + r)] := z
            rw [List.mem_singleton.mp z']
            exact .inr (.inr (.inr rfl))
          | cons c u =>
            have z' : q ∈ (a, c) :: adjs (c :: u ++ [b + r]) := z
            rcases List.mem_cons.mp z' with w | w
            · refine .inl ?_
              rw [w, adjs_cons2]; exact List.mem_cons_self ..
            · rcases ih w with y | y
              · exact .inl (mem_adjs_cons y)
              · exact .inr y
      · cases v with
        | nil => cases z
        | cons c v =>
          rw [adjs_cons2] at z
          rcases List.mem_cons.mp z with w | w
          · rw [w]; exact .inr (.inr (.inl rfl))
          · exact .inr (.inl w)
    rcases key with z | z | z
    · exact hno j q hj ej (adjs_sub_left z)
    · exact hno j q hj ej (adjs_sub_right (mem_adjs_cons (mem_adjs_cons z)))
    · omega
  rw [cutL_at h _ hno, cutL_at h _ no2, pass_left hu, pass_over (by omega) (by omega) fun q => hu (adjs_sub_left q)]
end RJ
end

section
set_option maxRecDepth 100000
namespace RJ
/-- the row of the letters -/
def lets (al t : List Nat) : List Nat := t.map fun c => al.idxOf c
theorem snoc_ind {α : Type} {M : List α → Prop} (h0 : M []) (h1 : ∀ l a, M l → M (l ++ [a])) (l : List α) : M l := by
  have key : ∀ r : List α, M r.reverse := by
    intro r
    induction r with
    | nil => exact h0
    | cons a r ih => rw [List.reverse_cons]; exact h1 _ _ ih
  rw [← l.reverse_reverse]; exact key _
/-- the texts of the pieces -/
def textsOf (al : List Nat) (ps : List (Nat × Nat)) : List (List Nat) := ps.foldl (fun ts p => ts ++ [ts.getD p.1 [] ++ ts.getD p.2 []]) (al.map fun c => [c])
theorem textsOf_snoc (al : List Nat) (ps : List (Nat × Nat)) (p : Nat × Nat) : textsOf al (ps ++ [p]) = textsOf al ps ++ [(textsOf al ps).getD p.1 [] ++ (textsOf al ps).getD p.2 []] := by
  unfold textsOf
  rw [List.foldl_append]; rfl
theorem textsOf_len (al : List Nat) (ps : List (Nat × Nat)) : (textsOf al ps).length = al.length + ps.length := by
  induction ps using snoc_ind with
  | h0 => unfold textsOf; rw [List.foldl_nil, List.length_map]; rfl
  | h1 ps p ih => rw [textsOf_snoc, List.length_append, ih, List.length_append]; rfl
theorem getD_mem_or {ts : List (List Nat)} {i : Nat} : ts.getD i [] ∈ ts ∨ ts.getD i [] = [] := by
  rw [List.getD_eq_getElem?_getD]
  cases h : ts[i]? with
  | none => exact .inr rfl
  | some t => exact .inl (List.mem_of_getElem? h)
theorem textsOf_al {al : List Nat} {ps : List (Nat × Nat)} : ∀ t ∈ textsOf al ps, ∀ c ∈ t, c ∈ al := by
  induction ps using snoc_ind with
  | h0 =>
    intro t ht c hc
    unfold textsOf at ht
    rw [List.foldl_nil] at ht
    obtain ⟨d, hd, rfl⟩ := List.mem_map.mp ht
    rw [List.mem_singleton.mp hc]; exact hd
  | h1 ps p ih =>
    intro t ht c hc
    rw [textsOf_snoc] at ht
    rcases List.mem_append.mp ht with h | h
    · exact ih t h c hc
    · rw [List.mem_singleton.mp h] at hc
      have key : ∀ i, c ∈ (textsOf al ps).getD i [] → c ∈ al := fun i hi => by
        rcases getD_mem_or (ts := textsOf al ps) (i := i) with m | m
        · exact ih _ m c hi
        · rw [m] at hi; cases hi
      rcases List.mem_append.mp hc with z | z
      · exact key _ z
      · exact key _ z
/-- may the pair be the next join -/
def okP (al : List Nat) (ts : List (List Nat)) (ps : List (Nat × Nat)) (p : Nat × Nat) : Prop :=
  p.1 < ts.length ∧ p.2 < ts.length ∧ (ts.getD p.1 [] ++ ts.getD p.2 []).length ≤ 40 ∧ cutL al.length ps (lets al (ts.getD p.1 [] ++ ts.getD p.2 [])) = [p.1, p.2]
instance (al ts ps p) : Decidable (okP al ts ps p) := by unfold okP; infer_instance
def Proper (al : List Nat) (ps : List (Nat × Nat)) : Prop := ∀ i p, ps[i]? = some p → okP al (textsOf al (ps.take i)) (ps.take i) p
theorem Proper.wf {al : List Nat} {ps : List (Nat × Nat)} (h : Proper al ps) : WF al.length ps := fun i p e => by
  obtain ⟨h1, h2, _⟩ := h i p e
  rw [textsOf_len, take_len_of e] at h1 h2
  exact ⟨h1, h2⟩
theorem Proper.take {al : List Nat} {ps : List (Nat × Nat)} (h : Proper al ps) (n : Nat) : Proper al (ps.take n) := fun i p e => by
  rw [List.getElem?_take] at e
  split at e
  · have := h i p e
    rw [List.take_take, Nat.min_eq_left (by omega)]
    exact this
  · cases e
theorem Proper.nil (al : List Nat) : Proper al [] := fun i p e => by simp at e
theorem Proper.snoc {al : List Nat} {ps : List (Nat × Nat)} {p : Nat × Nat} (h : Proper al ps) (hp : okP al (textsOf al ps) ps p) : Proper al (ps ++ [p]) := fun i q e => by
  by_cases hi : i < ps.length
  · rw [List.getElem?_append_left hi] at e
    rw [List.take_append_of_le_length (by omega)]
    exact h i q e
  · rw [List.getElem?_append_right (by omega)] at e
    have hi0 : i - ps.length = 0 := by
      rcases Nat.eq_zero_or_pos (i - ps.length) with z | z
      · exact z
      · rw [List.getElem?_eq_none (by rw [List.length_singleton]; exact z)] at e; cases e
    rw [hi0] at e
    have e' : p = q := by simpa using e
    subst e'
    have hi' : i = ps.length := by omega
    rw [hi', List.take_left]
    exact hp
theorem Proper.front {al : List Nat} {ps : List (Nat × Nat)} {p : Nat × Nat} (h : Proper al (ps ++ [p])) : Proper al ps ∧ okP al (textsOf al ps) ps p := by
  refine ⟨?_, ?_⟩
  · have := h.take ps.length
    rw [List.take_left] at this; exact this
  · have := h ps.length p (by rw [List.getElem?_append_right (Nat.le_refl _), Nat.sub_self]; rfl)
    rw [List.take_left] at this; exact this
theorem Proper.short {al : List Nat} {ps : List (Nat × Nat)} (h : Proper al ps) : ∀ t ∈ textsOf al ps, t.length ≤ 40 := by
  induction ps using snoc_ind with
  | h0 =>
    intro t ht
    unfold textsOf at ht
    rw [List.foldl_nil] at ht
    obtain ⟨d, hd, rfl⟩ := List.mem_map.mp ht
    simp
  | h1 ps p ih =>
    intro t ht
    obtain ⟨h1, h2⟩ := h.front
    rw [textsOf_snoc] at ht
    rcases List.mem_append.mp ht with q | q
    · exact ih h1 t q
    · rw [List.mem_singleton.mp q]; exact h2.2.2.1
/-- the cut of a piece's text is this piece -/
theorem cut_piece {al : List Nat} (hal : al.Nodup) {ps : List (Nat × Nat)} (h : Proper al ps) : ∀ i t, (textsOf al ps)[i]? = some t → cutL al.length ps (lets al t) = [i] := by
  induction ps using snoc_ind with
  | h0 =>
    intro i t ht
    unfold textsOf at ht
    rw [List.foldl_nil, List.getElem?_map] at ht
    cases e : al[i]? with
    | none => rw [e] at ht; cases ht
    | some c =>
      rw [e] at ht
      have : t = [c] := (Option.some.inj ht).symm
      subst this
      obtain ⟨hi, hc⟩ := List.getElem?_eq_some_iff.mp e
      show [al.idxOf c] = [i]
      have h1 : al.idxOf c < al.length := List.idxOf_lt_length_iff.mpr (List.mem_of_getElem? e)
      have h2 : al[al.idxOf c] = al[i] := by rw [List.getElem_idxOf h1, hc]
      rw [(List.getElem_inj hal).mp h2]
  | h1 ps p ih =>
    intro i t ht
    obtain ⟨h1, h2⟩ := h.front
    rw [cutL_snoc]
    rw [textsOf_snoc] at ht
    by_cases hi : i < (textsOf al ps).length
    · rw [List.getElem?_append_left hi] at ht
      rw [ih h1 i t ht]; rfl
    · rw [List.getElem?_append_right (by omega)] at ht
      have hi0 : i - (textsOf al ps).length = 0 := by
        rcases Nat.eq_zero_or_pos (i - (textsOf al ps).length) with z | z
        · exact z
        · rw [List.getElem?_eq_none (by rw [List.length_singleton]; exact z)] at ht; cases ht
      rw [hi0] at ht
      have e' : (textsOf al ps).getD p.1 [] ++ (textsOf al ps).getD p.2 [] = t := by simpa using ht
      rw [← e', h2.2.2.2]
      have hi' : i = al.length + ps.length := by rw [textsOf_len] at hi0 hi; omega
      show pass p.1 p.2 (al.length + ps.length) [p.1, p.2] = [i]
      rw [pass, if_pos ⟨rfl, rfl⟩, hi']; rfl
theorem texts_inj {al : List Nat} (hal : al.Nodup) {ps : List (Nat × Nat)} (h : Proper al ps) {i j : Nat} {t : List Nat} (hi : (textsOf al ps)[i]? = some t) (hj : (textsOf al ps)[j]? = some t) : i = j := by
  have h1 := cut_piece hal h i t hi
  rw [cut_piece hal h j t hj] at h1
  injection h1 with h1; exact h1.symm
theorem texts_nodup {al : List Nat} (hal : al.Nodup) {ps : List (Nat × Nat)} (h : Proper al ps) : (textsOf al ps).Nodup := by
  refine List.pairwise_iff_getElem.mpr fun i j hi hj hij e => ?_
  have := texts_inj hal h (List.getElem?_eq_getElem hi) (by rw [List.getElem?_eq_getElem hj, ← e])
  omega
/-- the text of a row -/
def textR (ts : List (List Nat)) (row : List Nat) : List Nat := (row.map fun i => ts.getD i []).flatten
theorem getD_short {ts : List (List Nat)} (h : ∀ t ∈ ts, t.length ≤ 40) (i : Nat) : (ts.getD i []).length ≤ 40 := by
  rcases getD_mem_or (ts := ts) (i := i) with m | m
  · exact h _ m
  · rw [m]; exact Nat.zero_le _
theorem run_len (b : Nat) : ∀ (ps : List (Nat × Nat)) (k : Nat) (row : List Nat), (run b ps k row).length ≤ row.length
  | [], _, _ => Nat.le_refl _
  | p :: ps, k, row => Nat.le_trans (run_len b ps (k + 1) _) pass_len
theorem cutL_len (b : Nat) (ps : List (Nat × Nat)) (row : List Nat) : (cutL b ps row).length ≤ row.length := run_len b ps 0 row
theorem textR_cons (ts : List (List Nat)) (a : Nat) (row : List Nat) : textR ts (a :: row) = ts.getD a [] ++ textR ts row := rfl
theorem pass_text {ts : List (List Nat)} {l r m : Nat} (h : ts.getD m [] = ts.getD l [] ++ ts.getD r []) : ∀ row : List Nat, textR ts (pass l r m row) = textR ts row
  | [] => rfl
  | [a] => rfl
  | a :: b :: t => by
    rw [pass]
    split
    · rename_i c
      obtain ⟨rfl, rfl⟩ := c
      rw [textR_cons, textR_cons, textR_cons, pass_text h t, h, List.append_assoc]
    · rw [textR_cons, textR_cons ts a, pass_text h (b :: t)]
theorem run_text {ts : List (List Nat)} {b : Nat} : ∀ (qs : List (Nat × Nat)) (k : Nat) (row : List Nat), (∀ (i : Nat) (q : Nat × Nat), qs[i]? = some q → ts.getD (b + k + i) [] = ts.getD q.1 [] ++ ts.getD q.2 []) → textR ts (run b qs k row) = textR ts row
  | [], _, _, _ => rfl
  | q :: qs, k, row, h => by
    have h0 := h 0 q rfl
    show textR ts (run b qs (k + 1) (pass q.1 q.2 (b + k) row)) = _
    rw [run_text qs (k + 1) _ fun i p e => by
      have := h (i + 1) p e
      rw [show b + (k + 1) + i = b + k + (i + 1) by omega]; exact this]
    exact pass_text h0 row
theorem texts_at {al : List Nat} {ps : List (Nat × Nat)} (h : WF al.length ps) : ∀ (i : Nat) (p : Nat × Nat), ps[i]? = some p → (textsOf al ps).getD (al.length + i) [] = (textsOf al ps).getD p.1 [] ++ (textsOf al ps).getD p.2 [] := by
  induction ps using snoc_ind with
  | h0 => intro i p e; cases e
  | h1 ps q ih =>
    intro i p e
    have hw : WF al.length ps := by have := h.take ps.length; rw [List.take_left] at this; exact this
    have key : ∀ j, j < al.length + ps.length → (textsOf al (ps ++ [q])).getD j [] = (textsOf al ps).getD j [] := fun j hj => by
      rw [textsOf_snoc, List.getD_eq_getElem?_getD, List.getElem?_append_left (by rw [textsOf_len]; exact hj), ← List.getD_eq_getElem?_getD]
    have hp := h i p e
    by_cases c : i < ps.length
    · rw [List.getElem?_append_left c] at e
      rw [key _ (by omega), key _ (by omega), key _ (by omega)]
      exact ih hw i p e
    · have hi : i = ps.length := by
        have := (List.getElem?_eq_some_iff.mp e).1
        rw [List.length_append, List.length_singleton] at this
        omega
      subst hi
      rw [List.getElem?_append_right (Nat.le_refl _), Nat.sub_self] at e
      have e' : q = p := Option.some.inj e
      subst e'
      rw [key q.1 hp.1, key q.2 hp.2, textsOf_snoc, List.getD_eq_getElem?_getD, List.getElem?_append_right (by rw [textsOf_len]; exact Nat.le_refl _), textsOf_len, Nat.sub_self]; rfl
theorem texts_letter {al : List Nat} {ps : List (Nat × Nat)} {i c : Nat} (h : al[i]? = some c) : (textsOf al ps).getD i [] = [c] := by
  have hi := (List.getElem?_eq_some_iff.mp h).1
  induction ps using snoc_ind with
  | h0 =>
    unfold textsOf
    rw [List.foldl_nil, List.getD_eq_getElem?_getD, List.getElem?_map, h]; rfl
  | h1 ps q ih =>
    rw [textsOf_snoc, List.getD_eq_getElem?_getD, List.getElem?_append_left (by rw [textsOf_len]; omega), ← List.getD_eq_getElem?_getD]
    exact ih
theorem text_lets {al : List Nat} {ps : List (Nat × Nat)} {t : List Nat} (h : ∀ c ∈ t, c ∈ al) : textR (textsOf al ps) (lets al t) = t := by
  induction t with
  | nil => rfl
  | cons c t ih =>
    show (textsOf al ps).getD (al.idxOf c) [] ++ textR (textsOf al ps) (lets al t) = c :: t
    rw [ih fun d hd => h d (List.mem_cons_of_mem _ hd), texts_letter (by
      have hc := h c (List.mem_cons_self ..)
      rw [List.getElem?_eq_getElem (List.idxOf_lt_length_of_mem hc), List.getElem_idxOf])]
    rfl
theorem text_cut {al : List Nat} {ps : List (Nat × Nat)} (hw : WF al.length ps) {t : List Nat} (h : ∀ c ∈ t, c ∈ al) : textR (textsOf al ps) (cutL al.length ps (lets al t)) = t := by
  unfold cutL
  rw [run_text ps 0 _ fun i q e => by rw [Nat.add_zero]; exact texts_at hw i q e]
  exact text_lets h
theorem run_mem {b x : Nat} : ∀ (qs : List (Nat × Nat)) (k : Nat) (row : List Nat), x ∈ run b qs k row → x ∈ row ∨ (b + k ≤ x ∧ x < b + k + qs.length)
  | [], _, _, h => .inl h
  | q :: qs, k, row, h => by
    rcases run_mem qs (k + 1) _ h with z | z
    · rcases pass_mem z with y | y
      · exact .inl y
      · exact .inr ⟨by omega, by rw [List.length_cons]; omega⟩
    · exact .inr ⟨by omega, by rw [List.length_cons]; omega⟩
theorem lets_lt {al t : List Nat} (h : ∀ c ∈ t, c ∈ al) : ∀ i ∈ lets al t, i < al.length := fun i hi => by
  obtain ⟨c, hc, rfl⟩ := List.mem_map.mp hi
  exact List.idxOf_lt_length_of_mem (h c hc)
theorem cut_lt {al : List Nat} {ps : List (Nat × Nat)} {t : List Nat} (h : ∀ c ∈ t, c ∈ al) : ∀ i ∈ cutL al.length ps (lets al t), i < al.length + ps.length := fun i hi => by
  rcases run_mem ps 0 _ hi with z | z
  · have := lets_lt h i z; omega
  · omega
theorem cut_nil (b : Nat) (ps : List (Nat × Nat)) : cutL b ps [] = [] := List.eq_nil_of_length_eq_zero (Nat.le_zero.mp (cutL_len b ps []))
def apart (m l r : Nat) (row : List Nat) : List Nat := row.flatMap fun x => if x = m then [l, r] else [x]
theorem apart_nil (m l r : Nat) : apart m l r [] = [] := rfl
theorem apart_cons (m l r x : Nat) (t : List Nat) : apart m l r (x :: t) = (if x = m then [l, r] else [x]) ++ apart m l r t := rfl
theorem apart_app (m l r : Nat) (u v : List Nat) : apart m l r (u ++ v) = apart m l r u ++ apart m l r v := List.flatMap_append
theorem apart_pass {m l r : Nat} : ∀ {row : List Nat}, m ∉ row → apart m l r (pass l r m row) = row
  | [], _ => rfl
  | [a], h => by
    have : a ≠ m := fun e => h (by rw [e]; exact List.mem_cons_self ..)
    show (if a = m then [l, r] else [a]) ++ [] = [a]
    rw [if_neg this]; rfl
  | a :: b :: t, h => by
    have ha : a ≠ m := fun e => h (by rw [e]; exact List.mem_cons_self ..)
    have ht : m ∉ b :: t := fun z => h (List.mem_cons_of_mem _ z)
    rw [pass]
    split
    · rename_i c
      obtain ⟨rfl, rfl⟩ := c
      rw [apart_cons, if_pos rfl, apart_pass (fun z => ht (List.mem_cons_of_mem _ z))]; rfl
    · rw [apart_cons, if_neg ha, apart_pass ht]; rfl
def splitD (b : Nat) (ps : List (Nat × Nat)) (n : Nat) : Nat → List Nat → List Nat
  | 0, row => row
  | k + 1, row => if n ≤ k then splitD b ps n k (apart (b + k) (ps.getD k (0, 0)).1 (ps.getD k (0, 0)).2 row) else row
variable {b n : Nat} {ps : List (Nat × Nat)}
theorem splitD_le {k : Nat} (h : k ≤ n) (row : List Nat) : splitD b ps n k row = row := by
  cases k with
  | zero => rfl
  | succ k => rw [splitD, if_neg (by omega)]
theorem splitD_app : ∀ (k : Nat) (u v : List Nat), splitD b ps n k (u ++ v) = splitD b ps n k u ++ splitD b ps n k v
  | 0, _, _ => rfl
  | k + 1, u, v => by
    rw [splitD, splitD, splitD]
    split
    · rw [apart_app, splitD_app k]
    · rfl
theorem splitD_nil (k : Nat) : splitD b ps n k [] = [] := by
  induction k with
  | zero => rfl
  | succ k ih =>
    rw [splitD, apart_nil, ih]
    split <;> rfl
theorem apart_one {m l r x : Nat} (h : x ≠ m) : apart m l r [x] = [x] := by
  show (if x = m then [l, r] else [x]) ++ [] = [x]
  rw [if_neg h]; rfl
theorem splitD_low {j y : Nat} (hy : y < b + j) : ∀ {k : Nat}, j ≤ k → splitD b ps n k [y] = splitD b ps n j [y]
  | 0, h => by rw [Nat.le_zero.mp h]
  | k + 1, h => by
    by_cases c : j = k + 1
    · rw [c]
    · rw [splitD]
      split
      · rw [apart_one (by omega)]; exact splitD_low hy (by omega)
      · rw [splitD_le (by omega)]
theorem splitD_small {x : Nat} (hx : x < b + n) (k : Nat) : splitD b ps n k [x] = [x] := by
  by_cases h : n ≤ k
  · rw [splitD_low hx h, splitD_le (Nat.le_refl _)]
  · exact splitD_le (by omega) _
theorem splitD_big {j : Nat} {p : Nat × Nat} (hp : ps[j]? = some p) (hn : n ≤ j) (hw : p.1 < b + j ∧ p.2 < b + j) : ∀ {k : Nat}, j < k → splitD b ps n k [b + j] = splitD b ps n k [p.1, p.2]
  | 0, h => absurd h (Nat.not_lt_zero _)
  | k + 1, h => by
    have e1 : splitD b ps n (k + 1) [p.1, p.2] = splitD b ps n j [p.1] ++ splitD b ps n j [p.2] := by
      rw [show [p.1, p.2] = [p.1] ++ [p.2] from rfl, splitD_app, splitD_low hw.1 (by omega), splitD_low hw.2 (by omega)]
    by_cases c : j = k
    · subst c
      rw [e1, splitD, if_pos hn]
      have e : ps.getD j (0, 0) = p := by rw [List.getD_eq_getElem?_getD, hp]; rfl
      rw [e]
      show splitD b ps n j ((if b + j = b + j then [p.1, p.2] else [b + j]) ++ []) = _
      rw [if_pos rfl, ← splitD_app]; rfl
    · rw [e1, splitD, if_pos (by omega), apart_one (by omega), splitD_big hp hn hw (show j < k by omega)]
      rw [show [p.1, p.2] = [p.1] ++ [p.2] from rfl, splitD_app, splitD_low hw.1 (by omega), splitD_low hw.2 (by omega)]
theorem splitD_cut {row : List Nat} (hrow : ∀ x ∈ row, x < b) (hn : n ≤ ps.length) : ∀ k, k ≤ ps.length → n ≤ k → splitD b ps n k (cutL b (ps.take k) row) = cutL b (ps.take n) row
  | 0, _, h => by rw [Nat.le_zero.mp h]; rfl
  | k + 1, hk, h => by
    by_cases c : n = k + 1
    · rw [c, splitD_le (Nat.le_refl _)]
    · obtain ⟨p, hp⟩ : ∃ p, ps[k]? = some p := ⟨_, List.getElem?_eq_getElem (by omega)⟩
      have e : ps.getD k (0, 0) = p := by rw [List.getD_eq_getElem?_getD, hp]; rfl
      rw [splitD, if_pos (by omega), e, take_succ_of hp, cutL_snoc, take_len_of hp, apart_pass fun hm => ?_]
      · exact splitD_cut hrow hn k (by omega) (by omega)
      · rcases run_mem _ 0 _ hm with z | z
        · have := hrow _ z; omega
        · rw [take_len_of hp] at z; omega
theorem apart_text {ts : List (List Nat)} {m l r : Nat} (h : ts.getD m [] = ts.getD l [] ++ ts.getD r []) : ∀ row : List Nat, textR ts (apart m l r row) = textR ts row
  | [] => rfl
  | x :: t => by
    have app : ∀ u v : List Nat, textR ts (u ++ v) = textR ts u ++ textR ts v := fun u v => by unfold textR; rw [List.map_append, List.flatten_append]
    rw [apart_cons, app, apart_text h t, textR_cons ts x]
    split
    · rename_i e
      subst e
      rw [h]
      show (ts.getD l [] ++ (ts.getD r [] ++ [])) ++ _ = _
      rw [List.append_nil]
    · show (ts.getD x [] ++ []) ++ _ = _
      rw [List.append_nil]
theorem splitD_text {al : List Nat} (hw : WF al.length ps) : ∀ (k : Nat) (row : List Nat), k ≤ ps.length → textR (textsOf al ps) (splitD al.length ps n k row) = textR (textsOf al ps) row
  | 0, _, _ => rfl
  | k + 1, row, hk => by
    rw [splitD]
    split
    · obtain ⟨p, hp⟩ : ∃ p, ps[k]? = some p := ⟨_, List.getElem?_eq_getElem (by omega)⟩
      have e : ps.getD k (0, 0) = p := by rw [List.getD_eq_getElem?_getD, hp]; rfl
      rw [splitD_text hw k _ (by omega), e]
      exact apart_text (texts_at hw k p hp) row
    · rfl
theorem splitD_mem (hw : WF b ps) : ∀ (k : Nat) (row : List Nat), k ≤ ps.length → (∀ x ∈ row, x < b + ps.length) → ∀ x ∈ splitD b ps n k row, x < b + ps.length
  | 0, _, _, h => h
  | k + 1, row, hk, h => by
    rw [splitD]
    split
    · obtain ⟨p, hp⟩ : ∃ p, ps[k]? = some p := ⟨_, List.getElem?_eq_getElem (by omega)⟩
      have e : ps.getD k (0, 0) = p := by rw [List.getD_eq_getElem?_getD, hp]; rfl
      refine splitD_mem hw k _ (by omega) fun x hx => ?_
      rw [e] at hx
      obtain ⟨y, hy, hxy⟩ := List.mem_flatMap.mp hx
      have hwk := hw k p hp
      split at hxy
      · rcases List.mem_cons.mp hxy with z | z
        · omega
        · rw [List.mem_singleton.mp z]; omega
      · rw [List.mem_singleton.mp hxy]; exact h y hy
    · exact h
end RJ
end

section
set_option maxRecDepth 100000
namespace RJ
/-! ### spines, crossings and cuts -/
section
variable {b n : Nat} {ps : List (Nat × Nat)}
/-- a row taken back to stage n -/
def Dn (b : Nat) (ps : List (Nat × Nat)) (n : Nat) (row : List Nat) : List Nat := splitD b ps n ps.length row
theorem Dn_app (u v : List Nat) : Dn b ps n (u ++ v) = Dn b ps n u ++ Dn b ps n v := splitD_app _ _ _
theorem Dn_cons (x : Nat) (v : List Nat) : Dn b ps n (x :: v) = Dn b ps n [x] ++ Dn b ps n v := splitD_app _ [x] v
theorem Dn_nil : Dn b ps n [] = [] := splitD_nil _
theorem Dn_small {x : Nat} (hx : x < b + n) : Dn b ps n [x] = [x] := splitD_small hx _
theorem Dn_full (row : List Nat) : Dn b ps ps.length row = row := splitD_le (Nat.le_refl _) row
theorem Dn_big (hw : WF b ps) {j : Nat} {p : Nat × Nat} (hp : ps[j]? = some p) (hn : n ≤ j) : Dn b ps n [b + j] = Dn b ps n [p.1] ++ Dn b ps n [p.2] := by
  have hj := (List.getElem?_eq_some_iff.mp hp).1
  show splitD b ps n ps.length [b + j] = _
  rw [splitD_big hp hn (hw j p hp) hj, show [p.1, p.2] = [p.1] ++ [p.2] from rfl, splitD_app]; rfl
theorem Dn_cut {row : List Nat} (hrow : ∀ x ∈ row, x < b) (hn : n ≤ ps.length) : Dn b ps n (cutL b ps row) = cutL b (ps.take n) row := by
  have := splitD_cut (n := n) hrow hn ps.length (Nat.le_refl _) hn
  rw [List.take_length] at this
  exact this
theorem part_of {x : Nat} (h : x < b + ps.length) : x < b ∨ ∃ j p, x = b + j ∧ ps[j]? = some p := by
  by_cases c : x < b
  · exact .inl c
  · exact .inr ⟨x - b, _, by omega, List.getElem?_eq_getElem (by omega)⟩
theorem Dn_ne (hw : WF b ps) : ∀ (x : Nat), x < b + ps.length → ∃ y t, Dn b ps n [x] = y :: t := by
  intro x
  induction x using Nat.strongRecOn with
  | ind x ih =>
    intro hx
    by_cases c : x < b + n
    · exact ⟨x, [], Dn_small c⟩
    · rcases part_of hx with h | ⟨j, p, rfl, hp⟩
      · omega
      · have hj := hw j p hp
        obtain ⟨y, t, e⟩ := ih p.1 hj.1 (by omega)
        exact ⟨y, t ++ Dn b ps n [p.2], by rw [Dn_big hw hp (by omega), e]; rfl⟩
/-- lists in which each piece is the cut of its letters -/
structure Good (b : Nat) (ps : List (Nat × Nat)) : Prop where
  wf : WF b ps
  one : ∀ x, x < b + ps.length → cutL b ps (Dn b ps 0 [x]) = [x]
  low : ∀ x, x < b + ps.length → ∀ y ∈ Dn b ps 0 [x], y < b
theorem Good.st (G : Good b ps) {x : Nat} (hx : x < b + ps.length) (hn : n ≤ ps.length) : cutL b (ps.take n) (Dn b ps 0 [x]) = Dn b ps n [x] := by
  have := Dn_cut (G.low x hx) hn
  rw [G.one x hx] at this
  exact this.symm
theorem Good.lows (G : Good b ps) : ∀ {row : List Nat}, (∀ x ∈ row, x < b + ps.length) → ∀ y ∈ Dn b ps 0 row, y < b
  | [], _, y, h => by rw [Dn_nil] at h; cases h
  | x :: t, hx, y, h => by
    rw [Dn_cons] at h
    rcases List.mem_append.mp h with z | z
    · exact G.low x (hx x (List.mem_cons_self ..)) y z
    · exact G.lows (fun u hu => hx u (List.mem_cons_of_mem _ hu)) y z
theorem Good.next (G : Good b ps) {x : Nat} (hx : x < b + ps.length) {p : Nat × Nat} (hp : ps[n]? = some p) : pass p.1 p.2 (b + n) (Dn b ps n [x]) = Dn b ps (n + 1) [x] := by
  have hn := (List.getElem?_eq_some_iff.mp hp).1
  rw [← G.st hx (by omega), ← G.st hx (show n + 1 ≤ ps.length by omega), take_succ_of hp, cutL_snoc, take_len_of hp]
/-! passes over two rows -/
theorem last_cons {a : Nat} {l : List Nat} {x : Nat} (h : l.getLast? = some x) : (a :: l).getLast? = some x := by
  rw [List.getLast?_cons, h]; rfl
theorem pass_app {l r m : Nat} (v : List Nat) : ∀ (u : List Nat), ¬ ((pass l r m u).getLast? = some l ∧ v.head? = some r) → pass l r m (u ++ v) = pass l r m u ++ pass l r m v
  | [], _ => rfl
  | [a], h => by
    cases v with
    | nil => rfl
    | cons c t =>
      show pass l r m (a :: c :: t) = a :: pass l r m (c :: t)
      rw [pass, if_neg]
      rintro ⟨rfl, rfl⟩
      exact h ⟨rfl, rfl⟩
  | a :: c :: t, h => by
    show pass l r m (a :: c :: (t ++ v)) = pass l r m (a :: c :: t) ++ pass l r m v
    rw [pass] at h
    rw [pass, pass]
    by_cases q : a = l ∧ c = r
    · rw [if_pos q] at h
      rw [if_pos q, if_pos q, pass_app v t fun z => h ⟨last_cons z.1, z.2⟩]; rfl
    · rw [if_neg q] at h
      rw [if_neg q, if_neg q, show c :: (t ++ v) = (c :: t) ++ v from rfl, pass_app v (c :: t) fun z => h ⟨last_cons z.1, z.2⟩]; rfl
theorem last_cons_ne {m l : Nat} {x : List Nat} (hm : m ≠ l) (h : (m :: x).getLast? = some l) : x.getLast? = some l ∧ x ≠ [] := by
  cases x with
  | nil => exact absurd (Option.some.inj h) hm
  | cons y x =>
    rw [List.getLast?_cons_cons] at h
    exact ⟨h, List.cons_ne_nil _ _⟩
theorem pass_cross {l r m : Nat} (hm : m ≠ l) (t : List Nat) : ∀ (u : List Nat), (pass l r m u).getLast? = some l → pass l r m (u ++ r :: t) = (pass l r m u).dropLast ++ m :: pass l r m t
  | [], h => by cases h
  | [a], h => by
    have e : a = l := Option.some.inj h
    subst e
    show pass a r m (a :: r :: t) = m :: pass a r m t
    rw [pass, if_pos ⟨rfl, rfl⟩]
  | a :: c :: u, h => by
    show pass l r m (a :: c :: (u ++ r :: t)) = _
    rw [pass] at h
    rw [pass, pass]
    by_cases q : a = l ∧ c = r
    · rw [if_pos q] at h
      rw [if_pos q, if_pos q]
      obtain ⟨h1, h2⟩ := last_cons_ne hm h
      rw [pass_cross hm t u h1, List.dropLast_cons_of_ne_nil h2]; rfl
    · rw [if_neg q] at h
      rw [if_neg q, if_neg q]
      obtain ⟨y, s, e, _⟩ := pass_head (l := l) (r := r) (m := m) (a := c) (t := u)
      have h2 : pass l r m (c :: u) ≠ [] := by rw [e]; exact List.cons_ne_nil _ _
      have h1 : (pass l r m (c :: u)).getLast? = some l := by
        rw [e] at h ⊢
        rwa [List.getLast?_cons_cons] at h
      rw [show c :: (u ++ r :: t) = (c :: u) ++ r :: t from rfl, pass_cross hm t (c :: u) h1, List.dropLast_cons_of_ne_nil h2]; rfl
/-! spines -/
inductive Spn (b : Nat) (ps : List (Nat × Nat)) (sd : Nat × Nat → Nat) (x : Nat) : Nat → Option Nat → Prop
  | self : Spn b ps sd x x none
  | step {j : Nat} {p : Nat × Nat} {bd : Option Nat} : Spn b ps sd x (b + j) bd → ps[j]? = some p → Spn b ps sd x (sd p) (some j)
/-- n is not beyond the bound -/
def upTo (n : Nat) (bd : Option Nat) : Prop := ∀ k, bd = some k → n ≤ k
def Side (sd : Nat × Nat → Nat) : Prop := ∀ p, sd p = p.1 ∨ sd p = p.2
theorem side1 : Side Prod.fst := fun _ => .inl rfl
theorem side2 : Side Prod.snd := fun _ => .inr rfl
theorem Spn.lt {sd : Nat × Nat → Nat} (hs : Side sd) (hw : WF b ps) {x y k : Nat} (h : Spn b ps sd x y (some k)) : y < b + k ∧ k < ps.length := by
  cases h with
  | step h hp =>
    have := hw _ _ hp
    refine ⟨?_, (List.getElem?_eq_some_iff.mp hp).1⟩
    rcases hs ‹_› with e | e <;> rw [e] <;> omega
theorem Spn.mem {sd : Nat × Nat → Nat} (hs : Side sd) (hw : WF b ps) {x y : Nat} {bd : Option Nat} (hx : x < b + ps.length) (h : Spn b ps sd x y bd) : y < b + ps.length := by
  cases bd with
  | none => cases h; exact hx
  | some k => have := h.lt hs hw; omega
theorem Spn.ahead {sd : Nat × Nat → Nat} {j y : Nat} {p : Nat × Nat} {bd : Option Nat} (hp : ps[j]? = some p) (h : Spn b ps sd (sd p) y bd) : Spn b ps sd (b + j) y (some (bd.getD j)) := by
  induction h with
  | self => exact .step .self hp
  | step h hq ih => exact .step ih hq
theorem Spn.last (hw : WF b ps) {x y : Nat} {bd : Option Nat} (h : Spn b ps Prod.snd x y bd) : upTo n bd → ∃ pre, Dn b ps n [x] = pre ++ Dn b ps n [y] := by
  induction h with
  | self => exact fun _ => ⟨[], rfl⟩
  | step h hp ih =>
    rename_i j p bd
    intro hu
    have hj := hu j rfl
    obtain ⟨pre, e⟩ := ih fun k ek => by
      subst ek
      have := (h.lt side2 hw).1
      omega
    exact ⟨pre ++ Dn b ps n [p.1], by rw [e, Dn_big hw hp hj, List.append_assoc]⟩
theorem Spn.first (hw : WF b ps) {x y : Nat} {bd : Option Nat} (h : Spn b ps Prod.fst x y bd) : upTo n bd → ∃ post, Dn b ps n [x] = Dn b ps n [y] ++ post := by
  induction h with
  | self => exact fun _ => ⟨[], (List.append_nil _).symm⟩
  | step h hp ih =>
    rename_i j p bd
    intro hu
    have hj := hu j rfl
    obtain ⟨post, e⟩ := ih fun k ek => by
      subst ek
      have := (h.lt side1 hw).1
      omega
    exact ⟨Dn b ps n [p.2] ++ post, by rw [e, Dn_big hw hp hj, List.append_assoc]⟩
theorem getLast_app {u v : List Nat} {x : Nat} (h : v.getLast? = some x) : (u ++ v).getLast? = some x := by
  rw [List.getLast?_append, h]; rfl
theorem head_app {u v : List Nat} {x : Nat} (h : u.head? = some x) : (u ++ v).head? = some x := by
  cases u with
  | nil => cases h
  | cons a u => exact h
theorem last_ex (hw : WF b ps) : ∀ (x : Nat), x < b + ps.length → ∃ y bd, Spn b ps Prod.snd x y bd ∧ upTo n bd ∧ (Dn b ps n [x]).getLast? = some y := by
  intro x
  induction x using Nat.strongRecOn with
  | ind x ih =>
    intro hx
    by_cases c : x < b + n
    · exact ⟨x, none, .self, (fun k e => by cases e), by rw [Dn_small c]; rfl⟩
    · rcases part_of hx with h | ⟨j, p, rfl, hp⟩
      · omega
      · have hj := hw j p hp
        obtain ⟨y, bd, h1, h2, h3⟩ := ih p.2 hj.2 (by omega)
        refine ⟨y, _, h1.ahead hp, fun k e => ?_, ?_⟩
        · have e' : bd.getD j = k := Option.some.inj e
          cases bd with
          | none => have : j = k := e'; omega
          | some i => have : i = k := e'; have := h2 i rfl; omega
        · rw [Dn_big hw hp (by omega)]
          exact getLast_app h3
theorem first_ex (hw : WF b ps) : ∀ (x : Nat), x < b + ps.length → ∃ y bd, Spn b ps Prod.fst x y bd ∧ upTo n bd ∧ (Dn b ps n [x]).head? = some y := by
  intro x
  induction x using Nat.strongRecOn with
  | ind x ih =>
    intro hx
    by_cases c : x < b + n
    · exact ⟨x, none, .self, (fun k e => by cases e), by rw [Dn_small c]; rfl⟩
    · rcases part_of hx with h | ⟨j, p, rfl, hp⟩
      · omega
      · have hj := hw j p hp
        obtain ⟨y, bd, h1, h2, h3⟩ := ih p.1 hj.1 (by omega)
        refine ⟨y, _, h1.ahead hp, fun k e => ?_, ?_⟩
        · have e' : bd.getD j = k := Option.some.inj e
          cases bd with
          | none => have : j = k := e'; omega
          | some i => have : i = k := e'; have := h2 i rfl; omega
        · rw [Dn_big hw hp (by omega)]
          exact head_app h3
/-- the join of rank r puts letters of x and y together, where x stands ahead of y -/
def Cross (b : Nat) (ps : List (Nat × Nat)) (x y r : Nat) : Prop := ∃ (p : Nat × Nat) (bx by' : Option Nat), ps[r]? = some p ∧ Spn b ps Prod.snd x p.1 bx ∧ Spn b ps Prod.fst y p.2 by' ∧ upTo (r + 1) bx ∧ upTo r by'
theorem Cross.lt {x y r : Nat} (h : Cross b ps x y r) : r < ps.length := by
  obtain ⟨p, _, _, hp, _⟩ := h
  exact (List.getElem?_eq_some_iff.mp hp).1
theorem cross_iff (hw : WF b ps) {x y r : Nat} (hx : x < b + ps.length) (hy : y < b + ps.length) : Cross b ps x y r ↔ ∃ p, ps[r]? = some p ∧ (Dn b ps (r + 1) [x]).getLast? = some p.1 ∧ (Dn b ps r [y]).head? = some p.2 := by
  constructor
  · rintro ⟨p, bx, by', hp, h1, h2, u1, u2⟩
    have hpw := hw r p hp
    obtain ⟨pre, e1⟩ := h1.last hw u1
    obtain ⟨post, e2⟩ := h2.first hw u2
    refine ⟨p, hp, ?_, ?_⟩
    · rw [e1, Dn_small (by omega)]; exact getLast_app rfl
    · rw [e2, Dn_small (by omega)]; rfl
  · rintro ⟨p, hp, h1, h2⟩
    obtain ⟨u, bx, a1, a2, a3⟩ := last_ex (n := r + 1) hw x hx
    obtain ⟨v, by', b1, b2, b3⟩ := first_ex (n := r) hw y hy
    rw [h1] at a3
    rw [h2] at b3
    cases a3
    cases b3
    exact ⟨p, bx, by', hp, a1, b1, a2, b2⟩
/-- all adjacent pieces stay apart at rank n -/
def Still (b : Nat) (ps : List (Nat × Nat)) (n : Nat) (row : List Nat) : Prop := ∀ q ∈ adjs row, ¬ Cross b ps q.1 q.2 n
theorem Still.tail {x : Nat} {t : List Nat} (h : Still b ps n (x :: t)) : Still b ps n t := fun q hq => h q (mem_adjs_cons hq)
theorem Still.left {u v : List Nat} (h : Still b ps n (u ++ v)) : Still b ps n u := fun q hq => h q (adjs_sub_left hq)
theorem pass_row (G : Good b ps) {p : Nat × Nat} (hp : ps[n]? = some p) : ∀ {row : List Nat}, (∀ x ∈ row, x < b + ps.length) → Still b ps n row → pass p.1 p.2 (b + n) (Dn b ps n row) = Dn b ps (n + 1) row
  | [], _, _ => by rw [Dn_nil, Dn_nil]; rfl
  | [x], hx, _ => G.next (hx x (List.mem_cons_self ..)) hp
  | x :: y :: t, hx, hs => by
    have hx0 := hx x (List.mem_cons_self ..)
    have hy0 := hx y (List.mem_cons_of_mem _ (List.mem_cons_self ..))
    rw [Dn_cons, Dn_cons x (y :: t), pass_app, G.next hx0 hp, pass_row G hp (fun u hu => hx u (List.mem_cons_of_mem _ hu)) hs.tail]
    rw [G.next hx0 hp]
    rintro ⟨h1, h2⟩
    refine hs (x, y) (by rw [adjs_cons2]; exact List.mem_cons_self ..) ((cross_iff G.wf hx0 hy0).mpr ⟨p, hp, h1, ?_⟩)
    obtain ⟨z, s, e⟩ := Dn_ne (n := n) G.wf y hy0
    rw [Dn_cons, e] at h2
    rw [e]; exact h2
/-- as long as nothing crosses, each piece is staged by itself -/
theorem stage_row (G : Good b ps) {row : List Nat} (hx : ∀ x ∈ row, x < b + ps.length) : ∀ n, n ≤ ps.length → (∀ r, r < n → Still b ps r row) → cutL b (ps.take n) (Dn b ps 0 row) = Dn b ps n row
  | 0, _, _ => rfl
  | n + 1, hn, hs => by
    obtain ⟨p, hp⟩ : ∃ p, ps[n]? = some p := ⟨_, List.getElem?_eq_getElem (by omega)⟩
    rw [take_succ_of hp, cutL_snoc, take_len_of hp, stage_row G hx n (by omega) fun r hr => hs r (by omega), pass_row G hp hx (hs n (by omega))]
/-- the first pair of adjacent ones that is not still -/
theorem first_cross {row : List Nat} (h : ¬ Still b ps n row) : ∃ u x y v, row = u ++ x :: y :: v ∧ Cross b ps x y n ∧ Still b ps n (u ++ [x]) := by
  induction row with
  | nil => exact absurd (fun q hq => by cases hq) h
  | cons a t ih =>
    cases t with
    | nil => exact absurd (fun q hq => by cases hq) h
    | cons c t =>
      by_cases k : Cross b ps a c n
      · exact ⟨[], a, c, t, rfl, k, fun q hq => by cases hq⟩
      · have h2 : ¬ Still b ps n (c :: t) := fun hs => h fun q hq => by
          rw [adjs_cons2] at hq
          rcases List.mem_cons.mp hq with z | z
          · rw [z]; exact k
          · exact hs q z
        obtain ⟨u, x, y, v, e, h3, h4⟩ := ih h2
        refine ⟨a :: u, x, y, v, by rw [e]; rfl, h3, ?_⟩
        cases u with
        | nil =>
          injection e with e1 e2
          subst e1
          intro q hq
          have hq' : q ∈ [(a, c)] := hq
          rw [List.mem_singleton.mp hq']; exact k
        | cons d u =>
          injection e with e1 e2
          subst e1
          intro q hq
          have hq' : q ∈ (a, c) :: adjs (c :: u ++ [x]) := hq
          rcases List.mem_cons.mp hq' with z | z
          · rw [z]; exact k
          · exact h4 q z
/-- what the pass at a crossing makes -/
theorem pass_at_cross (G : Good b ps) {p : Nat × Nat} (hp : ps[n]? = some p) {u v : List Nat} {x y : Nat} (hx : ∀ z ∈ u ++ x :: y :: v, z < b + ps.length) (hc : Cross b ps x y n) (hs : Still b ps n (u ++ [x])) :
    ∃ t, (Dn b ps n (y :: v)) = p.2 :: t ∧ (Dn b ps (n + 1) (u ++ [x])).getLast? = some p.1 ∧ pass p.1 p.2 (b + n) (Dn b ps n (u ++ x :: y :: v)) = (Dn b ps (n + 1) (u ++ [x])).dropLast ++ (b + n) :: pass p.1 p.2 (b + n) t := by
  have hx0 : x < b + ps.length := hx x (by simp)
  have hy0 : y < b + ps.length := hx y (by simp)
  obtain ⟨p', hp', h1, h2⟩ := (cross_iff G.wf hx0 hy0).mp hc
  rw [hp] at hp'
  cases hp'
  obtain ⟨z, s, e⟩ := Dn_ne (n := n) G.wf y hy0
  rw [e] at h2
  have ez : z = p.2 := Option.some.inj h2
  subst ez
  have hl : (Dn b ps (n + 1) (u ++ [x])).getLast? = some p.1 := by rw [Dn_app]; exact getLast_app h1
  have hd : Dn b ps n (y :: v) = p.2 :: (s ++ Dn b ps n v) := by rw [Dn_cons, e]; rfl
  refine ⟨_, hd, hl, ?_⟩
  have hpass := pass_row G hp (row := u ++ [x]) (fun z hz => hx z (by
    rcases List.mem_append.mp hz with w | w
    · exact List.mem_append_left _ w
    · rw [List.mem_singleton.mp w]; simp)) hs
  have hm : b + n ≠ p.1 := by have := (G.wf n p hp).1; omega
  rw [show u ++ x :: y :: v = (u ++ [x]) ++ y :: v by simp, Dn_app, hd, pass_cross hm _ _ (by rw [hpass]; exact hl), hpass]
/-- a row of pieces is the cut of its letters if and only if no two neighbors cross -/
theorem cut_row_iff (G : Good b ps) {row : List Nat} (hx : ∀ x ∈ row, x < b + ps.length) : cutL b ps (Dn b ps 0 row) = row ↔ ∀ q ∈ adjs row, ∀ r, ¬ Cross b ps q.1 q.2 r := by
  constructor
  · intro h q hq r hc
    have hr := hc.lt
    obtain ⟨p, hp⟩ : ∃ p, ps[r]? = some p := ⟨_, List.getElem?_eq_getElem hr⟩
    have hns : ¬ Still b ps r row := fun hs => hs q hq hc
    obtain ⟨u, x, y, v, rfl, hc', hs'⟩ := first_cross hns
    obtain ⟨t, h1, h2, h3⟩ := pass_at_cross G hp hx hc' hs'
    have lows := G.lows hx
    have e1 := Dn_cut (n := r) (ps := ps) lows (by omega)
    have e2 := Dn_cut (n := r + 1) (ps := ps) lows (by omega)
    rw [h] at e1 e2
    rw [take_succ_of hp, cutL_snoc, take_len_of hp, ← e1, h3, show u ++ x :: y :: v = (u ++ [x]) ++ y :: v by simp, Dn_app] at e2
    obtain ⟨ys, ey⟩ := List.getLast?_eq_some_iff.mp h2
    rw [ey, List.dropLast_concat, List.append_assoc] at e2
    have e3 := List.append_cancel_left e2
    injection e3 with e4 e5
    have := (G.wf r p hp).1
    omega
  · intro h
    have := stage_row G hx ps.length (Nat.le_refl _) fun r _ q hq => h q hq r
    rwa [List.take_length, Dn_full] at this
/-- and at the first crossing there is no seam left -/
theorem cross_first (G : Good b ps) {x y c : Nat} (hx : x < b + ps.length) (hy : y < b + ps.length) (hc : Cross b ps x y c) (hno : ∀ r, r < c → ¬ Cross b ps x y r) :
    ∃ A B p, ps[c]? = some p ∧ Dn b ps (c + 1) [x] = A ++ [p.1] ∧ cutL b (ps.take (c + 1)) (Dn b ps 0 [x, y]) = A ++ (b + c) :: B := by
  have hcl := hc.lt
  obtain ⟨p, hp⟩ : ∃ p, ps[c]? = some p := ⟨_, List.getElem?_eq_getElem hcl⟩
  have hxy : ∀ z ∈ [x, y], z < b + ps.length := fun z hz => by
    rcases List.mem_cons.mp hz with w | w
    · rw [w]; exact hx
    · rw [List.mem_singleton.mp w]; exact hy
  obtain ⟨t, h1, h2, h3⟩ := pass_at_cross (u := []) (v := []) G hp hxy hc (fun q hq => by cases hq)
  obtain ⟨ys, ey⟩ := List.getLast?_eq_some_iff.mp h2
  refine ⟨ys, pass p.1 p.2 (b + c) t, p, hp, ey, ?_⟩
  rw [take_succ_of hp, cutL_snoc, take_len_of hp, stage_row G hxy c (by omega) fun r hr q hq => by
    have hq' : q ∈ [(x, y)] := hq
    rw [List.mem_singleton.mp hq']; exact hno r hr]
  rw [show [x, y] = [] ++ x :: y :: [] from rfl, h3, ey, List.dropLast_concat]
end
/-- proper lists are good ones -/
theorem Dn_text {al : List Nat} (hal : al.Nodup) {ps : List (Nat × Nat)} (h : Proper al ps) {x : Nat} (hx : x < al.length + ps.length) : Dn al.length ps 0 [x] = lets al ((textsOf al ps).getD x []) := by
  have ht : (textsOf al ps)[x]? = some ((textsOf al ps).getD x []) := by
    rw [List.getD_eq_getElem?_getD, List.getElem?_eq_getElem (by rw [textsOf_len]; exact hx)]; rfl
  have hm : ∀ c ∈ (textsOf al ps).getD x [], c ∈ al := textsOf_al _ (List.mem_of_getElem? ht)
  have := Dn_cut (n := 0) (ps := ps) (lets_lt hm) (Nat.zero_le _)
  rw [cut_piece hal h x _ ht] at this
  exact this
theorem lets_app (al u v : List Nat) : lets al (u ++ v) = lets al u ++ lets al v := List.map_append
theorem Dn_texts {al : List Nat} (hal : al.Nodup) {ps : List (Nat × Nat)} (h : Proper al ps) : ∀ {row : List Nat}, (∀ x ∈ row, x < al.length + ps.length) → Dn al.length ps 0 row = lets al (textR (textsOf al ps) row)
  | [], _ => Dn_nil
  | x :: t, hx => by
    rw [Dn_cons, Dn_text hal h (hx x (List.mem_cons_self ..)), Dn_texts hal h fun u hu => hx u (List.mem_cons_of_mem _ hu), textR_cons, lets_app]
theorem Proper.good {al : List Nat} (hal : al.Nodup) {ps : List (Nat × Nat)} (h : Proper al ps) : Good al.length ps where
  wf := h.wf
  one := fun x hx => by
    rw [Dn_text hal h hx]
    exact cut_piece hal h x _ (by rw [List.getD_eq_getElem?_getD, List.getElem?_eq_getElem (by rw [textsOf_len]; exact hx)]; rfl)
  low := fun x hx => by
    rw [Dn_text hal h hx]
    exact lets_lt (textsOf_al _ (List.mem_of_getElem? (i := x) (by rw [List.getD_eq_getElem?_getD, List.getElem?_eq_getElem (by rw [textsOf_len]; exact hx)]; rfl)))
section
variable {b : Nat} {ps : List (Nat × Nat)} {sd : Nat × Nat → Nat}
theorem Spn.zero {x y : Nat} {bd : Option Nat} (h : Spn b ps sd x y bd) (e : bd = none) : y = x := by
  cases h with
  | self => rfl
  | step h hp => cases e
theorem Spn.up {x y k : Nat} (h : Spn b ps sd x y (some k)) : b ≤ x := by
  have key : ∀ y bd, Spn b ps sd x y bd → bd = none ∨ b ≤ x := by
    intro y bd h
    induction h with
    | self => exact .inl rfl
    | step h hp ih =>
      rcases ih with e | e
      · have := h.zero e
        exact .inr (by omega)
      · exact .inr e
  rcases key _ _ h with e | e
  · cases e
  · exact e
theorem Spn.down {j y : Nat} {p : Nat × Nat} {bd : Option Nat} (hp : ps[j]? = some p) (h : Spn b ps sd (b + j) y bd) : bd = none ∨ (y = sd p ∧ bd = some j) ∨ ∃ k, bd = some k ∧ Spn b ps sd (sd p) y (some k) := by
  generalize e : b + j = x at h
  induction h with
  | self => exact .inl rfl
  | step h hq ih =>
    rename_i j' q bd0
    refine .inr ?_
    rcases ih with e1 | ⟨e1, e2⟩ | ⟨k, e1, e2⟩
    · have e0 := h.zero e1
      have ej : j = j' := by omega
      subst ej
      rw [hp] at hq
      cases hq
      exact .inl ⟨rfl, rfl⟩
    · refine .inr ⟨j', rfl, ?_⟩
      exact .step (by rw [e1]; exact .self) hq
    · exact .inr ⟨j', rfl, .step e2 hq⟩
/-- all of a spine -/
structure IsSpine (b : Nat) (ps : List (Nat × Nat)) (sd : Nat × Nat → Nat) (x : Nat) (es : List (Nat × Option Nat)) : Prop where
  ok : ∀ e ∈ es, Spn b ps sd x e.1 e.2
  all : ∀ y bd, Spn b ps sd x y bd → (y, bd) ∈ es
/-- the spine up to a last one -/
structure IsSpineTo (b : Nat) (ps : List (Nat × Nat)) (sd : Nat × Nat → Nat) (x : Nat) (es : List (Nat × Option Nat)) (last : Nat) : Prop where
  ok : ∀ e ∈ es, Spn b ps sd x e.1 e.2
  all : ∀ y bd, Spn b ps sd x y bd → (y, bd) ∈ es ∨ ∃ k, bd = some k ∧ Spn b ps sd last y (some k)
  at_ : ∃ bd, (last, bd) ∈ es
theorem IsSpineTo.start (x : Nat) : IsSpineTo b ps sd x [(x, none)] x where
  ok := fun e he => by rw [List.mem_singleton.mp he]; exact .self
  all := fun y bd h => by
    cases bd with
    | none => cases h; exact .inl (List.mem_cons_self ..)
    | some k => exact .inr ⟨k, rfl, h⟩
  at_ := ⟨none, List.mem_cons_self ..⟩
theorem IsSpineTo.next {x j : Nat} {p : Nat × Nat} {es : List (Nat × Option Nat)} (h : IsSpineTo b ps sd x es (b + j)) (hp : ps[j]? = some p) : IsSpineTo b ps sd x (es ++ [(sd p, some j)]) (sd p) where
  ok := fun e he => by
    rcases List.mem_append.mp he with z | z
    · exact h.ok e z
    · rw [List.mem_singleton.mp z]
      obtain ⟨bd, hb⟩ := h.at_
      exact .step (h.ok _ hb) hp
  all := fun y bd hy => by
    rcases h.all y bd hy with z | ⟨k, e, z⟩
    · exact .inl (List.mem_append_left _ z)
    · subst e
      rcases z.down hp with e1 | ⟨e1, e2⟩ | ⟨k', e1, e2⟩
      · cases e1
      · cases e2
        subst e1
        exact .inl (List.mem_append_right _ (List.mem_singleton.mpr rfl))
      · cases e1
        exact .inr ⟨k, rfl, e2⟩
  at_ := ⟨some j, List.mem_append_right _ (List.mem_singleton.mpr rfl)⟩
theorem IsSpineTo.done {x last : Nat} {es : List (Nat × Option Nat)} (h : IsSpineTo b ps sd x es last) (hl : last < b) : IsSpine b ps sd x es where
  ok := h.ok
  all := fun y bd hy => by
    rcases h.all y bd hy with z | ⟨k, e, z⟩
    · exact z
    · have := z.up; omega
/-- the first crossing, if any -/
def CrossIs (b : Nat) (ps : List (Nat × Nat)) (x y : Nat) : Option Nat → Prop
  | none => ∀ r, ¬ Cross b ps x y r
  | some c => Cross b ps x y c ∧ ∀ r, r < c → ¬ Cross b ps x y r
theorem CrossIs.uniq {x y : Nat} : ∀ {c d : Option Nat}, CrossIs b ps x y c → CrossIs b ps x y d → c = d
  | none, none, _, _ => rfl
  | none, some d, h, k => absurd k.1 (h d)
  | some c, none, h, k => absurd h.1 (k c)
  | some c, some d, h, k => by
    rcases Nat.lt_trichotomy c d with z | z | z
    · exact absurd h.1 (k.2 c z)
    · rw [z]
    · exact absurd k.1 (h.2 d z)
theorem least_ex {P : Nat → Prop} (h : ∃ n, P n) : ∃ n, P n ∧ ∀ m, m < n → ¬ P m := by
  obtain ⟨n, hn⟩ := h
  induction n using Nat.strongRecOn with
  | ind n ih =>
    by_cases c : ∃ m, m < n ∧ P m
    · obtain ⟨m, hm, hp⟩ := c
      exact ih m hm hp
    · exact ⟨n, hn, fun m hm hp => c ⟨m, hm, hp⟩⟩
theorem CrossIs.ex (b : Nat) (ps : List (Nat × Nat)) (x y : Nat) : ∃ c, CrossIs b ps x y c := by
  by_cases h : ∃ r, Cross b ps x y r
  · obtain ⟨c, h1, h2⟩ := least_ex h
    exact ⟨some c, h1, h2⟩
  · exact ⟨none, fun r hr => h ⟨r, hr⟩⟩
end
theorem Proper.fresh {al : List Nat} {ps : List (Nat × Nat)} (h : Proper al ps) {i : Nat} {p : Nat × Nat} (hp : ps[i]? = some p) : p ∉ ps.take i := fun hm => by
  obtain ⟨h1, h2, h3, h4⟩ := h i p hp
  have := cut_clean (h.take i).wf (lets al ((textsOf al (ps.take i)).getD p.1 [] ++ (textsOf al (ps.take i)).getD p.2 [])) _ hm
  rw [h4] at this
  exact this (by show (p.1, p.2) ∈ [(p.1, p.2)]; exact List.mem_cons_self ..)
theorem Proper.idx {al : List Nat} {ps : List (Nat × Nat)} (h : Proper al ps) {i : Nat} {p : Nat × Nat} (hp : ps[i]? = some p) : ps.idxOf p = i := by
  have hm : p ∈ ps := List.mem_of_getElem? hp
  have h1 : ps.idxOf p < ps.length := List.idxOf_lt_length_iff.mpr hm
  have h2 : ps[ps.idxOf p]? = some p := by rw [List.getElem?_eq_getElem h1, List.getElem_idxOf h1]
  rcases Nat.lt_trichotomy (ps.idxOf p) i with z | z | z
  · refine absurd ?_ (h.fresh hp)
    refine List.mem_of_getElem? (i := ps.idxOf p) ?_
    rw [List.getElem?_take, if_pos z]; exact h2
  · exact z
  · refine absurd ?_ (h.fresh h2)
    refine List.mem_of_getElem? (i := i) ?_
    rw [List.getElem?_take, if_pos z]; exact hp
/-! ### places behind pieces -/
def marks (ts : List (List Nat)) : Nat → List Nat → List Nat
  | _, [] => []
  | a, x :: t => (a + (ts.getD x []).length) :: marks ts (a + (ts.getD x []).length) t
def szR (ts : List (List Nat)) (row : List Nat) : Nat := (textR ts row).length
theorem szR_cons (ts : List (List Nat)) (x : Nat) (t : List Nat) : szR ts (x :: t) = (ts.getD x []).length + szR ts t := by
  unfold szR
  rw [textR_cons, List.length_append]
theorem textR_app (ts : List (List Nat)) (u v : List Nat) : textR ts (u ++ v) = textR ts u ++ textR ts v := by
  unfold textR; rw [List.map_append, List.flatten_append]
theorem szR_app (ts : List (List Nat)) (u v : List Nat) : szR ts (u ++ v) = szR ts u + szR ts v := by
  unfold szR; rw [textR_app, List.length_append]
theorem marks_app (ts : List (List Nat)) : ∀ (u v : List Nat) (a : Nat), marks ts a (u ++ v) = marks ts a u ++ marks ts (a + szR ts u) v
  | [], v, a => by show marks ts a v = marks ts (a + 0) v; rw [Nat.add_zero]
  | x :: u, v, a => by
    show (a + (ts.getD x []).length) :: marks ts (a + (ts.getD x []).length) (u ++ v) = (a + (ts.getD x []).length) :: (marks ts _ u ++ _)
    rw [marks_app ts u v, szR_cons, Nat.add_assoc]
theorem marks_le {ts : List (List Nat)} : ∀ {row : List Nat} {a n : Nat}, n ∈ marks ts a row → a ≤ n ∧ n ≤ a + szR ts row
  | [], _, _, h => by cases h
  | x :: t, a, n, h => by
    rw [szR_cons]
    rcases List.mem_cons.mp h with z | z
    · omega
    · have := marks_le z; omega
theorem marks_end {ts : List (List Nat)} : ∀ {row : List Nat} {a : Nat}, row ≠ [] → a + szR ts row ∈ marks ts a row
  | [], _, h => absurd rfl h
  | [x], a, _ => by
    rw [szR_cons]
    exact List.mem_cons_self ..
  | x :: y :: t, a, _ => by
    rw [szR_cons, ← Nat.add_assoc]
    exact List.mem_cons_of_mem _ (marks_end (row := y :: t) (List.cons_ne_nil _ _))
theorem marks_len (ts : List (List Nat)) : ∀ (row : List Nat) (a : Nat), (marks ts a row).length = row.length
  | [], _ => rfl
  | x :: t, a => congrArg (· + 1) (marks_len ts t _)
theorem texts_pos {al : List Nat} {ps : List (Nat × Nat)} (hw : WF al.length ps) : ∀ (x : Nat), x < al.length + ps.length → 0 < ((textsOf al ps).getD x []).length := by
  intro x
  induction x using Nat.strongRecOn with
  | ind x ih =>
    intro hx
    rcases part_of hx with h | ⟨j, p, rfl, hp⟩
    · rw [texts_letter (List.getElem?_eq_getElem h)]; exact Nat.one_pos
    · have hj := hw j p hp
      rw [texts_at hw j p hp, List.length_append]
      have := ih p.1 hj.1 (by omega)
      omega
theorem Dn_size {al : List Nat} {ps : List (Nat × Nat)} (hw : WF al.length ps) (n x : Nat) : szR (textsOf al ps) (Dn al.length ps n [x]) = ((textsOf al ps).getD x []).length := by
  unfold szR Dn
  rw [splitD_text hw _ _ (Nat.le_refl _)]
  show (((textsOf al ps).getD x []) ++ []).length = _
  rw [List.append_nil]
/-- as long as nothing crosses there is a seam -/
theorem seam_of_still {al : List Nat} {ps : List (Nat × Nat)} (hal : al.Nodup) (h : Proper al ps) {x y n : Nat} (hx : x < al.length + ps.length) (hy : y < al.length + ps.length) (hn : n ≤ ps.length) (hno : ∀ r, r < n → ¬ Cross al.length ps x y r) :
    ((textsOf al ps).getD x []).length ∈ marks (textsOf al ps) 0 (cutL al.length (ps.take n) (Dn al.length ps 0 [x, y])) := by
  rw [stage_row (h.good hal) (row := [x, y]) (fun z hz => by
    rcases List.mem_cons.mp hz with w | w
    · rw [w]; exact hx
    · rw [List.mem_singleton.mp w]; exact hy) n hn fun r hr q hq => by
    have hq' : q ∈ [(x, y)] := hq
    rw [List.mem_singleton.mp hq']; exact hno r hr]
  rw [Dn_cons, marks_app, ← Dn_size h.wf n x, ← Nat.zero_add (szR _ _)]
  refine List.mem_append_left _ (marks_end ?_)
  obtain ⟨z, s, e⟩ := Dn_ne (n := n) h.wf x hx
  rw [e]; exact List.cons_ne_nil _ _
/-- and at the first crossing there is none -/
theorem no_seam {al : List Nat} {ps : List (Nat × Nat)} (hal : al.Nodup) (h : Proper al ps) {x y c : Nat} (hx : x < al.length + ps.length) (hy : y < al.length + ps.length) (hc : Cross al.length ps x y c) (hno : ∀ r, r < c → ¬ Cross al.length ps x y r) :
    ((textsOf al ps).getD x []).length ∉ marks (textsOf al ps) 0 (cutL al.length (ps.take (c + 1)) (Dn al.length ps 0 [x, y])) := by
  obtain ⟨A, B, p, hp, e1, e2⟩ := cross_first (h.good hal) hx hy hc hno
  have hw := h.wf
  have hpw := hw c p hp
  have hcl := (List.getElem?_eq_some_iff.mp hp).1
  have hsz : ((textsOf al ps).getD x []).length = szR (textsOf al ps) A + ((textsOf al ps).getD p.1 []).length := by
    rw [← Dn_size hw (c + 1) x, e1, szR_app, szR_cons]; rfl
  have p1 := texts_pos hw p.1 (by omega)
  have p2 := texts_pos hw p.2 (by omega)
  intro hm
  rw [e2, marks_app] at hm
  rcases List.mem_append.mp hm with z | z
  · have := marks_le z; omega
  · have hlen : ((textsOf al ps).getD (al.length + c) []).length = ((textsOf al ps).getD p.1 []).length + ((textsOf al ps).getD p.2 []).length := by rw [texts_at hw c p hp, List.length_append]
    rcases List.mem_cons.mp z with w | w
    · omega
    · have := marks_le w; omega
/-- the cut of two pieces' text -/
theorem cut_pair_iff {al : List Nat} {ps : List (Nat × Nat)} (hal : al.Nodup) (h : Proper al ps) {x y : Nat} (hx : x < al.length + ps.length) (hy : y < al.length + ps.length) {c : Option Nat} (hc : CrossIs al.length ps x y c) :
    cutL al.length ps (lets al ((textsOf al ps).getD x [] ++ (textsOf al ps).getD y [])) = [x, y] ↔ c = none := by
  have hxy : ∀ z ∈ [x, y], z < al.length + ps.length := fun z hz => by
    rcases List.mem_cons.mp hz with w | w
    · rw [w]; exact hx
    · rw [List.mem_singleton.mp w]; exact hy
  have e : Dn al.length ps 0 [x, y] = lets al ((textsOf al ps).getD x [] ++ (textsOf al ps).getD y []) := by
    rw [Dn_texts hal h hxy, textR_cons, textR_cons]
    show lets al (_ ++ (_ ++ [])) = _
    rw [List.append_nil]
  rw [← e, cut_row_iff (h.good hal) hxy]
  constructor
  · intro hn
    cases c with
    | none => rfl
    | some c => exact absurd hc.1 (hn (x, y) (by show (x, y) ∈ [(x, y)]; exact List.mem_cons_self ..) c)
  · intro e q hq r
    subst e
    have hq' : q ∈ [(x, y)] := hq
    rw [List.mem_singleton.mp hq']; exact hc r
end RJ
end

section
set_option maxRecDepth 100000
namespace RJ
open PySem PySem.Spec PyProof.Rows L2
/-- what an iterator at it draws: n items, the i-th one PV i; G: what must stay tracked -/
structure DrawK (P : Program) (w : World) (K : PySem.W.Frag) (it : Addr) (n : Nat) (tnI : Nat → Heap → Prop) (G : Hp → Prop) (PV : Nat → V → Prop) : Prop where
  obj : ∀ i h, tnI i h → ∃ o, h.get? it = some o ∧ ∀ v, o.data ≠ .cell v
  keep : ∀ i h h', tnI i h → (∀ o, h.get? it = some o → h'.get? it = some o) → tnI i h'
  draws : ∀ (X : Cx), X.prog = P → X.w = w → X.K = K → X.calm = true → ∀ (i : Nat) (pins : List (Addr × Obj)) (s : Shared) (σ : L2.St) (H : Hp), Inv X pins σ H s → G H → H it = none → tnI i s.heap →
    ∃ (fp : List Addr) (PD : Nat → Value → Prop) (StD : Nat → Heap → Prop), Draws P w X.A.in1 it fp n PD StD ∧ StD i s.heap ∧ it ∈ fp ∧ (∀ b ∈ fp, b = it ∨ (∃ o, H b = some o)) ∧
      (∀ j h, StD j h → tnI j h) ∧ ∀ j v, PD j v → ∃ x, PV j x ∧ RelV x v
theorem drawK_str {P : Program} {w : World} {K : PySem.W.Frag} (it : Addr) (x : Str) (t : Tok) :
    DrawK P w K it x.cps.size (fun i h => h.IsStrIter it (strIterType x) x t i) (fun _ => True) (fun i v => ∃ c, x.cps[i]? = some c ∧ v = .str ⟨#[c]⟩) where
  obj := fun i h st => by
    obtain ⟨o, e, c, d⟩ := st
    exact ⟨o, e, fun v z => by rw [d] at z; cases z⟩
  keep := fun i h h' st k => let ⟨o, ho, r⟩ := st; ⟨o, k o ho, r⟩
  draws := fun X hP hw hK hc i pins s σ H I _ _ st => by
    subst hP hw hK
    exact ⟨[it], _, _, Draws.text (A := X.A.in1) (I.ok.hd hc) it x t, st, by simp, fun b hb => .inl (by simpa using hb), fun j h q => q, fun j v ⟨c, u, hx, e⟩ => ⟨_, ⟨c, hx, rfl⟩, by rw [e]; exact ⟨u, rfl⟩⟩⟩
theorem drawK_tup {P : Program} {w : World} {K : PySem.W.Frag} (it a : Addr) (xs : List V) :
    DrawK P w K it xs.length (fun i h => h.IsTupleIter it a i) (fun H => H a = some (.tup xs)) (fun i v => xs[i]? = some v) where
  obj := fun i h st => by
    obtain ⟨o, e, c, d⟩ := st
    exact ⟨o, e, fun v z => by rw [d] at z; cases z⟩
  keep := fun i h h' st k => st.at k
  draws := fun X hP hw hK hc i pins s σ H I hG hn st => by
    subst hP hw hK
    have hne : a ≠ it := ne_of_none hG hn
    obtain ⟨its, rv, p, _⟩ := I.tuple (SqT.of hG)
    have hl := rv.length
    have e : its.toArray.size = xs.length := by simp [hl]
    have D := Draws.tuple (prog := X.prog) (w := X.w) (A := X.A.in1) (I.ok.hd hc) it a hne its.toArray
    rw [e] at D
    refine ⟨[it, a], _, _, D, ⟨st, p⟩, by simp, fun b hb => ?_, fun j h q => q.1, fun j v q => ?_⟩
    · rcases List.mem_cons.mp hb with z | z
      · exact .inl z
      · exact .inr ⟨_, by rw [List.mem_singleton.mp z]; exact hG⟩
    · have q' : its[j]? = some v := by simpa using q
      have hj : j < xs.length := by
        have := (List.getElem?_eq_some_iff.mp q').1
        omega
      obtain ⟨u, hu, ru⟩ := rv.get (List.getElem?_eq_getElem hj)
      rw [q'] at hu
      cases hu
      exact ⟨_, List.getElem?_eq_getElem hj, ru⟩
theorem drawK_list {P : Program} {w : World} {K : PySem.W.Frag} (it a : Addr) (xs : List V) :
    DrawK P w K it xs.length (fun i h => h.IsListIter it a i) (fun H => H a = some (.lst xs)) (fun i v => xs[i]? = some v) where
  obj := fun i h st => by
    obtain ⟨o, e, c, d⟩ := st
    exact ⟨o, e, fun v z => by rw [d] at z; cases z⟩
  keep := fun i h h' st k => st.at k
  draws := fun X hP hw hK hc i pins s σ H I hG hn st => by
    subst hP hw hK
    have hne : a ≠ it := ne_of_none hG hn
    obtain ⟨its, rv, p, _⟩ := I.list (SqL.of hG)
    have hl := rv.length
    have e : its.toArray.size = xs.length := by simp [hl]
    have D := Draws.list (prog := X.prog) (w := X.w) (A := X.A.in1) (I.ok.hd hc) it a hne its.toArray
    rw [e] at D
    refine ⟨[it, a], _, _, D, ⟨st, p.isList⟩, by simp, fun b hb => ?_, fun j h q => q.1, fun j v q => ?_⟩
    · rcases List.mem_cons.mp hb with z | z
      · exact .inl z
      · exact .inr ⟨_, by rw [List.mem_singleton.mp z]; exact hG⟩
    · have q' : its[j]? = some v := by simpa using q
      have hj : j < xs.length := by
        have := (List.getElem?_eq_some_iff.mp q').1
        omega
      obtain ⟨u, hu, ru⟩ := rv.get (List.getElem?_eq_getElem hj)
      rw [q'] at hu
      cases hu
      exact ⟨_, List.getElem?_eq_getElem hj, ru⟩
/-- n turns, each with a new tuple of xs, PX i xs, while G stands -/
def ItG (n : Nat) (G : Hp → Prop) (PX : Nat → List V → Prop) : It :=
  ⟨fun i H => G H ∧ i < n, fun i H v H' => ∃ T xs, v = .ref T ∧ H T = none ∧ H' = upd H T (.tup xs) ∧ PX i xs, fun i H => G H ∧ n ≤ i⟩
theorem two {a b : Addr} {p : Addr → Prop} (h1 : p a) (h2 : p b) : ∀ c ∈ [a, b], p c := fun c hc => by
  simp only [List.mem_cons, List.not_mem_nil, or_false] at hc
  rcases hc with e | e <;> rw [e] <;> assumption
theorem out2 {a b c : Addr} (h : c ∉ [a, b]) : c ≠ a ∧ c ≠ b := by
  simp only [List.mem_cons, List.not_mem_nil, or_false, not_or] at h; exact h
/-- an enumerate between two turns -/
def EnumT (e it : Addr) (n : Nat) (tnI : Nat → Heap → Prop) (i : Nat) (h : Heap) : Prop := i ≤ n ∧ (∃ old, IsEnum h e it ((i : Nat) : Int) old) ∧ tnI i h ∧ e ≠ it
theorem turn_enumG {P : Program} {w : World} {K : PySem.W.Frag} {elts : List Expr} {kk : Nat} {tpos : Pos} {e it : Addr} {n : Nat} {tnI : Nat → Heap → Prop} {G : Hp → Prop} {PV : Nat → V → Prop} (D : DrawK P w K it n tnI G PV) :
    Turn P w K (.Tuple elts kk tpos) (ItG n G fun i xs => ∃ v, PV i v ∧ xs = [.int (i : Nat), v]) [e, it] e (EnumT e it n tnI) where
  mem := List.mem_cons_self ..
  obj := fun i h ⟨_, ⟨_, a⟩, b, _⟩ => two (p := fun c => ∃ o, h.get? c = some o ∧ _) ⟨_, a, fun _ q => nomatch q⟩ (D.obj i h b)
  keep := fun i h h' ⟨l, ⟨old, a⟩, b, n⟩ k => ⟨l, ⟨old, k e (by simp) _ a⟩, D.keep i h h' b fun o => k it (by simp) o, n⟩
  item := by
    rintro X hP hw hK hc i pins s σ H E I hf ⟨hle, ⟨old, he⟩, hit, hne⟩ ⟨hG, hlt⟩
    obtain ⟨fp, PD, StD, DD, c1, m1, q1, back, val⟩ := D.draws X hP hw hK hc i pins s σ H I hG (hf it (by simp)).1 hit
    subst hP hw hK
    have apart : e ∉ fp := fun z => by
      rcases q1 e z with q | ⟨o, q⟩
      · exact hne q
      · rw [(hf e (by simp)).1] at q; cases q
    have lt2 : ∀ c ∈ [e, it], c < s.heap.objs.size := by
      obtain ⟨_, q⟩ := DD.live _ _ c1
      exact two (Heap.lt_size he) (Heap.lt_size q)
    refine wpAny_pyNext_enum_itemC DD he c1 hlt hne apart fun u h' tk hu ho j1 hT _ hk => ⟨_, rfl, ?_⟩
    obtain ⟨x, hx, ru⟩ := val i u hu
    refine wpAny_letOwnedTupleGo_enum (s := { s with heap := h', toks := tk + 1 }) ho fun g zg sg => ?_
    have on : ∀ {c : Addr} {o : Obj}, c ≠ e → h'.get? c = some o → g.get? c = some o := fun n a => (sg.2 _ n).trans a
    have made : ObjOk X.prog X.w (upd H s.heap.objs.size (.tup [.int (i : Nat), x])) g s.heap.objs.size (.tup [.int (i : Nat), x]) := ⟨by show 2 ≤ sizeLine; decide, [.int i tk, u], .cons ⟨_, rfl⟩ (.cons ru .nil), ⟨_, on (Nat.ne_of_gt (lt2 e (by simp))) hT, rfl, _, rfl⟩⟩
    have J : Inv X pins σ (upd H s.heap.objs.size (.tup [.int (i : Nat), x])) { s with heap := g, toks := tk + 1 } := I.turnedNew (ch := [e, it]) (fun c o hb q => on (out2 hb).1 (hk c o (out2 hb).1 (out2 hb).2 q)) hf (Nat.le_refl _) made
    have next : IsEnum g e it ((i + 1 : Nat) : Int) u := by rw [show ((i + 1 : Nat) : Int) = (i : Int) + 1 by omega]; exact zg
    exact ⟨.ref s.heap.objs.size, _, J, rfl, ⟨_, _, rfl, I.hok.fresh (Nat.le_refl _), rfl, x, hx, rfl⟩, ⟨hlt, ⟨u, next⟩, D.keep _ _ _ (back _ _ j1) fun _ => on (Ne.symm hne), hne⟩, fun c hcm => (upd_ne (Nat.ne_of_lt (lt2 c hcm))).trans (hf c hcm).1⟩
  done := by
    rintro X hP hw hK hc i pins s σ H E I hf ⟨hle, ⟨old, he⟩, hit, hne⟩ ⟨hG, hge⟩
    obtain ⟨fp, PD, StD, DD, c1, m1, q1, back, val⟩ := D.draws X hP hw hK hc i pins s σ H I hG (hf it (by simp)).1 hit
    subst hP hw hK
    obtain rfl : i = n := Nat.le_antisymm hle hge
    exact wpAny_pyNext_enum_endD DD he c1 fun h' eb => ⟨rfl, I.turnedL (t' := s.toks) (ch := [e, it]) (fun c o hb q => eb c o (out2 hb).2 q) hf⟩
  self := fun A i s Q E st h => by
    obtain ⟨_, ⟨_, he⟩, _⟩ := st
    exact wpAny_pyIter_enum he h
end RJ
end

section
set_option maxRecDepth 100000
namespace PySem
abbrev enumNew (it : Addr) : Obj := { cls := .type "enumerate", data := .fields #[.none, .bool false, .ref it, rawInt 0, .none, .none] }
set_option maxHeartbeats 1000000 in
/-- enumerate(v): an iterator of v, and the enumerate behind it -/
theorem rj_enum_made {v : Value} {o : Obj} {H : Heap → Prop} (B : Begins v o H) : Meets (Builtin.«enumerate.__new__» ⟨[.type "enumerate", v], []⟩) (fun _ R s => H s.heap ∧ R (.ok (.ret (.ref (s.heap.push o).objs.size))) { s with heap := (s.heap.push o).push (enumNew s.heap.objs.size) }) :=
  .of_wp fun prog w A R s ⟨src, fin⟩ => by
    have sub := sub_enumerate
    have it : ∀ {A' : Around} {E Q : Value → Shared → Prop}, Q (.ref s.heap.objs.size) { s with heap := s.heap.push o } → wpAny (model prog w) A' (pyIter v) Q E s := fun q => B.iter prog w _ _ s _ src q
    wp_walk using it
    refine wpAny_stack_any fun _ => wpAny_pure ?_; split
    · rename_i c _ _ _ _ _
      cases (c == Value.type "enumerate") <;> (wp_walk using it; exact ⟨_, rfl, fin⟩)
    · wp_walk using it; exact ⟨_, rfl, fin⟩
theorem rj_enum_begins {prog : Program} {w : World} {A : Around} {E Q : Value → Shared → Prop} {s : Shared} {v : Value} {o : Obj} {H : Heap → Prop} (B : Begins v o H) (src : H s.heap)
    (fin : ∀ h', IsEnum h' (s.heap.objs.size + 1) s.heap.objs.size 0 .none → h'.get? s.heap.objs.size = some o → h'.objs.size = s.heap.objs.size + 2 → (∀ b u, s.heap.get? b = some u → h'.get? b = some u) → Q (.ref (s.heap.objs.size + 1)) { s with heap := h' }) :
    wpAny (model prog w) A (call (.type "enumerate") [v]) Q E s := by
  have one : (s.heap.push o).objs.size = s.heap.objs.size + 1 := Heap.size_push ..
  have at1 : IsEnum ((s.heap.push o).push (enumNew s.heap.objs.size)) (s.heap.push o).objs.size s.heap.objs.size 0 .none := Heap.get?_push_size _ rfl
  have at0 : ((s.heap.push o).push (enumNew s.heap.objs.size)).get? s.heap.objs.size = some o := Heap.get?_push_of_some _ (Heap.get?_push_size _ B.free)
  have all := callType_new (prog := prog) (w := w) (A := A) (E := E) (Q := Q) F.called_enumerate (by decide) (F.typeCall_enumerate_1 v) (F.newCall_enumerate_1 v) (fun obj => F.args_object_init_2 obj _) F.entry_enumerate_new (rj_enum_made B) (s := s)
  refine all ⟨src, ?_⟩; show _ ∧ _
  rw [one] at at1 ⊢
  exact ⟨⟨_, at1, rfl⟩, fin _ at1 at0 (by rw [Heap.size_push, one]) fun b u e => Heap.get?_push_of_some _ (Heap.get?_push_of_some _ e)⟩
end PySem
namespace RJ
open PySem PySem.Spec PyProof.Rows L2
/-- iter of v begins something that draws -/
structure BegK (X : Cx) (n : Nat) (G : Hp → Prop) (PV : Nat → V → Prop) (H : Hp) (s : Shared) (v : Value) : Prop where
  ex : ∃ (o : Obj) (HH : Heap → Prop), Begins v o HH ∧ HH s.heap ∧ G H ∧ ∀ it, ∃ tnI : Nat → Heap → Prop, DrawK X.prog X.w X.K it n tnI G PV ∧ ∀ h : Heap, h.get? it = some o → tnI 0 h
theorem begK_str {X : Cx} {H : Hp} {s : Shared} (x : Str) (t : Tok) : BegK X x.cps.size (fun _ => True) (fun i v => ∃ c, x.cps[i]? = some c ∧ v = .str ⟨#[c]⟩) H s (.str x t) :=
  ⟨_, _, begins_text x t, trivial, trivial, fun it => ⟨_, drawK_str it x t, fun h e => ⟨_, e, rfl, rfl⟩⟩⟩
theorem begK_tup {X : Cx} {pins : List (Addr × Obj)} {σ : L2.St} {H : Hp} {s : Shared} {a : Addr} {xs : List V} (I : Inv X pins σ H s) (ha : H a = some (.tup xs)) : BegK X xs.length (fun H => H a = some (.tup xs)) (fun i v => xs[i]? = some v) H s (.ref a) := by
  obtain ⟨its, rv, p, _⟩ := I.tuple (SqT.of ha)
  exact ⟨_, _, begins_tuple a its.toArray, p, ha, fun it => ⟨_, drawK_tup it a xs, fun h e => ⟨_, e, rfl, rfl⟩⟩⟩
theorem begK_list {X : Cx} {pins : List (Addr × Obj)} {σ : L2.St} {H : Hp} {s : Shared} {a : Addr} {xs : List V} (I : Inv X pins σ H s) (ha : H a = some (.lst xs)) : BegK X xs.length (fun H => H a = some (.lst xs)) (fun i v => xs[i]? = some v) H s (.ref a) := by
  obtain ⟨its, rv, p, _⟩ := I.list (SqL.of ha)
  exact ⟨_, _, begins_list a its.toArray, p.isList, ha, fun it => ⟨_, drawK_list it a xs, fun h e => ⟨_, e, rfl, rfl⟩⟩⟩
/-- what an iterable value draws -/
def SrcV (H : Hp) (v : V) (n : Nat) (G : Hp → Prop) (PV : Nat → V → Prop) : Prop :=
  (∃ x : Str, v = .str x ∧ n = x.cps.size ∧ G = (fun _ => True) ∧ PV = fun i v => ∃ c, x.cps[i]? = some c ∧ v = .str ⟨#[c]⟩) ∨
  (∃ (a : Addr) (xs : List V), v = .ref a ∧ H a = some (.tup xs) ∧ n = xs.length ∧ G = (fun H => H a = some (.tup xs)) ∧ PV = fun i v => xs[i]? = some v) ∨
  (∃ (a : Addr) (xs : List V), v = .ref a ∧ H a = some (.lst xs) ∧ n = xs.length ∧ G = (fun H => H a = some (.lst xs)) ∧ PV = fun i v => xs[i]? = some v)
theorem SrcV.beg {X : Cx} {pins : List (Addr × Obj)} {σ : L2.St} {H : Hp} {s : Shared} {v : V} {u : Value} {n : Nat} {G : Hp → Prop} {PV : Nat → V → Prop} (I : Inv X pins σ H s) (r : RelV v u) (h : SrcV H v n G PV) : BegK X n G PV H s u := by
  rcases h with ⟨x, rfl, rfl, rfl, rfl⟩ | ⟨a, xs, rfl, ha, rfl, rfl, rfl⟩ | ⟨a, xs, rfl, ha, rfl, rfl, rfl⟩
  · obtain ⟨t, rfl⟩ := r
    exact begK_str x t
  · cases r
    exact begK_tup I ha
  · cases r
    exact begK_list I ha
/-- enumerate(v), v a text, a tuple or a list -/
def iEnumG (ta : TA) : TI := fun σ H R => ta σ H fun vs H1 => ∃ v n G PV, vs = [v] ∧ SrcV H1 v n G PV ∧ R (ItG n G fun i xs => ∃ v, PV i v ∧ xs = [.int (i : Nat), v]) H1
theorem pi_enumG {X : Cx} {e : Expr} {ta : TA} {p pos tpos : Pos} {elts : List Expr} {kk : Nat} (hg : Gl X "enumerate") (hm : X.mg "enumerate" = none) (ha : PA X [e] ta) (hs : starEach [e] X.env = [(false, eval e X.env)] := by rfl) :
    PI X (.Tuple elts kk tpos) (.Call (.Name "enumerate" p) [e] [] pos) (iEnumG ta) := by
  refine ⟨fun pins s σ H R I h => ?_⟩
  refine Call_ (ld_blt I hg hm boot_enumerate (PyProof.Rows.callWith_type1 (thn (ha.run pos pins s σ H _ I h) fun us s1 ⟨vs, H1, I1, r1, q1⟩ => ?_) hs rfl))
  obtain ⟨v, n, G, PV, ex, hsrc, q⟩ := q1
  subst ex
  cases r1 with
  | cons r rr =>
    cases rr
    obtain ⟨o, HH, B, h1, hG, hd⟩ := (hsrc.beg I1 r).ex
    refine rj_enum_begins B h1 fun h' he hit hsz hk => wpAny_pyIter_enum he ?_
    have I2 : Inv X pins σ H1 { s1 with heap := h' } := I1.kept (t' := s1.toks) hk
    obtain ⟨tnI, D, hst⟩ := hd s1.heap.objs.size
    have ge2 : ∀ c ∈ [s1.heap.objs.size + 1, s1.heap.objs.size], s1.heap.objs.size ≤ c := two (p := fun c => s1.heap.objs.size ≤ c) (Nat.le_succ _) (Nat.le_refl _)
    exact ⟨s1.heap.objs.size + 1, [s1.heap.objs.size + 1, s1.heap.objs.size], _, _, H1, rfl, I2, turn_enumG D, ⟨Nat.zero_le _, ⟨.none, he⟩, hst _ hit, Nat.succ_ne_self _⟩, fun c hc => I1.fpOk (ge2 c hc) (I1.hok.fresh (ge2 c hc)), q⟩
/-- the walks of ItG as the loops of HandS take them -/
theorem walk_ItG {n : Nat} {G : Hp → Prop} {PX : Nat → List V → Prop} {g : TG} {tb : TS} {D : Ends} {σ : L2.St} {H : Hp} (Pv : Nat → L2.St → Hp → Prop) (h0 : Pv 0 σ H) (hG : ∀ i σ H, i ≤ n → Pv i σ H → G H)
    (hs : ∀ i xs T σ H, i < n → Pv i σ H → PX i xs → H T = none → g (.ref T) σ (upd H T (.tup xs)) fun σ2 H2 => tb { D with nx := Pv (i + 1), ct := Pv (i + 1), bk := D.nx } σ2 H2) (hd : ∀ σ H, Pv n σ H → D.nx σ H) :
    ∃ W : Nat → Nat → L2.St → Hp → Prop, (∃ m, W 0 m σ H) ∧ ∀ i m σ H, W i m σ H → ((ItG n G PX).stop i H ∧ D.nx σ H) ∨ ((ItG n G PX).go i H ∧ ∃ N : L2.St → Hp → Prop, (∀ σ' H', N σ' H' → ∃ m', m' < m ∧ W (i + 1) m' σ' H') ∧
      ∀ x H', (ItG n G PX).yld i H x H' → g x σ H' fun σ2 H2 => tb { D with nx := N, ct := N, bk := D.nx } σ2 H2) := by
  refine ⟨fun i m σ H => m = n - i ∧ i ≤ n ∧ Pv i σ H, ⟨n, rfl, Nat.zero_le _, h0⟩, ?_⟩
  rintro i m σ H ⟨rfl, hi, p⟩
  by_cases hlt : i < n
  · refine .inr ⟨⟨hG i σ H hi p, hlt⟩, Pv (i + 1), fun σ' H' p' => ⟨n - (i + 1), by omega, rfl, hlt, p'⟩, fun v H' y => ?_⟩
    obtain ⟨T, xs, rfl, hT, rfl, hx⟩ := y
    exact hs i xs T σ H hlt p hx hT
  · have e : i = n := by omega
    subst e
    exact .inl ⟨⟨hG _ σ H hi p, Nat.le_refl _⟩, hd σ H p⟩
end RJ
end

section
set_option maxRecDepth 100000
namespace RJ
open PySem PySem.Spec PyProof.Rows L2
theorem five {z TI TO i1 i2 : Addr} {p : Addr → Prop} (h1 : p z) (h2 : p TI) (h3 : p TO) (h4 : p i1) (h5 : p i2) : ∀ c ∈ [z, TI, TO, i1, i2], p c := fun c hc => by
  simp only [List.mem_cons, List.not_mem_nil, or_false] at hc
  rcases hc with e | e | e | e | e <;> rw [e] <;> assumption
theorem zip_cells {N : Nat} : ∀ c ∈ [N + 4, N + 2, N + 3, N, N + 1], N ≤ c := five (p := fun c => N ≤ c) (Nat.le_add_right N 4) (Nat.le_add_right N 2) (Nat.le_add_right N 3) (Nat.le_refl N) (Nat.le_add_right N 1)
/-- five cells apart -/
structure Ap5 (z TI TO i1 i2 : Addr) : Prop where
  TIz : TI ≠ z
  TOz : TO ≠ z
  TITO : TI ≠ TO
  TIi1 : TI ≠ i1
  TIi2 : TI ≠ i2
  TOi1 : TO ≠ i1
  TOi2 : TO ≠ i2
  zi1 : z ≠ i1
  zi2 : z ≠ i2
  i12 : i1 ≠ i2
theorem ap5 (N : Nat) : Ap5 (N + 4) (N + 2) (N + 3) N (N + 1) :=
  ⟨show (N + 2 : Nat) ≠ N + 4 by omega, show (N + 3 : Nat) ≠ N + 4 by omega, show (N + 2 : Nat) ≠ N + 3 by omega, show (N + 2 : Nat) ≠ N by omega, show (N + 2 : Nat) ≠ N + 1 by omega,
    show (N + 3 : Nat) ≠ N by omega, show (N + 3 : Nat) ≠ N + 1 by omega, show (N + 4 : Nat) ≠ N by omega, show (N + 4 : Nat) ≠ N + 1 by omega, show (N : Nat) ≠ N + 1 by omega⟩
theorem Ap5.sep {z TI TO i1 i2 : Addr} (D : Ap5 z TI TO i1 i2) {H : Hp} {fp1 fp2 : List Addr} (m1 : i1 ∈ fp1) (m2 : i2 ∈ fp2) (f1 : ∀ b ∈ fp1, b = i1 ∨ ∃ o, H b = some o) (f2 : ∀ b ∈ fp2, b = i2 ∨ ∃ o, H b = some o)
    (hz : H z = none) (hTO : H TO = none) (h1 : H i1 = none) (h2 : H i2 = none) : ZipSep2 z TI TO i1 i2 fp1 fp2 where
  TIz := D.TIz
  TOz := D.TOz
  TITO := D.TITO
  TIi1 := D.TIi1
  mem1 := m1
  zf1 := fun q => by
    rcases f1 _ q with e | ⟨o, e⟩
    · exact D.zi1 e
    · rw [hz] at e; cases e
  Tf1 := fun q => by
    rcases f1 _ q with e | ⟨o, e⟩
    · exact D.TOi1 e
    · rw [hTO] at e; cases e
  TIi2 := D.TIi2
  mem2 := m2
  zf2 := fun q => by
    rcases f2 _ q with e | ⟨o, e⟩
    · exact D.zi2 e
    · rw [hz] at e; cases e
  Tf2 := fun q => by
    rcases f2 _ q with e | ⟨o, e⟩
    · exact D.TOi2 e
    · rw [hTO] at e; cases e
  sep1_2 := fun q => by
    rcases f2 _ q with e | ⟨o, e⟩
    · exact D.i12 e
    · rw [h1] at e; cases e
  sep2_1 := fun q => by
    rcases f1 _ q with e | ⟨o, e⟩
    · exact D.i12 e.symm
    · rw [h2] at e; cases e
theorem out5 {z TI TO i1 i2 c : Addr} (h : c ∉ [z, TI, TO, i1, i2]) : c ≠ z ∧ c ≠ TI ∧ c ≠ TO ∧ c ≠ i1 ∧ c ≠ i2 := by
  simp only [List.mem_cons, List.not_mem_nil, or_false, not_or] at h; exact h
/-- a zip whose tuples are taken apart at once -/
def ZipTt (z TI TO i1 i2 : Addr) (n : Nat) (tn1 tn2 : Nat → Heap → Prop) (i : Nat) (h : Heap) : Prop := i ≤ n ∧ IsZip h z TI TO .none ∧ IsTupOf2 h TI (.ref i1) (.ref i2) ∧ (∃ x y, IsTupOf2 h TO x y) ∧ tn1 i h ∧ tn2 i h
section
variable {P : Program} {w : World} {K : PySem.W.Frag} {elts : List Expr} {kk : Nat} {tpos : Pos} {z TI TO i1 i2 : Addr} {n1 n2 : Nat} {tn1 tn2 : Nat → Heap → Prop} {G1 G2 : Hp → Prop} {PV1 PV2 : Nat → V → Prop}
theorem turn_zipG (A5 : Ap5 z TI TO i1 i2) (D1 : DrawK P w K i1 n1 tn1 G1 PV1) (D2 : DrawK P w K i2 n2 tn2 G2 PV2) :
    Turn P w K (.Tuple elts kk tpos) (ItG (min n1 n2) (fun H => G1 H ∧ G2 H) fun i xs => ∃ v1 v2, PV1 i v1 ∧ PV2 i v2 ∧ xs = [v1, v2]) [z, TI, TO, i1, i2] z (ZipTt z TI TO i1 i2 (min n1 n2) tn1 tn2) where
  mem := List.mem_cons_self ..
  obj := fun i h ⟨_, a, b, ⟨_, _, c⟩, d, e⟩ => five (p := fun c => ∃ o, h.get? c = some o ∧ _) ⟨_, a, fun _ q => nomatch q⟩ ⟨_, b, fun _ q => nomatch q⟩ ⟨_, c, fun _ q => nomatch q⟩ (D1.obj i h d) (D2.obj i h e)
  keep := fun i h h' ⟨l, a, b, ⟨_, _, c⟩, d, e⟩ k => ⟨l, k _ (by simp) _ a, k _ (by simp) _ b, ⟨_, _, k _ (by simp) _ c⟩, D1.keep _ _ _ d fun o => k i1 (by simp) o, D2.keep _ _ _ e fun o => k i2 (by simp) o⟩
  item := by
    rintro X hP hw hK hc i pins s σ H E I hf ⟨hl, hz, hTI, ⟨x0, y0, hTO⟩, h1, h2⟩ ⟨⟨hG1, hG2⟩, hlt⟩
    have none4 : H z = none ∧ H TO = none ∧ H i1 = none ∧ H i2 = none := ⟨(hf _ (by simp)).1, (hf _ (by simp)).1, (hf _ (by simp)).1, (hf _ (by simp)).1⟩
    obtain ⟨fp1, PD1, St1, DD1, c1, m1, q1, back1, val1⟩ := D1.draws X hP hw hK hc i pins s σ H I hG1 none4.2.2.1 h1
    obtain ⟨fp2, PD2, St2, DD2, c2, m2, q2, back2, val2⟩ := D2.draws X hP hw hK hc i pins s σ H I hG2 none4.2.2.2 h2
    subst hP hw hK
    have lt5 : ∀ c ∈ [z, TI, TO, i1, i2], c < s.heap.objs.size := by
      obtain ⟨_, e1⟩ := DD1.live _ _ c1
      obtain ⟨_, e2⟩ := DD2.live _ _ c2
      exact five (Heap.lt_size hz) (Heap.lt_size hTI) (Heap.lt_size hTO) (Heap.lt_size e1) (Heap.lt_size e2)
    refine wpAny_pyNext_zipD2_item (A5.sep m1 m2 q1 q2 none4.1 none4.2.1 none4.2.2.1 none4.2.2.2) DD1 DD2 hz hTI hTO c1 c2 (by omega) (by omega) fun u u2 h' tk p1 p2 z' TO' j1 j2 hT _ hk => ⟨_, rfl, ?_⟩
    obtain ⟨v, hv, rv⟩ := val1 i u p1
    obtain ⟨v2, hv2, rv2⟩ := val2 i u2 p2
    refine wpAny_letOwnedTupleGo_zip (s := { s with heap := h', toks := tk }) z' fun g zg sg => ?_
    have on : ∀ {c : Addr} {o : Obj}, c ≠ z → h'.get? c = some o → g.get? c = some o := fun n e => (sg.2 _ n).trans e
    have made : ObjOk X.prog X.w (upd H s.heap.objs.size (.tup [v, v2])) g s.heap.objs.size (.tup [v, v2]) := ⟨by show 2 ≤ sizeLine; decide, [u, u2], .cons rv (.cons rv2 .nil), ⟨_, on (Nat.ne_of_gt (lt5 z (by simp))) hT, rfl, _, rfl⟩⟩
    have J : Inv X pins σ (upd H s.heap.objs.size (.tup [v, v2])) { s with heap := g, toks := tk } := I.turnedNew (ch := [z, TI, TO, i1, i2]) (fun c o hb q => by
      obtain ⟨a, _, b, d, e⟩ := out5 hb
      exact on a (hk c o a b d e q)) hf (Nat.le_refl _) made
    exact ⟨.ref s.heap.objs.size, _, J, rfl, ⟨_, _, rfl, I.hok.fresh (Nat.le_refl _), rfl, v, v2, hv, hv2, rfl⟩, ⟨hlt, zg, on A5.TIz (hk _ _ A5.TIz A5.TITO A5.TIi1 A5.TIi2 hTI), ⟨u, u2, on A5.TOz TO'⟩, D1.keep _ _ _ (back1 _ _ j1) fun _ => on A5.zi1.symm, D2.keep _ _ _ (back2 _ _ j2) fun _ => on A5.zi2.symm⟩,
      fun c hcm => (upd_ne (Nat.ne_of_lt (lt5 c hcm))).trans (hf c hcm).1⟩
  done := by
    rintro X hP hw hK hc i pins s σ H E I hf ⟨hl, hz, hTI, ⟨x0, y0, hTO⟩, h1, h2⟩ ⟨⟨hG1, hG2⟩, hge⟩
    have none4 : H z = none ∧ H TO = none ∧ H i1 = none ∧ H i2 = none := ⟨(hf _ (by simp)).1, (hf _ (by simp)).1, (hf _ (by simp)).1, (hf _ (by simp)).1⟩
    obtain ⟨fp1, PD1, St1, DD1, c1, m1, q1, back1, val1⟩ := D1.draws X hP hw hK hc i pins s σ H I hG1 none4.2.2.1 h1
    obtain ⟨fp2, PD2, St2, DD2, c2, m2, q2, back2, val2⟩ := D2.draws X hP hw hK hc i pins s σ H I hG2 none4.2.2.2 h2
    subst hP hw hK
    exact wpAny_pyNext_zipD2_end (A5.sep m1 m2 q1 q2 none4.1 none4.2.1 none4.2.2.1 none4.2.2.2) DD1 DD2 hz hTI hTO c1 c2 (by omega) (by omega) (by omega) fun h' tk hk => ⟨rfl, I.turnedL (t' := tk) (ch := [z, TI, TO, i1, i2]) (fun c o hb q => by
      obtain ⟨a, _, b, d, e⟩ := out5 hb
      exact hk c o a b d e q) hf⟩
  self := fun A i s Q E st h => wpAny_pyIter_zip st.2.1 h
end
def iZipG (ta : TA) : TI := fun σ H R => ta σ H fun vs H1 => ∃ v1 v2 n1 n2 G1 G2 PV1 PV2, vs = [v1, v2] ∧ SrcV H1 v1 n1 G1 PV1 ∧ SrcV H1 v2 n2 G2 PV2 ∧ R (ItG (min n1 n2) (fun H => G1 H ∧ G2 H) fun i xs => ∃ v1 v2, PV1 i v1 ∧ PV2 i v2 ∧ xs = [v1, v2]) H1
theorem pi_zipGen {X : Cx} {tg e e2 : Expr} {ta : TA} {p pos : Pos} (hg : Gl X "zip") (hm : X.mg "zip" = none) (ha : PA X [e, e2] ta)
    (ht : ∀ {z TI TO i1 i2 : Addr} {n1 n2 : Nat} {tn1 tn2 : Nat → Heap → Prop} {G1 G2 : Hp → Prop} {PV1 PV2 : Nat → V → Prop} (A5 : Ap5 z TI TO i1 i2) (D1 : DrawK X.prog X.w X.K i1 n1 tn1 G1 PV1) (D2 : DrawK X.prog X.w X.K i2 n2 tn2 G2 PV2),
      ∃ tn : Nat → Heap → Prop, Turn X.prog X.w X.K tg (ItG (min n1 n2) (fun H => G1 H ∧ G2 H) fun i xs => ∃ v1 v2, PV1 i v1 ∧ PV2 i v2 ∧ xs = [v1, v2]) [z, TI, TO, i1, i2] z tn ∧
        ∀ h, IsZip h z TI TO .none → IsTupOf2 h TI (.ref i1) (.ref i2) → IsTupOf2 h TO .none .none → tn1 0 h → tn2 0 h → tn 0 h)
    (hs : starEach [e, e2] X.env = (false, eval e X.env) :: starEach [e2] X.env := by rfl) (hpl : (backTo pos (starEach [e2] X.env)).any (·.1) = false := by rfl) :
    PI X tg (.Call (.Name "zip" p) [e, e2] [] pos) (iZipG ta) := by
  refine ⟨fun pins s σ H R I h => ?_⟩
  refine Call_ (ld_blt I hg hm PyProof.Rows.boot_zip (PyProof.Rows.callWith_type1 (thn (ha.run pos pins s σ H _ I h) fun us s1 ⟨vs, H1, I1, r1, q1⟩ => ?_) hs hpl))
  obtain ⟨v1, v2, n1, n2, G1, G2, PV1, PV2, ex, hs1, hs2, q⟩ := q1
  subst ex
  cases r1 with
  | cons r rr =>
    cases rr with
    | cons r' rr =>
      cases rr
      obtain ⟨o1, HH1, B1, b1, hG1, hd1⟩ := (hs1.beg I1 r).ex
      obtain ⟨o2, HH2, B2, b2, hG2, hd2⟩ := (hs2.beg I1 r').ex
      refine zip_begins2 B1 B2 b1 b2 fun h' hz hTI hTO g1 g2 hsz hk => wpAny_pyIter_zip hz ?_
      have I2 : Inv X pins σ H1 { s1 with heap := h' } := I1.kept (t' := s1.toks) hk
      obtain ⟨tn1, D1, st1⟩ := hd1 s1.heap.objs.size
      obtain ⟨tn2, D2, st2⟩ := hd2 (s1.heap.objs.size + 1)
      obtain ⟨tn, T, h0⟩ := ht (ap5 s1.heap.objs.size) D1 D2
      exact ⟨s1.heap.objs.size + 4, [s1.heap.objs.size + 4, s1.heap.objs.size + 2, s1.heap.objs.size + 3, s1.heap.objs.size, s1.heap.objs.size + 1], tn, _, H1, rfl, I2, T, h0 _ hz hTI hTO (st1 _ g1) (st2 _ g2),
        fun c hcm => I1.fpOk (zip_cells c hcm) (I1.hok.fresh (zip_cells c hcm)), q⟩
/-- for a, b in zip(v1, v2): texts, tuples, lists -/
theorem pi_zipT2 {X : Cx} {e e2 : Expr} {ta : TA} {p pos tpos : Pos} {elts : List Expr} {kk : Nat} (hg : Gl X "zip") (hm : X.mg "zip" = none) (ha : PA X [e, e2] ta)
    (hs : starEach [e, e2] X.env = (false, eval e X.env) :: starEach [e2] X.env := by rfl) (hpl : (backTo pos (starEach [e2] X.env)).any (·.1) = false := by rfl) :
    PI X (.Tuple elts kk tpos) (.Call (.Name "zip" p) [e, e2] [] pos) (iZipG ta) :=
  pi_zipGen hg hm ha (fun A5 D1 D2 => ⟨_, turn_zipG A5 D1 D2, fun h hz hTI hTO h1 h2 => ⟨Nat.zero_le _, hz, hTI, ⟨_, _, hTO⟩, h1, h2⟩⟩) hs hpl
end RJ
end

section
set_option maxRecDepth 100000
namespace PySem
/-- nothing but these four cells has changed -/
def Beside (z TO i1 i2 : Addr) (h h' : Heap) : Prop := ∀ c o, c ≠ z → c ≠ TO → c ≠ i1 → c ≠ i2 → h.get? c = some o → h'.get? c = some o
/-- a zip, whatever tuple it holds to be out -/
abbrev RjZ (h : Heap) (z TI TO : Addr) (f0 : Value) (f1 : Bool) : Prop := h.get? z = some { cls := .type "zip", dict := none, data := .fields #[f0, .bool f1, .bool false, .ref TI, .ref TO], slots := #[] }
/-- .. between two turns -/
def ZipIdle (h : Heap) (z TI TO : Addr) : Prop := ∃ f0 f1, RjZ h z TI TO f0 f1 ∧ (f0 = .none ∨ ∃ T : Addr, f0 = rawInt T)
/-- the tuple it keeps -/
def KeepsPair (h : Heap) (TO : Addr) : Prop := ∃ x y, IsTupOf2 h TO x y
section
variable {prog : Program} {w : World} {A : Around} {E : Value → Shared → Prop} {s : Shared} {z TI TO i1 i2 : Addr} {fp1 fp2 : List Addr} {n1 n2 i : Nat} {P1 P2 : Nat → Value → Prop} {St1 St2 : Nat → Heap → Prop}
theorem rj_alive {a : Addr} {Q : Option Obj → Shared → Prop} (h : Q (s.heap.get? a) s) : wpAny (model prog w) A (loadIfAlive a) Q E s := fun _ _ _ => h
/-- is the tuple that went out free? both answers -/
theorem rj_isFree {f0 : Value} {f1 : Bool} {Q : Bool → Shared → Prop} (hz : RjZ s.heap z TI TO f0 f1) (hf : f0 = .none ∨ ∃ T : Addr, f0 = rawInt T) (yes : Q true s)
    (no : ∀ h', RjZ h' z TI TO f0 true → Heap.SameBut z s.heap h' → Q false { s with heap := h' }) : wpAny (model prog w) A (Builtin.SmallTypes.ownedTupleIsFree (.ref z)) Q E s := by
  have last : wpAny (model prog w) A (field (.ref z) 1) (fun v s' => v = .bool f1 ∧ s' = s) E s := wpAny_field hz rfl (x := .bool f1) rfl ⟨rfl, rfl⟩
  unfold Builtin.SmallTypes.ownedTupleIsFree; refine wpAny_bind (wpAny_field hz rfl (x := f0) rfl ?_)
  rcases hf with e | ⟨T, e⟩ <;> subst e
  · exact wpAny_pure yes
  show wpAny _ _ (loadIfAlive ((T : Int).toNat) >>= _) _ _ _
  refine wpAny_bind (rj_alive ?_)
  cases s.heap.get? ((T : Int).toNat)
  · simp only [Option.isNone_none, if_true]; exact wpAny_pure yes
  simp only [Option.isNone_some, Bool.false_eq_true, if_false]
  refine wpAny_bind (wpAny_mono last ?_ fun _ _ e => e); rintro _ _ ⟨rfl, rfl⟩
  cases f1
  · rw [if_pos (by rfl)]; exact wpAny_bind (wpAny_setField_rec hz (by simp) fun k hk sk => wpAny_pure (no k hk sk))
  · rw [if_neg (by decide)]; exact wpAny_pure (no _ hz (Heap.SameBut.refl _ _))
/-- one call of next: an item of each, or the end of one -/
theorem rj_next {Q : Value → Shared → Prop} (S : ZipSep2 z TI TO i1 i2 fp1 fp2) (D1 : Draws prog w A i1 fp1 n1 P1 St1) (D2 : Draws prog w A i2 fp2 n2 P2 St2) (hz : ZipIdle s.heap z TI TO)
    (hTI : IsTupOf2 s.heap TI (.ref i1) (.ref i2)) (hTO : KeepsPair s.heap TO) (st1 : St1 i s.heap) (st2 : St2 i s.heap) (le1 : i ≤ n1) (le2 : i ≤ n2)
    (got : ∀ x y h' tk, i < n1 → i < n2 → P1 i x → P2 i y → ZipIdle h' z TI TO → KeepsPair h' TO → St1 (i + 1) h' → St2 (i + 1) h' → IsTupOf2 h' s.heap.objs.size x y → Beside z TO i1 i2 s.heap h' → Q (.ref s.heap.objs.size) { s with heap := h', toks := tk })
    (out : ∀ h' tk e, i = n1 ∨ i = n2 → Beside z TO i1 i2 s.heap h' → (∃ o, h'.get? e = some o ∧ o.cls = .type "StopIteration") → E (.ref e) { s with heap := h', toks := tk }) :
    wpAny (model prog w) A (Builtin.«zip.__next__» ⟨[.ref z], []⟩) (fun fin s' => ∃ v, fin = .done (.ret v) ∧ Q v s') E s := by
  obtain ⟨f0, f1, zz, hf⟩ := hz
  obtain ⟨p, q, hTO⟩ := hTO
  obtain ⟨hp, g, d, k0, os⟩ := s
  have zl : z < hp.objs.size := Heap.lt_size zz
  show wpAny _ _ (field (.ref z) 2 >>= _) _ _ _; refine wpAny_bind (wpAny_field zz rfl (x := .bool false) rfl ?_)
  show wpAny _ _ (field (.ref z) 3 >>= _) _ _ _; refine wpAny_bind (wpAny_field zz rfl (x := .ref TI) rfl (wpAny_bind (wpAny_seqItems hTI rfl ?_)))
  show wpAny _ _ (Builtin.SmallTypes.ownedTupleIsFree (.ref z) >>= _) _ _ _; refine wpAny_bind (rj_isFree zz hf ?_ fun a za sa => ?_)
  · -- the kept tuple is filled anew
    simp only [if_true]; refine wpAny_bind (wpAny_rule (wpAny_bind (wpAny_field zz rfl (x := .ref TO) rfl (wpAny_bind (wpAny_setField_rec zz (by simp) fun a za sa => ?_)))))
    replace za : RjZ a z TI TO .ellipsis f1 := za
    replace sa : Heap.SameBut z hp a := sa
    have stop : ∀ (tk : Nat) (h h' : Heap) (e : Addr) (o : Obj), (i = n1 ∨ i = n2) → RjZ h z TI TO .ellipsis f1 → Beside z TO i1 i2 hp h → h.get? e = some o → o.cls = .type "StopIteration" → Heap.SameBut z h h' → E (.ref e) ⟨h', g, d, tk, os⟩ := fun tk h h' e o c zh b he ho sh =>
      out h' tk e c (fun c o cz cT c1 c2 x => sh.extBut _ _ cz (b c o cz cT c1 c2 x)) ⟨o, sh.extBut _ _ (fun x => by subst x; rw [zh] at he; cases he; simp at ho) he, ho⟩
    refine wpAny_bind ?_; simp only [List.zipIdx_cons, List.zipIdx_nil, List.forIn_cons, List.forIn_nil]; refine wpAny_bind (wpAny_bind (wpAny_onRaise ?_))
    show wpAny _ _ (Builtin.SmallTypes.nextOf (.ref i1) >>= _) _ _ ⟨a, g, d, k0, os⟩
    have ta := D1.over st1 sa S.zf1
    by_cases l1 : i < n1
    · refine wpAny_bind (D1.item i _ _ _ l1 ta fun x b k1 hx tb sb => wpAny_pure ?_)
      replace sb : Heap.SameBut i1 a b := sb
      have ub : IsTupOf2 b TO p q := sb.extBut _ _ S.Ti1 (sa.extBut _ _ S.TOz hTO)
      refine wpAny_bind (wpAny_seqItems (s := ⟨b, g, d, k1, os⟩) ub rfl (wpAny_bind (updateSeq_IsTupOf2 (s := ⟨b, g, d, k1, os⟩) ub fun c uc sc => wpAny_bind (wpAny_letGo (wpAny_pure ?_)))))
      replace uc : IsTupOf2 c TO x q := uc
      replace sc : Heap.SameBut TO b c := sc
      have zc : RjZ c z TI TO .ellipsis f1 := sc.extBut _ _ S.TOz.symm (sb.extBut _ _ S.zi1 za)
      have bc : Beside z TO i1 i2 hp c := fun c o cz cT c1 c2 e => sc.extBut _ _ cT (sb.extBut _ _ c1 (sa.extBut _ _ cz e))
      have tc := D2.over (D2.over (D2.over st2 sa S.zf2) sb S.sep1_2) sc S.Tf2
      refine wpAny_bind (wpAny_bind (wpAny_onRaise ?_)); show wpAny _ _ (Builtin.SmallTypes.nextOf (.ref i2) >>= _) _ _ ⟨c, g, d, k1, os⟩
      by_cases l2 : i < n2
      · refine wpAny_bind (D2.item i _ _ _ l2 tc fun y e k2 hy te se => wpAny_pure ?_)
        replace se : Heap.SameBut i2 c e := se
        have ue : IsTupOf2 e TO x q := se.extBut _ _ S.Ti2 uc
        refine wpAny_bind (wpAny_seqItems (s := ⟨e, g, d, k2, os⟩) ue rfl (wpAny_bind (updateSeq_IsTupOf2 (s := ⟨e, g, d, k2, os⟩) ue fun r ur sr => wpAny_bind (wpAny_letGo (wpAny_pure (wpAny_pure ?_))))))
        replace ur : IsTupOf2 r TO x y := ur
        replace sr : Heap.SameBut TO e r := sr
        have zr : RjZ r z TI TO .ellipsis f1 := sr.extBut _ _ S.TOz.symm (se.extBut _ _ S.zi2 zc)
        have size : r.objs.size = hp.objs.size := by rw [sr.1, se.1, sc.1, sb.1, sa.1]
        have j1 : St1 (i + 1) r := D1.over (D1.over (D1.over tb sc S.Tf1) se S.sep2_1) sr S.Tf1
        have j2 : St2 (i + 1) r := D2.over te sr S.Tf2
        refine wpAny_bind (wpAny_seqItems (s := ⟨r, g, d, k2, os⟩) ur rfl (wpAny_bind (wpAny_newTuple ?_)))
        show wpAny _ _ (Builtin.SmallTypes.ownedTupleHandOut (.ref z) (.ref r.objs.size) >>= _) _ _ ⟨r.push { cls := .type "tuple", data := .seq #[x, y] }, g, d, k2, os⟩
        generalize hv : r.push { cls := .type "tuple", data := .seq #[x, y] } = v
        have up : ∀ c o, r.get? c = some o → v.get? c = some o := fun c o e => hv ▸ Heap.get?_push_of_some _ e
        have tv : IsTupOf2 v r.objs.size x y := hv ▸ Heap.get?_push_size _ rfl
        unfold Builtin.SmallTypes.ownedTupleHandOut; refine wpAny_bind ?_
        refine wpAny_bind (wpAny_setField_rec (s := ⟨v, g, d, k2, os⟩) (up _ _ zr) (by simp) fun m zm sm => wpAny_setField_rec (s := ⟨m, g, d, k2, os⟩) zm (by simp) fun t zt stt => ?_)
        replace zt : RjZ t z TI TO (rawInt r.objs.size) false := zt
        replace sm : Heap.SameBut z v m := sm
        replace stt : Heap.SameBut z m t := stt
        have on : ∀ c o, c ≠ z → r.get? c = some o → t.get? c = some o := fun c o n e => stt.extBut _ _ n (sm.extBut _ _ n (up _ _ e))
        refine wpAny_pure ⟨_, rfl, ?_⟩
        show Q (.ref r.objs.size) ⟨t, g, d, k2, os⟩; rw [size]
        refine got x y t k2 l1 l2 hx hy ⟨_, _, zt, .inr ⟨_, rfl⟩⟩ ⟨_, _, on _ _ S.TOz ur⟩ (D1.frame _ _ _ j1 fun b hb o e => on b o (fun q => S.zf1 (q ▸ hb)) e) (D2.frame _ _ _ j2 fun b hb o e => on b o (fun q => S.zf2 (q ▸ hb)) e) ?_
          fun c o cz cT c1 c2 e => on c o cz (sr.extBut _ _ cT (se.extBut _ _ c2 (bc c o cz cT c1 c2 e)))
        have away : r.objs.size ≠ z := by rw [size]; exact Nat.ne_of_gt zl
        have := stt.extBut _ _ away (sm.extBut _ _ away tv); rwa [size] at this
      · have c2 : i = n2 := by omega
        refine wpAny_bind (D2.done ⟨c, g, d, k1, os⟩ _ _ (c2 ▸ tc) fun e x he hx => ?_); obtain ⟨o, ho, oc⟩ := hx
        have ze : RjZ e z TI TO .ellipsis f1 := he _ _ S.zi2 zc
        exact wpAny_setField_rec (s := ⟨e, g, d, k1, os⟩) ze (by simp) fun e' _ se => stop k1 e e' x o (.inr c2) ze (fun c o cz cT c1 c2 y => he _ _ c2 (bc c o cz cT c1 c2 y)) ho oc se
    · have c1 : i = n1 := by omega
      refine wpAny_bind (D1.done ⟨a, g, d, k0, os⟩ _ _ (c1 ▸ ta) fun e x he hx => ?_); obtain ⟨o, ho, oc⟩ := hx
      have ze : RjZ e z TI TO .ellipsis f1 := he _ _ S.zi1 za
      exact wpAny_setField_rec (s := ⟨e, g, d, k0, os⟩) ze (by simp) fun e' _ se => stop k0 e e' x o (.inl c1) ze (fun c o cz cT c1 c2 y => he _ _ c1 (sa.extBut _ _ cz y)) ho oc se
  · -- a tuple of its own
    replace za : RjZ a z TI TO f0 true := za
    replace sa : Heap.SameBut z hp a := sa
    have ta := D1.over st1 sa S.zf1
    simp only [Bool.false_eq_true, if_false]; refine wpAny_bind ?_; rw [← Array.forIn_toList]; simp only [List.forIn_cons, List.forIn_nil]; refine wpAny_bind (wpAny_bind (wpAny_holding ?_))
    show wpAny _ _ (Builtin.SmallTypes.nextOf (.ref i1) >>= _) _ _ ⟨a, g, d, k0, os⟩
    by_cases l1 : i < n1
    · refine wpAny_bind (D1.item i _ _ _ l1 ta fun x b k1 hx tb sb => wpAny_pure (wpAny_pure (wpAny_bind (wpAny_bind (wpAny_holding ?_)))))
      replace sb : Heap.SameBut i1 a b := sb
      have bb : Beside z TO i1 i2 hp b := fun c o cz _ c1 _ e => sb.extBut _ _ c1 (sa.extBut _ _ cz e)
      have tc := D2.over (D2.over st2 sa S.zf2) sb S.sep1_2
      show wpAny _ _ (Builtin.SmallTypes.nextOf (.ref i2) >>= _) _ _ ⟨b, g, d, k1, os⟩
      by_cases l2 : i < n2
      · refine wpAny_bind (D2.item i _ _ _ l2 tc fun y e k2 hy te se => wpAny_pure (wpAny_pure (wpAny_pure ?_)))
        replace se : Heap.SameBut i2 b e := se
        have size : e.objs.size = hp.objs.size := by rw [se.1, sb.1, sa.1]
        have ze : RjZ e z TI TO f0 true := se.extBut _ _ S.zi2 (sb.extBut _ _ S.zi1 za)
        have ue : IsTupOf2 e TO p q := se.extBut _ _ S.Ti2 (sb.extBut _ _ S.Ti1 (sa.extBut _ _ S.TOz hTO))
        have j1 : St1 (i + 1) e := D1.over tb se S.sep2_1
        show wpAny _ _ (newTuple [x, y] >>= _) _ _ ⟨e, g, d, k2, os⟩; refine wpAny_bind (wpAny_newTuple (wpAny_pure ⟨_, rfl, ?_⟩))
        show Q (.ref e.objs.size) ⟨e.push { cls := .type "tuple", data := .seq #[x, y] }, g, d, k2, os⟩
        have tv : IsTupOf2 (e.push { cls := .type "tuple", data := .seq #[x, y] }) e.objs.size x y := Heap.get?_push_size _ rfl
        rw [size] at tv ⊢
        exact got x y _ k2 l1 l2 hx hy ⟨_, _, Heap.get?_push_of_some _ ze, hf⟩ ⟨_, _, Heap.get?_push_of_some _ ue⟩ (D1.frame _ _ _ j1 fun _ _ _ e => Heap.get?_push_of_some _ e) (D2.frame _ _ _ te fun _ _ _ e => Heap.get?_push_of_some _ e) tv
          fun c o cz cT c1 c2 e => Heap.get?_push_of_some _ (se.extBut _ _ c2 (bb c o cz cT c1 c2 e))
      · have c2 : i = n2 := by omega
        exact wpAny_bind (D2.done ⟨b, g, d, k1, os⟩ _ _ (c2 ▸ tc) fun e x he hx => out e k1 x (.inr c2) (fun c o cz cT c1 c2 y => he _ _ c2 (bb c o cz cT c1 c2 y)) hx)
    · have c1 : i = n1 := by omega
      exact wpAny_bind (D1.done ⟨a, g, d, k0, os⟩ _ _ (c1 ▸ ta) fun e x he hx => out e k0 x (.inl c1) (fun c o cz _ c1 _ y => he _ _ c1 (sa.extBut _ _ cz y)) hx)
theorem rj_pyNext {Q : Option Value → Shared → Prop} (S : ZipSep2 z TI TO i1 i2 fp1 fp2) (D1 : Draws prog w A.in1 i1 fp1 n1 P1 St1) (D2 : Draws prog w A.in1 i2 fp2 n2 P2 St2) (hz : ZipIdle s.heap z TI TO)
    (hTI : IsTupOf2 s.heap TI (.ref i1) (.ref i2)) (hTO : KeepsPair s.heap TO) (st1 : St1 i s.heap) (st2 : St2 i s.heap) (le1 : i ≤ n1) (le2 : i ≤ n2)
    (got : ∀ x y h' tk, i < n1 → i < n2 → P1 i x → P2 i y → ZipIdle h' z TI TO → KeepsPair h' TO → St1 (i + 1) h' → St2 (i + 1) h' → IsTupOf2 h' s.heap.objs.size x y → Beside z TO i1 i2 s.heap h' → Q (some (.ref s.heap.objs.size)) { s with heap := h', toks := tk })
    (out : ∀ h' tk, i = n1 ∨ i = n2 → Beside z TO i1 i2 s.heap h' → Q none { s with heap := h', toks := tk }) : wpAny (model prog w) A (pyNext (.ref z)) Q E s := by
  have ty : s.TypeIs (.ref z) "zip" := by obtain ⟨_, _, e, _⟩ := hz; exact ⟨_, e, rfl⟩
  unfold pyNext; refine wpAny_bind (wpAny_attempt (wpAny_callSpecial?_slot (name := Str.ofString "__next__") ty F.slot_zip_next (wpAny_call_entry F.slot_zip_next ty F.entry_zip_next ?_ (F.args_zip_next_1 _))))
  refine rj_next S D1 D2 hz hTI hTO st1 st2 le1 le2 (fun x y h' tk a b c e f g j k l m => wpAny_pure (got x y h' tk a b c e f g j k l m)) fun h' tk e c b he => ?_
  obtain ⟨o, ho, hc⟩ := he
  exact wpAny_bind (wpAny_isInstance (T := "StopIteration") (b := true) ⟨o, ho, hc⟩ isSubtype_stop (wpAny_pure (out _ _ c b)))
end
end PySem
namespace RJ
open PySem PySem.Spec PyProof.Rows L2
theorem Beside.out {z TI TO i1 i2 : Addr} {h h' : Heap} (b : Beside z TO i1 i2 h h') {c : Addr} {o : Obj} (hc : c ∉ [z, TI, TO, i1, i2]) : h.get? c = some o → h'.get? c = some o := by
  simp only [List.mem_cons, List.not_mem_nil, or_false, not_or] at hc
  exact b c o hc.1 hc.2.2.1 hc.2.2.2.1 hc.2.2.2.2
section
variable {P : Program} {w : World} {K : PySem.W.Frag} {x : Str} {tpos : Pos} {z TI TO i1 i2 : Addr} {n1 n2 : Nat} {tn1 tn2 : Nat → Heap → Prop} {G1 G2 : Hp → Prop} {PV1 PV2 : Nat → V → Prop}
/-- a zip whose tuples go out under a name -/
def ZipTn (z TI TO i1 i2 : Addr) (n : Nat) (tn1 tn2 : Nat → Heap → Prop) (i : Nat) (h : Heap) : Prop := i ≤ n ∧ ZipIdle h z TI TO ∧ IsTupOf2 h TI (.ref i1) (.ref i2) ∧ KeepsPair h TO ∧ tn1 i h ∧ tn2 i h
theorem turn_zipN (A5 : Ap5 z TI TO i1 i2) (D1 : DrawK P w K i1 n1 tn1 G1 PV1) (D2 : DrawK P w K i2 n2 tn2 G2 PV2) :
    Turn P w K (.Name x tpos) (ItG (min n1 n2) (fun H => G1 H ∧ G2 H) fun i xs => ∃ v1 v2, PV1 i v1 ∧ PV2 i v2 ∧ xs = [v1, v2]) [z, TI, TO, i1, i2] z (ZipTn z TI TO i1 i2 (min n1 n2) tn1 tn2) where
  mem := List.mem_cons_self ..
  obj := fun i h ⟨_, ⟨_, _, a, _⟩, b, ⟨_, _, c⟩, d, e⟩ => five (p := fun c => ∃ o, h.get? c = some o ∧ _) ⟨_, a, fun _ q => nomatch q⟩ ⟨_, b, fun _ q => nomatch q⟩ ⟨_, c, fun _ q => nomatch q⟩ (D1.obj i h d) (D2.obj i h e)
  keep := fun i h h' ⟨l, ⟨_, _, a, f⟩, b, ⟨_, _, c⟩, d, e⟩ k => ⟨l, ⟨_, _, k _ (by simp) _ a, f⟩, k _ (by simp) _ b, ⟨_, _, k _ (by simp) _ c⟩, D1.keep _ _ _ d fun o => k i1 (by simp) o, D2.keep _ _ _ e fun o => k i2 (by simp) o⟩
  item := by
    rintro X hP hw hK hc i pins s σ H E I hf ⟨hl, hz, hTI, hTO, h1, h2⟩ ⟨⟨hG1, hG2⟩, hlt⟩
    have none5 : H z = none ∧ H TI = none ∧ H TO = none ∧ H i1 = none ∧ H i2 = none := ⟨(hf _ (by simp)).1, (hf _ (by simp)).1, (hf _ (by simp)).1, (hf _ (by simp)).1, (hf _ (by simp)).1⟩
    obtain ⟨fp1, PD1, St1, DD1, c1, m1, q1, back1, val1⟩ := D1.draws X hP hw hK hc i pins s σ H I hG1 none5.2.2.2.1 h1
    obtain ⟨fp2, PD2, St2, DD2, c2, m2, q2, back2, val2⟩ := D2.draws X hP hw hK hc i pins s σ H I hG2 none5.2.2.2.2 h2
    subst hP hw hK
    refine rj_pyNext (A5.sep m1 m2 q1 q2 none5.1 none5.2.2.1 none5.2.2.2.1 none5.2.2.2.2) DD1 DD2 hz hTI hTO c1 c2 (by omega) (by omega) (fun u u2 h' tk _ _ p1 p2 z' TO' j1 j2 hT hk => ?_) fun h' tk e => absurd e (by omega)
    obtain ⟨v, hv, rv⟩ := val1 i u p1
    obtain ⟨v2, hv2, rv2⟩ := val2 i u2 p2
    have made : ObjOk X.prog X.w (upd H s.heap.objs.size (.tup [v, v2])) h' s.heap.objs.size (.tup [v, v2]) := ⟨by show 2 ≤ sizeLine; decide, [u, u2], .cons rv (.cons rv2 .nil), ⟨_, hT, rfl, _, rfl⟩⟩
    have J : Inv X pins σ (upd H s.heap.objs.size (.tup [v, v2])) { s with heap := h', toks := tk } := I.turnedNew (ch := [z, TI, TO, i1, i2]) (fun c o hb q => Beside.out hk hb q) hf (Nat.le_refl _) made
    have lt5 : ∀ c ∈ [z, TI, TO, i1, i2], c < s.heap.objs.size := by
      obtain ⟨_, _, a, _⟩ := hz
      obtain ⟨_, _, b⟩ := hTO
      obtain ⟨_, e1⟩ := DD1.live _ _ c1
      obtain ⟨_, e2⟩ := DD2.live _ _ c2
      exact five (Heap.lt_size a) (Heap.lt_size hTI) (Heap.lt_size b) (Heap.lt_size e1) (Heap.lt_size e2)
    exact ⟨_, rfl, wpAny_pure ⟨.ref s.heap.objs.size, _, J, rfl, ⟨_, _, rfl, I.hok.fresh (Nat.le_refl _), rfl, v, v2, hv, hv2, rfl⟩, ⟨hlt, z', hk _ _ A5.TIz A5.TITO A5.TIi1 A5.TIi2 hTI, TO', back1 _ _ j1, back2 _ _ j2⟩,
      fun c hcm => (upd_ne (Nat.ne_of_lt (lt5 c hcm))).trans (hf c hcm).1⟩⟩
  done := by
    rintro X hP hw hK hc i pins s σ H E I hf ⟨hl, hz, hTI, hTO, h1, h2⟩ ⟨⟨hG1, hG2⟩, hge⟩
    have none5 : H z = none ∧ H TO = none ∧ H i1 = none ∧ H i2 = none := ⟨(hf _ (by simp)).1, (hf _ (by simp)).1, (hf _ (by simp)).1, (hf _ (by simp)).1⟩
    obtain ⟨fp1, PD1, St1, DD1, c1, m1, q1, back1, val1⟩ := D1.draws X hP hw hK hc i pins s σ H I hG1 none5.2.2.1 h1
    obtain ⟨fp2, PD2, St2, DD2, c2, m2, q2, back2, val2⟩ := D2.draws X hP hw hK hc i pins s σ H I hG2 none5.2.2.2 h2
    subst hP hw hK
    exact rj_pyNext (A5.sep m1 m2 q1 q2 none5.1 none5.2.1 none5.2.2.1 none5.2.2.2) DD1 DD2 hz hTI hTO c1 c2 (by omega) (by omega) (fun _ _ _ _ a b => absurd a (by omega)) fun h' tk _ hk => ⟨rfl, I.turnedL (t' := tk) (ch := [z, TI, TO, i1, i2]) (fun c o hb q => Beside.out hk hb q) hf⟩
  self := fun A i s Q E st h => by
    obtain ⟨_, ⟨_, _, a, _⟩, _⟩ := st
    exact wpAny_pyIter_slot ⟨_, a, rfl⟩ F.slot_zip_iter (wpAny_call_entry F.slot_zip_iter ⟨_, a, rfl⟩ F.entry_zip_iter (show wpAny _ _ (ret (.ref z)) _ _ s from wpAny_pure ⟨_, rfl, "zip", _, ⟨_, a, rfl⟩, F.slot_zip_next.lookup, h⟩) (F.args_zip_iter_1 _))
end
/-- for p in zip(v1, v2) -/
theorem pi_zipN {X : Cx} {x : Str} {e e2 : Expr} {ta : TA} {p pos tpos : Pos} (hg : Gl X "zip") (hm : X.mg "zip" = none) (ha : PA X [e, e2] ta)
    (hs : starEach [e, e2] X.env = (false, eval e X.env) :: starEach [e2] X.env := by rfl) (hpl : (backTo pos (starEach [e2] X.env)).any (·.1) = false := by rfl) :
    PI X (.Name x tpos) (.Call (.Name "zip" p) [e, e2] [] pos) (iZipG ta) :=
  pi_zipGen hg hm ha (fun A5 D1 D2 => ⟨_, turn_zipN A5 D1 D2, fun h hz hTI hTO h1 h2 => ⟨Nat.zero_le _, ⟨_, _, hz, .inl rfl⟩, hTI, ⟨_, _, hTO⟩, h1, h2⟩⟩) hs hpl
end RJ
end

section
set_option maxRecDepth 100000
namespace RJ
open PySem PySem.Spec PyProof.Rows L2
open PySem.W (minD AlikeAll alike alikeAll dataLt)
theorem minD_mem : ∀ (ys : List PyData) (y : PyData), minD y ys ∈ y :: ys
  | [], y => List.mem_cons_self ..
  | z :: zs, y => by
    show zs.foldl _ (if dataLt z y = true then z else y) ∈ y :: z :: zs
    have h := minD_mem zs (if dataLt z y = true then z else y)
    have h' : minD (if dataLt z y = true then z else y) zs ∈ (if dataLt z y = true then z else y) :: zs := h
    rcases List.mem_cons.mp h' with e | e
    · show minD (if dataLt z y = true then z else y) zs ∈ _
      rw [e]
      by_cases c : dataLt z y = true
      · rw [if_pos c]; exact List.mem_cons_of_mem _ (List.mem_cons_self ..)
      · rw [if_neg c]; exact List.mem_cons_self ..
    · exact List.mem_cons_of_mem _ (List.mem_cons_of_mem _ e)
/-- a measure that < respects falls to its least value -/
theorem minD_le {rk : PyData → Int} {Ok : PyData → Prop} (h1 : ∀ x y, Ok x → Ok y → dataLt x y = true → rk x ≤ rk y) (h2 : ∀ x y, Ok x → Ok y → dataLt x y = false → rk y ≤ rk x) :
    ∀ (ys : List PyData) (y : PyData), (∀ z ∈ y :: ys, Ok z) → ∀ z ∈ y :: ys, rk (minD y ys) ≤ rk z
  | [], y, _, z, hz => by
    rw [List.mem_singleton.mp hz]; exact Int.le_refl _
  | w :: ws, y, hok, z, hz => by
    have oky := hok y (List.mem_cons_self ..)
    have okw := hok w (List.mem_cons_of_mem _ (List.mem_cons_self ..))
    have step : rk (if dataLt w y = true then w else y) ≤ rk y ∧ rk (if dataLt w y = true then w else y) ≤ rk w := by
      cases c : dataLt w y with
      | true => exact ⟨h1 w y okw oky c, Int.le_refl _⟩
      | false => exact ⟨Int.le_refl _, h2 w y okw oky c⟩
    have ih := minD_le h1 h2 ws (if dataLt w y = true then w else y) (fun v hv => by
      rcases List.mem_cons.mp hv with e | e
      · rw [e]; split
        · exact okw
        · exact oky
      · exact hok v (List.mem_cons_of_mem _ (List.mem_cons_of_mem _ e)))
    show rk (minD (if dataLt w y = true then w else y) ws) ≤ rk z
    rcases List.mem_cons.mp hz with e | e
    · rw [e]; exact Int.le_trans (ih _ (List.mem_cons_self ..)) step.1
    · rcases List.mem_cons.mp e with e | e
      · rw [e]; exact Int.le_trans (ih _ (List.mem_cons_self ..)) step.2
      · exact ih z (List.mem_cons_of_mem _ e)
/-- min(l, default=None) of alike data -/
def rMinD (K : PySem.W.Frag) : List V → List V → Hp → VK → Prop := fun vs zs H Q => ∃ (a : Addr) (xs : List V) (ds : List PyData), vs = [V.ref a] ∧ zs = [V.non] ∧ H a = some (.lst xs) ∧ DpAll K H xs ds ∧ AlikeAll ds ∧ PyData.depthAll ds ≤ 60 ∧
  (ds = [] → Q .non H) ∧ ∀ (d : PyData) (ds' : List PyData) (i : Nat) (x : V), ds = d :: ds' → xs[i]? = some x → ds[i]? = some (minD d ds') → Q x H
theorem readsAll_ix {h : Heap} : ∀ {us : List Value} {ds : List PyData} {as : List Addr} {i : Nat} {u : Value}, ReadsAll h us ds as → us[i]? = some u → ∃ d bs, ds[i]? = some d ∧ Reads h u d bs
  | _, _, _, 0, u, .cons (d := d) (as := as) r _, e => by
    cases e
    exact ⟨d, as, rfl, r⟩
  | _, _, _, i + 1, u, .cons _ t, e => by
    obtain ⟨d, bs, h1, h2⟩ := readsAll_ix (i := i) t e
    exact ⟨d, bs, h1, h2⟩
theorem cr_minD {X : Cx} (hc : X.calm = true) (hu : X.A.units + 64 < cLine) : CallRK X (.builtin "min") [Str.ofString "default"] (rMinD X.K) := by
  intro pins s σ H xs0 zs us ws Q I r rz h
  obtain ⟨a, xs, ds, rfl, rfl, ha, hd, hal, hdep, q0, q1⟩ := h
  obtain ⟨its, rv, hl, _⟩ := I.list (SqL.of ha)
  rw [Vals.ref1 r]
  obtain ⟨u, rfl, ru⟩ := vals1 rz
  cases ru
  obtain ⟨as, hr⟩ := Dp.readsAll I ds xs its hd rv
  show wpAny _ _ (call (.builtin "min") [.ref a] [(Str.ofString "default", Value.none)]) _ _ s
  refine PySem.W.min_list_default (I.ok.hd hc) hl.isList hr hal (by omega) (fun e h' tk hk => ⟨.non, H, I.kept hk, rfl, q0 e⟩) fun y ys i v h' tk bs e hv hrd hk => ?_
  have hv' : its[i]? = some v := by simpa using hv
  have hl2 := rv.length
  have hi : i < xs.length := by
    have := (List.getElem?_eq_some_iff.mp hv').1
    omega
  obtain ⟨u2, hu2, ru2⟩ := rv.get (List.getElem?_eq_getElem hi)
  rw [hv'] at hu2
  cases hu2
  obtain ⟨d2, bs2, hd2, hr2⟩ := readsAll_ix hr hv'
  have heq : d2 = minD y ys := ((PyProof.Rows.reads_det (h := s.heap) (h' := h') (fun b o e _ => hk b o e) hr2 hrd).1).symm
  exact ⟨xs[i], H, I.kept hk, ru2, q1 y ys i _ e (List.getElem?_eq_getElem hi) (by rw [hd2, heq])⟩
end RJ
end

section
set_option maxRecDepth 100000
namespace RJ
open PySem PySem.Spec PyProof.Rows L2
/-- the signs of a text, each a text -/
def signsV (x : Str) : List V := x.cps.toList.map fun c => V.str ⟨#[c]⟩
theorem call_list_text {X : Cx} (hc : X.calm = true) : CallR X (.type "list") (fun xs H Q => ∃ x : Str, xs = [.str x] ∧ x.cps.size ≤ sizeLine ∧ ∀ l, H l = none → Q (.ref l) (upd H l (.lst (signsV x)))) := by
  intro pins s σ H xs us Q I r h
  obtain ⟨x, rfl, hz, q⟩ := h
  obtain ⟨u, rfl, rx⟩ := vals1 r
  obtain ⟨t, rfl⟩ := rx
  refine PySem.call_list_str (I.ok.hd hc) x t (hn := hz) fun h' tk acc c' hk hS hacc => ?_
  have hv : Vals (signsV x) acc.toList := by
    have hl : (signsV x).length = acc.toList.length := by
      rw [signsV, List.length_map, Array.length_toList, Array.length_toList]; exact hacc.1.symm
    have key : ∀ j u, acc.toList[j]? = some u → ∃ v, (signsV x)[j]? = some v ∧ RelV v u := fun j u hu => by
      obtain ⟨c, t', hcx, rfl⟩ := hacc.2 j u (by rw [← Array.getElem?_toList]; exact hu)
      exact ⟨.str ⟨#[c]⟩, by rw [signsV, List.getElem?_map]; simp [hcx], ⟨t', rfl⟩⟩
    clear hacc hS hk
    revert hl key
    generalize signsV x = vs
    generalize acc.toList = ws
    intro hl key
    induction vs generalizing ws with
    | nil =>
      cases ws with
      | nil => exact .nil
      | cons _ _ => cases hl
    | cons v vs ih =>
      cases ws with
      | nil => cases hl
      | cons w ws =>
        obtain ⟨v', e, r⟩ := key 0 w rfl
        cases e
        exact .cons r (ih ws (Nat.succ.inj hl) fun j u hu => key (j + 1) u hu)
  refine ⟨.ref s.heap.objs.size, _, I.laid (t' := tk) hk (Nat.le_refl _) (show ObjOk X.prog X.w _ h' _ (.lst (signsV x)) from ⟨?_, acc.toList, c', hv, by simpa using hS⟩), rfl, q _ (I.hok.fresh (Nat.le_refl _))⟩
  rw [signsV, List.length_map, Array.length_toList]; exact hz
theorem op_mul_text {X : Cx} : OpR X (binaryOp .Mult) (fun x y H Q => ∃ (a : Str) (n : Int), x = .str a ∧ y = .int n ∧ MulOk a n ∧ Q (.str (Txt.mul a n)) H) := by
  intro pins s σ H x y v u Q I rx ry h
  obtain ⟨a, n, rfl, rfl, hok, q⟩ := h
  obtain ⟨t, rfl⟩ := rx
  obtain ⟨t2, rfl⟩ := ry
  exact PySem.SB.mul hok fun t' k => ⟨.str _, H, I.kept (t' := k) fun _ _ z => z, ⟨_, rfl⟩, q⟩
end RJ
end

section
set_option maxRecDepth 100000
namespace RJ
open PySem PySem.Spec PyProof.Rows L2
/-! ### rules that name the written part: within a comprehension it can't be found -/
section
variable {X : Cx} {K : PySem.W.Frag}
theorem ix_listK (h : X.K = K) : IxR X (rIxL K) := h ▸ ix_list
theorem ix_tupK (h : X.K = K) : IxR X (rIxT K) := h ▸ ix_tup
theorem sl_listK (h : X.K = K) : SlR X (rSlL K) := h ▸ sl_list
theorem sl_tupAK (h : X.K = K) : SlR X (rSlA K) := h ▸ sl_tupA
theorem call_len_seqK (h : X.K = K) : CallR X (.builtin "len") (fun xs H Q => ∃ p ys, xs = [V.ref p] ∧ (SqL K H p ys ∨ SqT K H p ys) ∧ Q (.int (ys.length : Int)) H) := by subst h; exact call_len_seq
theorem call_list_ofK (h : X.K = K) : CallR X (.type "list") (fun xs H Q => ∃ p ys, xs = [V.ref p] ∧ (SqL K H p ys ∨ SqT K H p ys) ∧ ∀ l, H l = none → Q (.ref l) (upd H l (.lst ys))) := by subst h; exact call_list_of
theorem op_in_seqK (h : X.K = K) : OpR X (compareOp .In) (rIn K false) := h ▸ op_in_seq
theorem op_notIn_seqK (h : X.K = K) : OpR X (compareOp .NotIn) (rIn K true) := h ▸ op_notIn_seq
theorem pe_fldK {e : Expr} {f : Str} {pos : Pos} {ta : TE} (h : X.K = K) (he : PE X e ta) (hb : attributeBase e f X.env (eval e X.env) = eval e X.env) : PE X (.Attribute e f pos) (tFld K ta f) := by subst h; exact pe_fld he hb
theorem pe_bmK {T id : String} {name : Str} {r : V → List V → Hp → VK → Prop} {o e : Expr} {es : List Expr} {apos cpos : Pos} {to : TE} {t : TA} (h : X.K = K) (pa : PlainAttrs T) (slot : Slot T name id) (hty : typeOf (.builtin id) = pure (.type "method_descriptor")) (hm : MtR X id r) (ho : PE X o to) (ha : PA X (e :: es) t)
    (hbase : attributeBase o name X.env (eval o X.env) = eval o X.env := by rfl)
    (hfew : ((backTo cpos (starEach (e :: es) X.env)).all (fun x => !x.1) && (backToKw cpos (keywordEach [] X.env)).all (fun x => x.1.isSome)
      && decide ((e :: es).length + ([] : List Keyword).length + (if ([] : List Keyword).isEmpty then 0 else 1) < 30)) = true := by rfl)
    (hline : (apos.endLine == cpos.line) = true := by rfl) (hs : starEach (e :: es) X.env = (false, eval e X.env) :: starEach es X.env := by rfl) (hplain : (backTo cpos (starEach es X.env)).any (·.1) = false := by rfl) :
    PE X (.Call (.Attribute o name apos) (e :: es) [] cpos) (tBM K T r to t) := by subst h; exact pe_bm pa slot hty hm ho ha hbase hfew hline hs hplain
end
end RJ
end

section
set_option maxRecDepth 100000
set_option maxHeartbeats 2000000
namespace RJ
open PySem PySem.Spec PyProof.Rows L2

/-- an error's own __init__, that calls the one above it by super() -/
structure SupF (P : Program) (K : PySem.W.Frag) (C : Addr) (qual : Str) (st : Stmt) (f : Addr) (fd : FuncData) : Prop where
  ex : ∃ (oc : Value) (od : Option Addr) (dV kV doc pm : Value) (an : Option Addr) (cda : Addr) (ct : Value) (osl : Array (Option Value)) (cc : Addr),
    fd = PySem.W.ksFn "__init__" qual (C8.fnArgs st) (C8.fnBody st) (C8.fnScope st) dV kV doc pm an (.ref cda) ct cc ∧ K.lookup f = some ⟨oc, od, .func fd, osl⟩ ∧ PySem.W.codeIn K (.ref cda) qual = true ∧
    (∃ (ccl : Value) (cdd : Option Addr) (vs : Array Value) (ccs : Array (Option Value)) (file : Str) (tf : Tok), K.lookup cda = some ⟨ccl, cdd, .fields vs, ccs⟩ ∧ vs[2]? = some (.str file tf) ∧ ((P.main.file : Str) == file) = true) ∧
    ∃ (cl : Value) (cld : Option Addr) (csl : Array (Option Value)), K.lookup cc = some ⟨cl, cld, .cell (some (.ref C)), csl⟩
  top : (P.main.scope.names.lookup ("super" : Str)).isSome = false
  sup : PySem.W.ks_superIn K C C "__init__" = some (some (.builtin "ValueError.__init__"))
  sub : PySem.W.subIn K (.ref C) (.type "ValueError") = some true
  mro : PySem.W.mroIn K C (.ref C) = some true
  opq : PySem.W.nsIn K PySem.cStatics "thirdparty.any" = some none
  oex : OexC K C

/-- a look at the names of such a def -/
def supB (N ps : List Str) (sc : Scope) : Bool :=
  decide (sc.kind = .function) && (!sc.isCoroutine && (!sc.isGenerator && (decide N.Nodup && (decide (N.take ps.length = ps) && (ps.all (fun x => decide (sc.names.lookup x = some .local)) && (sc.names.all (fun y => !decide (y.2 = .cell)) &&
    (sc.names.all (fun y => !decide (y.2 = .free) || decide (y.1 = "__class__")) && (decide (sc.names.lookup ("__class__" : Str) = some .free) && decide (sc.names.lookup ("super" : Str) = some .globalImplicit)))))))))
structure SupS (N ps : List Str) (sc : Scope) : Prop where
  kind : sc.kind = .function
  co : sc.isCoroutine = false
  gen : sc.isGenerator = false
  nd : N.Nodup
  pre : N.take ps.length = ps
  par : ∀ x ∈ ps, sc.names.lookup x = some .local
  nocell : ∀ y ∈ sc.names, y.2 ≠ .cell
  only : ∀ y ∈ sc.names, y.2 = .free → y.1 = "__class__"
  cls : sc.names.lookup ("__class__" : Str) = some .free
  sup : sc.names.lookup ("super" : Str) = some .globalImplicit
theorem supS_of {N ps : List Str} {sc : Scope} (h : supB N ps sc = true) : SupS N ps sc := by
  unfold supB at h
  simp only [Bool.and_eq_true, Bool.not_eq_true', decide_eq_true_eq, List.all_eq_true, Bool.or_eq_true, decide_eq_false_iff_not] at h
  obtain ⟨h1, h2, h3, h4, h5, h6, h7, h8, h9, h10⟩ := h
  exact ⟨h1, h2, h3, h4, h5, h6, h7, fun y hy e => (h8 y hy).elim (fun z => absurd e z) id, h9, h10⟩

theorem lookup_one {y : Str} {u : Value} : ∀ {l : List (Str × Value)}, (y, u) ∈ l → (∀ u', (y, u') ∈ l → u' = u) → l.lookup y = some u
  | [], h, _ => absurd h (by simp)
  | (a, b) :: l, h, hu => by
    by_cases e : y = a
    · subst e
      have := hu b (by simp)
      subst this
      simp [List.lookup]
    · have hb : (y == a) = false := by simpa using e
      have h' : (y, u) ∈ l := by
        rcases List.mem_cons.mp h with z | z
        · exact absurd (congrArg Prod.fst z) e
        · exact z
      show (match y == a with | true => some b | false => l.lookup y) = some u
      rw [hb]
      exact lookup_one h' fun u' z => hu u' (List.mem_cons_of_mem _ z)
theorem zip_lookup {ps : List Str} {us : List Value} {i : Nat} {y : Str} {u : Value} (nd : ps.Nodup) (h1 : ps[i]? = some y) (h2 : us[i]? = some u) : (ps.zip us).reverse.lookup y = some u := by
  refine lookup_one ?_ fun u' z => ?_
  · rw [List.mem_reverse]
    have : (ps.zip us)[i]? = some (y, u) := by rw [List.getElem?_zip_eq_some]; exact ⟨h1, h2⟩
    exact List.mem_of_getElem? this
  · rw [List.mem_reverse] at z
    obtain ⟨j, hj⟩ := List.mem_iff_getElem?.mp z
    rw [List.getElem?_zip_eq_some] at hj
    have e := nodup_ix nd h1 hj.1
    subst e
    exact Option.some.inj (hj.2.symm.trans h2)

/-- the body's context -/
def cxS (P : Program) (w : World) (K : PySem.W.Frag) (mg : Str → Option Value) (base : Heap) (N : List Str) (qual : Str) (sc : Scope) (f cda cc : Addr) (A : Around) (outer : List Env) (s : Shared) (H : Hp) : Cx where
  prog := P
  w := w
  K := K
  mg := mg
  base := base
  A := A.deeper (PySem.W.ksEnv qual sc s.heap.objs.size f (.ref cda) cc)
  N := N
  s_0 := s
  H_0 := H
  env := PySem.W.ksEnv qual sc s.heap.objs.size f (.ref cda) cc
  outer := outer
  stack := PySem.W.ksEnv qual sc s.heap.objs.size f (.ref cda) cc :: outer
  ex := []
  calm := true
  fn := fun _ => false
  pn := []
  xe := fun _ _ => False

section
variable {P : Program} {w : World} {K : PySem.W.Frag} {mg : Str → Option Value} {base : Heap} {N ps : List Str} {qual : Str} {sc : Scope} {f cda cc : Addr} {A : Around} {outer : List Env} {s : Shared} {H : Hp} {us : List Value} {vs : List V}
theorem inv_startS {cv : Value} (S : SupS N ps sc) (hd : A.handled = none) (e0 : Env0 P w K mg base A outer s H) (hl : vs.length = ps.length) (r : Vals vs us) {h1 : Heap} {tk : Nat}
    (hns : h1.Ns s.heap.objs.size fun x => (ps.zip us).reverse.lookup x) (hk : ∀ b o, s.heap.get? b = some o → h1.get? b = some o) (hcc : base.IsCell cc (some cv)) :
    Inv (cxS P w K mg base N qual sc f cda cc A outer s H) [] (L2.start N vs) H { s with heap := h1, toks := tk } := by
  have hpl : ps.length ≤ N.length := by have := congrArg List.length S.pre; rw [List.length_take] at this; omega
  have noA : ∀ b : Addr, b ∉ (cxS P w K mg base N qual sc f cda cc A outer s H).ex := fun b z => absurd (show b ∈ ([] : List Addr) from z) (by simp)
  obtain ⟨oc, hoc, hdc⟩ := hcc
  have cl : ∀ (y : Str) (c : Addr), (cxS P w K mg base N qual sc f cda cc A outer s H).env.cells.lookup y = some c → c = cc ∧ y = "__class__" := fun y c h => by
    have h' : ([("__class__", cc)] : List (Str × Addr)).lookup y = some c := h
    by_cases e : y = "__class__"
    · subst e; exact ⟨(Option.some.inj h').symm, rfl⟩
    · have hb : (y == ("__class__" : Str)) = false := by simpa using e
      have : (match y == ("__class__" : Str) with | true => some cc | false => none) = some c := h'
      rw [hb] at this; cases this
  refine ⟨⟨e0.mod, S.kind, rfl, rfl, Nat.le_refl _, fun y z c p q => (cl y c p).2.trans (cl z c q).2.symm, fun y hy => ?_, fun y c z _ => Bool.noConfusion (show false = true from z), fun _ => hd, Around.frames_deeper e0.frames, .inr ⟨rfl, rfl⟩,
    fun b z => absurd z (noA b), e0.bs, e0.bsz, fun b _ _ => noA b, fun b z => absurd z (noA b), e0.funs, e0.frf⟩, rfl, e0.bare, Un.kept hk, ⟨_, hns, fun i y v p q z => ?_⟩, fun y c p => ?_, e0.hok.fresh (Nat.le_refl _), fun y c p => ?_,
    fun p hp => absurd (show p ∈ ([] : List (Addr × Obj)) from hp) (by simp), e0.hok.kept hk, ?_⟩
  · have hy : sc.names.lookup y = some .cell ∨ sc.names.lookup y = some .free := hy
    rcases hy with hy | hy
    · exact absurd rfl (S.nocell _ (PySem.mem_of_lookup hy))
    · have := S.only _ (PySem.mem_of_lookup hy) rfl
      subst this
      exact ⟨cc, rfl⟩
  · have hi : i < vs.length := by
      unfold L2.start at q
      by_cases hi : i < vs.length
      · exact hi
      · rw [List.getElem?_append_right (by simpa using hi), List.getElem?_replicate] at q
        split at q <;> cases q
    have ha : vs[i]? = some v := by
      unfold L2.start at q
      rw [List.getElem?_append_left (by simpa using hi), List.getElem?_map] at q
      cases e : vs[i]? with
      | none => rw [e] at q; cases q
      | some a => rw [e] at q; cases q; rfl
    obtain ⟨u, hu, rv⟩ := r.get ha
    have hp : ps[i]? = some y := by rw [← S.pre, List.getElem?_take_of_lt (by omega)]; exact p
    exact ⟨u, rv, .inl ⟨S.par y (List.mem_of_getElem? hp), zip_lookup (by rw [← S.pre]; exact S.nd.sublist (List.take_sublist _ _)) hp hu⟩⟩
  · obtain ⟨rfl, _⟩ := cl y c p
    exact ⟨some cv, oc, hk _ _ (e0.bs _ _ hoc).1, hdc⟩
  · obtain ⟨rfl, _⟩ := cl y c p
    exact (e0.bs _ _ hoc).2
  · unfold L2.start
    show _ = N.length
    rw [List.length_append, List.length_map, List.length_replicate]
    omega
end

section
variable {X : Cx} {pins : List (Addr × Obj)} {σ : L2.St} {H : Hp} {s : Shared} {a C u : Addr} {us : List Value} {Q : Value → Shared → Prop} {E : Value → Shared → Prop} {A : Around}
/-- the bound __init__ of ValueError called: what it lays down is not told -/
theorem call_mw (T : OexC X.K C) (I : Inv X pins σ H s) (e : H a = some (exo a C none)) (hu : s.heap.get? u = some (PySem.W.kxs_mw "ValueError.__init__" a)) (hl : us.length ≤ sizeLine) (h : ∀ s', Inv X pins σ H s' → Q .none s') :
    wpAny (model X.prog X.w) A (call (.ref u) us) Q E s := by
  obtain ⟨nm, q, N, bs, bm, sn, sub, ab, col, dd, k0, k1, k2, k3, k5, hC, hbm⟩ := T.cls
  obtain ⟨t1, ho⟩ := exo_at I.hok e
  have hCs := I.kIn _ _ hC
  obtain ⟨hp, g, d, t, os⟩ := s
  refine wpAny_call (codeAny_of_tree ?_)
  show wpAny _ A.in1 (callAny (.ref u) _) _ _ _
  unfold callAny
  refine wpAny_bind (wpAny_load hu ?_)
  simp only [PySem.W.kxs_mw, (by decide : (Value.type "method-wrapper" == Value.type "method" || Value.type "method-wrapper" == Value.type "builtin_function_or_method" || Value.type "method-wrapper" == Value.type "method-wrapper") = true), if_true]
  refine PySem.W.KFB.if_so (by decide) (wpAny_bind (PySem.W.check_bound_init F.excBase_ValueError.toExcCallFacts hCs ho rfl (wpAny_bind (wpAny_pure (wpAny_pure ⟨plainId_quiet F.excBase_ValueError.init.plain _, codeAny_builtin F.excBase_ValueError.initEntry ?_⟩)))))
  refine PySem.W.exc_init_tree (cls := .ref C) (t0 := t1) (dv := none) (c2 := .none) (c3 := .none) (b4 := .bool false) ho hl fun h' k hx _ => ?_
  have J := I.write (t' := t) (x := a) (e := a) (o := exo a C none) (by rw [e]; exact True.intro) (.inl rfl) k ⟨_, hx⟩ (exo_ok hx)
  have eu : upd H a (exo a C none) = H := funext fun b => by
    by_cases hb : b = a
    · subst hb; rw [upd_same, e]
    · rw [upd_ne hb]
  rw [eu] at J
  exact h _ J
end

section
variable {X : Cx} {σ : L2.St} {H : Hp} {s : Shared} {a C f cda cc : Addr} {qual : Str} {st : Stmt} {fd : FuncData} {e : Expr} {ta : TA} {p0 p1 p2 p3 p4 : Pos} {ar : Arg} {body : List Stmt} {pl : Sem Bool}
/-- super().__init__(e), where C is the class around the def and the object's own -/
theorem super_expr (F : SupF X.prog X.K C qual st f fd) (hm : X.mg "super" = none) (hc1 : X.env.kindOf "super" = some .globalImplicit) (hc2 : X.env.kindOf "__class__" = some .free) (hc3 : X.env.kindOf ar.arg = some .local) (hfu : X.env.func = some f)
    (hcl : ∀ cc', (∃ cl cld csl, X.K.lookup cc' = some ⟨cl, cld, .cell (some (.ref C)), csl⟩) → cc' = cc → X.env.cells.lookup ("__class__" : Str) = some cc') (hcc : ∃ (cl : Value) (cld : Option Addr) (csl : Array (Option Value)), X.K.lookup cc = some ⟨cl, cld, .cell (some (.ref C)), csl⟩) (hco : X.env.code = .ref cda)
    (hcd : ∃ (ccl : Value) (cdd : Option Addr) (vs : Array Value) (ccs : Array (Option Value)) (file : Str) (tf : Tok), X.K.lookup cda = some ⟨ccl, cdd, .fields vs, ccs⟩ ∧ vs[2]? = some (.str file tf) ∧ ((X.prog.main.file : Str) == file) = true)
    (hp : (fd.params.posonlyargs ++ fd.params.args).head? = some ar) (hi : interactive X.env = false) (hs : swapsWith (.Call (.Attribute (.Call (.Name "super" p0) [] [] p1) "__init__" p2) [e] [] p3) none p4.line X.env = pure false)
    (hev : eval (.Call (.Attribute (.Call (.Name "super" p0) [] [] p1) "__init__" p2) [e] [] p3) X.env = (do
      let ov ← attributeBase (.Call (.Name "super" p0) [] [] p1) "__init__" X.env (eval (.Call (.Name "super" p0) [] [] p1) X.env)
      standAt p2.atName
      let (g, first) ← holding [ov] (getMethod ov "__init__" pl)
      callWith p3 g first (backTo p3 (starEach [e] X.env)) []))
    (hst : starEach [e] X.env = (false, eval e X.env) :: starEach [] X.env) (hN : X.N[0]? = some ar.arg) (hσ : σ[0]? = some (some (.ref a))) (I : Inv X [] σ H s) (ea : H a = some (exo a C none)) (hta : PA X [e] ta) (q : ta σ H fun xs H1 => H1 = H ∧ xs.length ≤ 1000) :
    _root_.PySem.wpAt (model X.prog X.w) X.A (.func body X.env) (exec (.Expr (.Call (.Attribute (.Call (.Name "super" p0) [] [] p1) "__init__" p2) [e] [] p3) p4) X.env) (fun fl s' => fl = .next ∧ Inv X [] σ H s') X.xe s := by
  obtain ⟨oc, od, dV, kV, doc, pm, an, cda', ct, osl, cc', hfd, lk, -⟩ := F.ex
  obtain ⟨ccl, cdd, vc, ccs, file, tf, hcode, hvc, hfile⟩ := hcd
  obtain ⟨cl, cld, csl, hcell⟩ := hcc
  obtain ⟨mb, hb1, hb2⟩ := I.mod.blt
  obtain ⟨m, hns, hlk⟩ := id I.loc
  obtain ⟨u, ru, hu⟩ := hlk 0 ar.arg (.ref a) hN hσ (.inl hc3)
  obtain rfl : u = Value.ref a := ru
  have hma : m ar.arg = some (.ref a) := by
    rcases hu with ⟨_, z⟩ | ⟨z, _⟩
    · exact z
    · rcases z with z | z <;> (rw [hc3] at z; cases z)
  obtain ⟨nm, qn, N0, bs, bm, sn, sub, ab, col, dd, k0, k1, k2, k3, k5, hC, hbm⟩ := F.oex.cls
  obtain ⟨t1, ho⟩ := exo_at I.hok ea
  have KX := I.kIn
  have hCs := KX _ _ hC
  have hsc : ∃ cd, PySem.W.clsIn X.K C = some cd := by unfold PySem.W.clsIn; rw [hC]; exact ⟨_, rfl⟩
  obtain ⟨cdC, hcdC⟩ := hsc
  have hal : PySem.W.alongIn X.K "__init__" ((cdC.mro.dropWhile (· != .ref C)).drop 1) = some (some (.builtin "ValueError.__init__")) := by
    have z := F.sup
    unfold PySem.W.ks_superIn at z
    rw [hcdC] at z
    exact z
  have hxC : a ≠ C := fun z => by
    rw [z, hCs] at ho
    cases ho
  refine ks_wpAt_Expr_any (ks_wpAt_MethodCall (pl := pl) (ks_wpAt_super_base (of := ⟨oc, od, .func fd, osl⟩) hc1 hc2 (by decide) hfu (KX _ _ lk) rfl hp hco (KX _ _ hcode) rfl hvc hfile F.top ?_) hev) hi hs
  · refine PySem.W.ks_loadName_global I.ok.kind hc1 (Calls.loadGlobal_builtin (by rw [I.ok.glob]; exact I.mod.glob.keeps I.bk) hm (by rw [I.ok.blt]; exact hb1.keeps I.bk) ((hb2 "super" (by decide)).trans (by decide +kernel : bootBuiltins "super" = some (.type "super"))) ⟨rfl, ?_⟩)
    refine wpAny_loadName_free I.ok.kind hc2 (hcl cc ⟨_, _, _, hcell⟩ rfl) ⟨_, KX _ _ hcell, rfl⟩ (wpAny_loadName_local I.ok.kind hc3 hns hma (ks_wpAny_isType_cls hCs rfl ⟨rfl, ?_⟩))
    obtain ⟨hp, g, d, t, os⟩ := s
    refine ks_wpAny_call_super hCs rfl ho rfl (fun c z => by cases z) (PySem.W.looks_mroIn KX F.mro) fun h' e1 k => ?_
    have I1 : Inv X [] σ H ⟨h', g, d, t, os⟩ := I.kept (t' := t) k
    have I2 : W.InstAt h' a { cls := .ref C, dict := none, data := .fields #[.ref t1, .none, .none, .none, .bool false, .none] } C none := ⟨k _ _ ho, rfl, rfl, trivial⟩
    have hmr : W.Looks (model X.prog X.w) h' (mroOf (.ref C)) cdC.mro := (W.looks_clsIn I1.kIn hcdC).andThen .now
    refine PySem.W.kxs_getMethod PySem.W.kxs_ValueError e1 (PySem.W.looks_opaque I1.kIn F.opq) hmr rfl I1.kIn hal (I2.type.andThen (PySem.W.looks_subIn I1.kIn F.sub)) hxC (by decide) ?_
    have I3 : Inv X [] σ H ⟨h'.push (PySem.W.kxs_mw "ValueError.__init__" a), g, d, t + 1, os⟩ := I1.kept (t' := t + 1) fun b o z => Heap.get?_push_of_some _ z
    have hu3 : (h'.push (PySem.W.kxs_mw "ValueError.__init__" a)).get? h'.objs.size = some (PySem.W.kxs_mw "ValueError.__init__" a) := Heap.get?_push_at rfl rfl
    have I4 : Inv X [(h'.objs.size, PySem.W.kxs_mw "ValueError.__init__" a)] σ H ⟨h'.push (PySem.W.kxs_mw "ValueError.__init__" a), g, d, t + 1, os⟩ := I3.pins_of fun p hp => by
      obtain rfl : p = (h'.objs.size, PySem.W.kxs_mw "ValueError.__init__" a) := by simpa using hp
      exact ⟨hu3, I1.hok.fresh (Nat.le_refl _), Nat.ne_of_gt I1.lt, I1.nofs (Nat.le_refl _), fun v z => by cases z⟩
    show wpAny _ _ (callWith p3 (.ref h'.objs.size) [] (backTo p3 (starEach [e] X.env)) []) _ _ _
    have hrun := hta.run p3 [(h'.objs.size, PySem.W.kxs_mw "ValueError.__init__" a)] _ σ H _ I4 q
    rw [hst] at hrun ⊢
    refine PySem.W.kxs_callWith (i := "ValueError.__init__") (x := a) rfl (Calls.evalArgs_plain (thn hrun fun us s1 hh => ?_))
    obtain ⟨vs, H1, I5, r5, e5, hl5⟩ := hh
    subst e5
    have hlu : us.length ≤ sizeLine := by
      rw [← Paired.length r5, sizeLine_eq]
      omega
    refine ⟨(I5.pin (h'.objs.size, PySem.W.kxs_mw "ValueError.__init__" a) (List.mem_append_right _ List.mem_cons_self)).1, ?_⟩
    exact call_mw F.oex I5 ea (I5.pin (h'.objs.size, PySem.W.kxs_mw "ValueError.__init__" a) (List.mem_append_right _ List.mem_cons_self)).1 hlu fun s' J => ⟨rfl, J.pins_of fun p hp => absurd hp (by simp)⟩
end

section
variable {P : Program} {w : World} {K : PySem.W.Frag} {mg : Str → Option Value} {base : Heap}
/-- the def by its body: super().__init__(e), then the fields -/
theorem fn_super {C : Addr} {qual : Str} {st : Stmt} {f : Addr} {fd : FuncData} {N ps : List Str} {k : Nat} {sp : Sp} {e : Expr} {rest : List Stmt} {p0 p1 p2 p3 p4 : Pos} {ar : Arg} {p' : List Str} (F : SupF P K C qual st f fd) (hm : mg "super" = none)
    (S : SupS N ps (C8.fnScope st)) (hb : C8.fnBody st = .Expr (.Call (.Attribute (.Call (.Name "super" p0) [] [] p1) "__init__" p2) [e] [] p3) p4 :: rest) (hp : ((C8.fnArgs st).posonlyargs ++ (C8.fnArgs st).args).head? = some ar) (hps : ps = ar.arg :: p')
    (len : ∀ vs H Q E, sp vs H Q E → vs.length = ps.length) (self0 : ∀ vs H Q E, sp vs H Q E → ∃ a vs', vs = .ref a :: vs' ∧ H a = some (exo a C none))
    {pl : Env → Sem Bool} (hev : ∀ env : Env, eval (.Call (.Attribute (.Call (.Name "super" p0) [] [] p1) "__init__" p2) [e] [] p3) env = (do
      let ov ← attributeBase (.Call (.Name "super" p0) [] [] p1) "__init__" env (eval (.Call (.Name "super" p0) [] [] p1) env)
      standAt p2.atName
      let (g, first) ← holding [ov] (getMethod ov "__init__" (pl env))
      callWith p3 g first (backTo p3 (starEach [e] env)) []))
    (he : ∀ env : Env, starEach [e] env = (false, eval e env) :: starEach [] env) (hs : ∀ (env : Env) o, swapsWith (.Call (.Attribute (.Call (.Name "super" p0) [] [] p1) "__init__" p2) [e] [] p3) none o env = pure false)
    (hbody : ∀ (cda cc : Addr) (A : Around) (outer : List Env) (s : Shared) (H : Hp) (vs : List V) (Q : VK) (E : XK), Room k (A.deeper (PySem.W.ksEnv qual (C8.fnScope st) s.heap.objs.size f (.ref cda) cc)) → sp vs H Q E →
      ∃ ta t, PA (cxS P w K mg base N qual (C8.fnScope st) f cda cc A outer s H) [e] ta ∧ PSs (cxS P w K mg base N qual (C8.fnScope st) f cda cc A outer s H) rest t ∧
        (ta (L2.start N vs) H fun xs H1 => H1 = H ∧ xs.length ≤ 1000) ∧ t { nx := fun _ H' => Q .non H', rt := Q } (L2.start N vs) H) : FnOk P w K mg base C8.CX0 (k + 1) f fd ps sp := by
  refine ⟨len, fun A outer s H args us vs Q E hr e0 hbd r hsp => ?_⟩
  have hl := len _ _ _ _ hsp
  obtain ⟨a, vs', rfl, ea⟩ := self0 _ _ _ _ hsp
  obtain ⟨oc, od, dV, kV, doc, pm, an, cda, ct, osl, cc, rfl, lk, hcd, ⟨ccl, cdd, vc, ccs, file, tf, hcode, hvc, hfile⟩, cl, cld, csl, hcell⟩ := F.ex
  have KX : K.In s.heap := e0.mod.kin.keeps fun b o e => (e0.bs b o e).1
  have lim : s.heap.NoLimit := e0.mod.nolimit.keeps fun b o e => (e0.bs b o e).1
  refine PySem.ks_codeAny_call_defAt (body := C8.fnBody st) hr.depth (KX _ _ lk) rfl lim (PySem.W.codeRec_of KX hcd) rfl hbd S.nocell (fun y hy => S.par _ (List.of_mem_zip (a := y.1) (b := y.2) hy).1) (fun h1 hns hk => ?_) S.co S.gen S.kind
  have I : Inv (cxS P w K mg base N qual (C8.fnScope st) f cda cc A outer s H) [] (L2.start N (.ref a :: vs')) H { s with heap := h1, toks := s.toks + (ps.zip us).length } := inv_startS (cv := .ref C) S hr.hd e0 hl r hns hk ⟨_, e0.mod.kin _ _ hcell, rfl⟩
  obtain ⟨ta, t, hta, ht, hq, hq2⟩ := hbody cda cc A outer s H _ Q E (hr.deeper _) hsp
  rw [hb]
  have hN0 : N[0]? = some ar.arg := by
    have : (N.take ps.length)[0]? = some ar.arg := by rw [S.pre, hps]; rfl
    rwa [List.getElem?_take_of_lt (by rw [hps]; simp)] at this
  refine ks_wpAt_execs_cons (ks_wpAt_mono (super_expr (X := cxS P w K mg base N qual (C8.fnScope st) f cda cc A outer s H) (cc := cc) (cda := cda) (ar := ar) F hm S.sup S.cls (S.par _ (by rw [hps]; simp)) rfl (fun cc' _ z => by rw [z]; rfl) ⟨cl, cld, csl, hcell⟩ rfl ⟨ccl, cdd, vc, ccs, file, tf, hcode, hvc, hfile⟩ hp (by show (decide _ && _) = false; first | rfl | simp [cxS, S.kind]) (hs _ _) (hev _) (he _) hN0 rfl I ea hta hq) (fun fl s' hh => ?_) fun _ _ z => z.elim)
  obtain ⟨rfl, J⟩ := hh
  refine wpAt_of_wpAny (wpAny_mono (ht.run [] s' (L2.start N (.ref a :: vs')) H _ J hq2) (fun fl s2 h2 => ?_) fun _ _ z => z.elim)
  have fin : ∀ {σ' : L2.St} {H' : Hp} {v : V} {u : Value}, L2.Inv (cxS P w K mg base N qual (C8.fnScope st) f cda cc A outer s H) [] σ' H' s2 → L2.RelV v u → Q v H' → CE outer P w H s Q u s2 := fun {σ' H' v u} J rv q => ⟨v, H', J.os, J.bare, J.base, J.hok, rv, q⟩
  cases fl with
  | next =>
    obtain ⟨_, _, J2, q2⟩ := h2
    exact fin (v := V.non) J2 rfl q2
  | ret u =>
    obtain ⟨_, _, _, J2, rv, q2⟩ := h2
    exact fin J2 rv q2
  | brk => exact h2.elim fun _ z => z.elim fun _ y => y.2.elim
  | cont => exact h2.elim fun _ z => z.elim fun _ y => y.2.elim
end
end RJ
end

section
set_option maxRecDepth 100000
set_option maxHeartbeats 2000000
namespace RJ
open PySem PySem.Spec PyProof.Rows L2

/-! ### defs that may raise -/
/-- what lets errors out -/
abbrev CXN (P : Program) (w : World) : CXT := L2N.CX P w
structure CalX (P : Program) (w : World) (K : PySem.W.Frag) (mg : Str → Option Value) (base : Heap) (k : Nat) (x : Str) (sp : Sp) : Prop where
  ex : ∃ (f : Addr) (fd : FuncData) (ps : List Str), FnOk P w K mg base (CXN P w) k f fd ps sp ∧ mg x = some (.ref f) ∧ PySem.W.keepIn K (.ref f) = true ∧ Binds K fd ps []
structure MetX (P : Program) (w : World) (K : PySem.W.Frag) (mg : Str → Option Value) (base : Heap) (k : Nat) (C : Addr) (m : Str) (sp : Sp) : Prop where
  ex : ∃ (f : Addr) (fd : FuncData) (ps : List Str), Cls K C ∧ Meth K C m f ∧ FnOk P w K mg base (CXN P w) k f fd ps sp ∧ Binds K fd ps []
section
variable {P : Program} {w : World} {K : PySem.W.Frag} {mg : Str → Option Value} {base : Heap}
theorem fnX {x qual : Str} {st : Stmt} {f : Addr} {fd : FuncData} {N ps : List Str} {k : Nat} {sp : Sp} (F : C8.Fun K x qual st f fd) (S : FnScope N ps (C8.fnScope st)) (len : ∀ vs H Q E, sp vs H Q E → vs.length = ps.length)
    (hb : ∀ (cdv : Value) (A : Around) (outer : List Env) (s : Shared) (H : Hp) (vs : List V) (Q : VK) (E : XK), Room k (A.deeper (envOfC qual (C8.fnScope st) s.heap.objs.size f cdv)) → sp vs H Q E →
      L2N.Takes (cxOf (CXN P w) P w K mg base N qual (C8.fnScope st) f cdv A outer s H E) (fun cls d _ H' => E cls d H') →
      ∃ t, PSs (cxOf (CXN P w) P w K mg base N qual (C8.fnScope st) f cdv A outer s H E) (C8.fnBody st) t ∧ t { nx := fun _ H' => Q .non H', rt := Q } (start N vs) H) : FnOk P w K mg base (CXN P w) (k + 1) f fd ps sp := by
  obtain ⟨oc, od, dV, kV, doc, pm, an, cdv, ct, osl, rfl, lk, hcd⟩ := F.ex
  exact fn_of lk hcd S len fun A outer s H vs Q E hr hsp => hb cdv A outer s H vs Q E hr hsp (L2N.takes_of rfl rfl rfl rfl)
end
section
variable {X : Cx} {k j : Nat} {C : Addr} {x m : Str} {sp : Sp} {p pos apos : Pos} {e o : Expr} {es : List Expr} {ta : TE} {t : TA} {W : WX}
theorem pe_cx (c : CalX X.prog X.w X.K X.mg X.base k x sp) (hr : Room j X.A) (hk : k ≤ j) (tk : L2N.Takes X W) (hg : Gl X x) (ha : PA X (e :: es) t)
    (hdb : (x == ("__debug__" : Str)) = false := by decide) (he : starEach (e :: es) X.env = (false, eval e X.env) :: starEach es X.env := by rfl) (hpl : (backTo pos (starEach es X.env)).any (·.1) = false := by rfl) :
    PE X (.Call (.Name x p) (e :: es) [] pos) (tCallS sp (WE W) t) := by
  obtain ⟨f, fd, ps, F, hm, kp, b⟩ := c.ex
  exact pe_callS F (hr.mono hk) hg hm kp b (L2N.passAt tk) ha hdb he hpl
/-- an error's class, whose __init__ keeps sp -/
structure ErrC (P : Program) (w : World) (K : PySem.W.Frag) (mg : Str → Option Value) (base : Heap) (x : Str) (C : Addr) (sp : Sp) : Prop where
  oex : OexC K C
  mgc : mg x = some (.ref C)
  ini : ∃ (f : Addr) (fd : FuncData) (ps : List Str), PySem.W.findIn K (.ref C) "__init__" = some (some (.ref f)) ∧ PySem.W.typeIn K (.ref f) = some (.type "function") ∧ FnOk P w K mg base C8.CX0 1 f fd ps sp ∧ Binds K fd ps []
/-- C(e, ..), an error over ValueError -/
theorem pmk_err {e : Expr} {es : List Expr} {ta : TA} (T : ErrC X.prog X.w X.K X.mg X.base x C sp) (hr : Room j X.A) (hj : 2 ≤ j) (hg : Gl X x) (ha : PA X (e :: es) ta)
    (hdb : (x == ("__debug__" : Str)) = false := by decide) (he : starEach (e :: es) X.env = (false, eval e X.env) :: starEach es X.env := by rfl) (hpl : (backTo pos (starEach es X.env)).any (·.1) = false := by rfl) :
    L2N.PMk X (.Call (.Name x p) (e :: es) [] pos) (tMkO C sp [] ta) := by
  intro pins s σ H Q I h
  obtain ⟨fI, fd, ps, iC, tI, F1, hb⟩ := T.ini
  obtain ⟨nm, q, N, bs, bm, sn, sub, ab, col, dd, k0, k1, k2, k3, k5, hC, hbm⟩ := T.oex.cls
  refine wpAny_Call_Name_kw (ld_glob I hg T.mgc (PySem.W.callWith_K (h₀ := X.base) I.ok.mod.kin T.oex.kC (thn (ha.run pos pins s σ H _ I h) fun us s1 hh => ?_) he hpl) hdb)
  obtain ⟨vs, H1, I1, r1, hz, q1⟩ := hh
  refine ⟨I1.kIn, (show wpAny _ _ (call (.ref C) us) _ _ _ from ?_)⟩
  obtain ⟨hp, g, dr, tk, os⟩ := s1
  have hsz : hp.objs.size ≤ hp.objs.size + 1 := by omega
  have hq := q1 _ (I1.hok.fresh hsz)
  have kk : ∀ b o, hp.get? b = some o → ((hp.push (PySem.W.kdv_tup us)).push (PySem.HandSPX.excO C hp.objs.size)).get? b = some o := fun b o z => Heap.get?_push_of_some _ (Heap.get?_push_of_some _ z)
  have hnew : ((hp.push (PySem.W.kdv_tup us)).push (PySem.HandSPX.excO C hp.objs.size)).get? (hp.objs.size + 1) = some (PySem.HandSPX.excO C hp.objs.size) := by heap_get
  have I2 : Inv X pins σ (upd H1 (hp.objs.size + 1) (exo (hp.objs.size + 1) C none)) ⟨_, g, dr, tk, os⟩ := I1.laid (t' := tk) (a := hp.objs.size + 1) (o := exo (hp.objs.size + 1) C none) (h' := (hp.push (PySem.W.kdv_tup us)).push (PySem.HandSPX.excO C hp.objs.size)) kk hsz (exo_ok hnew)
  have r2 : Vals (V.ref (hp.objs.size + 1) :: (vs ++ [])) (Value.ref (hp.objs.size + 1) :: us) := by rw [List.append_nil]; exact .cons rfl r1
  have hl : (Value.ref (hp.objs.size + 1) :: us).length = ps.length := by rw [← r2.length]; exact F1.len _ _ _ _ hq
  have hbb := hb _ (Value.ref (hp.objs.size + 1) :: us) I2.kIn (by rw [List.append_nil]; exact hl)
  rw [List.append_nil] at hbb
  have hus : us.length ≤ sizeLine := by rw [← Paired.length r1, sizeLine_eq]; omega
  have hr2 : Room (1 + 1) X.A := hr.mono hj
  refine wpAny_call (PySem.HandSPX.call_own F.excBase_ValueError (fun Y => PySem.HandSPX.refsVE_contains Y bm hbm) (I1.kIn _ _ hC) (PySem.W.looks_findIn I1.kIn iC) (fun self => PySem.W.bind_fn I1.kIn self tI) hus
    (codeAny_mono (F1.run _ X.stack _ _ ⟨Value.ref (hp.objs.size + 1) :: us, []⟩ (Value.ref (hp.objs.size + 1) :: us) _ _ (fun _ _ _ => False) (hr2.make C us []) (I2.env0.make C us []) hbb r2 hq) fun r s' hq' => ?_))
  cases r with
  | error er => exact hq'.elim
  | ok fl =>
    cases fl with
    | next => exact hq'.elim
    | brk => exact hq'.elim
    | cont => exact hq'.elim
    | ret u =>
      obtain ⟨v, H2, os2, bare2, un2, hok2, rv, ev, d, fs, ea, ed, hd1, q2⟩ := hq'
      subst ev
      obtain ⟨h2, g2, d2, t2, os'⟩ := s'
      obtain ⟨t0, G, J, kG, ge, hoe, na⟩ := mk_end0 (d2 := d2) (t2 := t2) I1 hsz kk un2 hok2 os2 bare2 ea ed hd1
      exact ⟨rv, _, _, _, ⟨G, g2, d2, t2, os'⟩, _, .ref C, some d, rfl, J, kG, ge, hoe, ⟨rfl, rfl, fun vs' z => by cases z; rfl⟩, rfl, rfl, na, rfl, bare2, raises_own T.oex.exC T.oex.tyC, q2⟩
theorem takes0 : L2N.Takes X (fun _ _ _ _ => False) := fun u s' ⟨_, _, _, _, _, _, _, _, _, _, _, _, _, _, _, _, z⟩ => z.elim
end

/-! ### isinstance of the caught error, its fields -/
/-- what an error's class must say -/
structure ErrI (K : PySem.W.Frag) (D : Addr) : Prop where
  cl : (PySem.W.clsIn K D).isSome = true
  hg : PySem.W.findIn K (.ref D) "__getattribute__" = some (some (.builtin "BaseException.__getattribute__"))
  hk : PySem.W.findIn K (.ref D) "__getattr__" = some none
  hs : PySem.W.subIn K (.ref D) (.type "BaseException") = some true
  ha : PySem.W.findIn K (.ref D) "__class__" = some (some (.builtin "object.__class__"))
  hn : PySem.W.specialIn K (.builtin "object.__class__") "__get__" = some (some (.builtin "getset_descriptor.__get__"))
  ht : PySem.W.takesIn K (.builtin "object.__class__") = some true
  hm : PySem.W.mroIn K D (.type "object") = some true
  hd : PySem.W.hasDictIn K D = true
theorem ErrI.xf {K : PySem.W.Frag} {D : Addr} (h : ErrI K D) : XfC K D := ⟨h.hg, h.hk, h.hs, h.hd⟩
def rIsD (K : PySem.W.Frag) (a : Addr) (cls : Value) (d : Option Addr) : List V → Hp → VK → Prop := fun xs H Q => ∃ (D dd : Addr) (fs : List (Str × V)) (c : V) (cv : Value) (b : Bool), cls = .ref D ∧ d = some dd ∧ ErrI K D ∧ H dd = some (.xd fs) ∧ xs = [.ref a, c] ∧ (∀ u, RelV c u → u = cv) ∧ PySem.W.kitOne K (.ref D) cv = some b ∧ Q (.bl b) H
theorem call_isD {X : Cx} {a : Addr} {oe : Obj} {cls : Value} {d : Option Addr} {pn : List (Addr × Obj)} (hz : Zc cls d oe) (hf : ∃ vs, oe.data = .fields vs) : CallR (X.suite a ((a, oe) :: pn)) (.builtin "isinstance") (rIsD X.K a cls d) := by
  intro pins s σ H xs us Q I r h
  obtain ⟨D, dd, fs, c, cv, b, rfl, rfl, T, ed, rfl, hcv, e, q⟩ := h
  cases r with
  | cons rx rr =>
    cases rr with
    | cons rt rr =>
      cases rr
      cases rx
      have ec := hcv _ rt
      subst ec
      obtain ⟨hget, _⟩ := I.pin (a, oe) (List.mem_append.mpr (.inl List.mem_cons_self))
      obtain ⟨vs, hv⟩ := hf
      have hx : ObjOk X.prog X.w H s.heap dd (.xd fs) := I.hok dd _ ed
      obtain ⟨mA, hns, _⟩ := hx
      obtain ⟨od, ho, _⟩ := lookIn_ns hns
      have J : PySem.W.InstAt s.heap a oe D (some od) := ⟨hget, hz.1, by unfold PySem.W.notCls; rw [hv] <;> rfl, by rw [hz.2]; exact ho⟩
      exact PySem.W.kia_one (PySem.W.kitx_exc T.cl T.hg T.hk T.hs T.ha T.hn T.ht T.hm) I.kIn J e (fun z => nomatch z) fun tk => ⟨.bl b, H, I.kept (t' := tk) fun _ _ z => z, rfl, q⟩
/-- .. both for a class of the program and a built-in one -/
theorem rel_ref {a : Addr} : ∀ u, RelV (.ref a) u → u = .ref a := fun _ h => h
theorem rel_ty {n : String} : ∀ u, RelV (.ty n) u → u = .type n := fun _ h => h

/-! ### defs called where an error is handled -/
structure CalH (P : Program) (w : World) (K : PySem.W.Frag) (mg : Str → Option Value) (base : Heap) (k : Nat) (x : Str) (sp : Sp) : Prop where
  ex : ∃ (f : Addr) (fd : FuncData) (ps : List Str), L2H.FnH P w K mg base C8.CX0 k f fd ps sp ∧ mg x = some (.ref f) ∧ PySem.W.keepIn K (.ref f) = true ∧ Binds K fd ps []
section
variable {P : Program} {w : World} {K : PySem.W.Frag} {mg : Str → Option Value} {base : Heap}
theorem fnH0 {x qual : Str} {st : Stmt} {f : Addr} {fd : FuncData} {N ps : List Str} {k : Nat} {sp : Sp} (F : C8.Fun K x qual st f fd) (S : FnScope N ps (C8.fnScope st)) (len : ∀ vs H Q E, sp vs H Q E → vs.length = ps.length)
    (hb : ∀ (cdv : Value) (A : Around) (outer : List Env) (s : Shared) (H : Hp) (vs : List V) (Q : VK) (E : XK) (p : Addr × Obj), L2H.RoomH k (A.deeper (envOfC qual (C8.fnScope st) s.heap.objs.size f cdv)) → sp vs H Q E →
      L2H.HotC (L2H.cxH C8.CX0 P w K mg base N qual (C8.fnScope st) f cdv A outer s H E p).nox →
      ∃ t, PSs (L2H.cxH C8.CX0 P w K mg base N qual (C8.fnScope st) f cdv A outer s H E p).nox (C8.fnBody st) t ∧ t { nx := fun _ H' => Q .non H', rt := Q } (start N vs) H) : L2H.FnH P w K mg base C8.CX0 (k + 1) f fd ps sp := by
  obtain ⟨oc, od, dV, kV, doc, pm, an, cdv, ct, osl, rfl, lk, hcd⟩ := F.ex
  refine L2H.fn_ofH lk hcd S len fun A outer s H vs Q E p hot hr hsp => ?_
  obtain ⟨t, h, q⟩ := hb cdv A outer s H vs Q E p hr hsp ⟨p, hot, List.mem_singleton.mpr rfl⟩
  exact ⟨t, h.nox, q⟩
end
section
variable {X : Cx} {k j : Nat} {x : Str} {sp : Sp} {p pos : Pos} {e : Expr} {es : List Expr} {t : TA}
theorem pe_ch (c : CalH X.prog X.w X.K X.mg X.base k x sp) (hr : L2H.RoomH j X.A) (hk : k ≤ j) (hc : L2H.HotC X) (hg : Gl X x) (ha : PA X (e :: es) t)
    (hdb : (x == ("__debug__" : Str)) = false := by decide) (he : starEach (e :: es) X.env = (false, eval e X.env) :: starEach es X.env := by rfl) (hpl : (backTo pos (starEach es X.env)).any (·.1) = false := by rfl) :
    PE X (.Call (.Name x p) (e :: es) [] pos) (tCallS sp (fun _ => C8.E0) t) := by
  obtain ⟨f, fd, ps, F, hm, kp, b⟩ := c.ex
  exact L2H.pe_callH F (hr.mono hk) hc hg hm kp b (fun σ pins H s e s' I z => z.elim) ha hdb he hpl
theorem hotS {a : Addr} {oe : Obj} {cls : Value} {d : Option Addr} {pn : List (Addr × Obj)} (hz : L2N.Zn cls d oe) (hf : ∃ vs, oe.data = .fields vs) : L2H.HotC (X.suite a ((a, oe) :: pn)) := by
  obtain ⟨vs, hv⟩ := hf
  exact ⟨(a, oe), ⟨rfl, vs, hv, hz.2.2 vs hv⟩, List.mem_cons_self⟩
theorem roomS {a : Addr} {pn : List (Addr × Obj)} (hr : Room j X.A) : L2H.RoomH j (X.suite a pn).A := ⟨hr.dp, hr.un⟩
end
end RJ
end

section
set_option maxRecDepth 100000
set_option maxHeartbeats 2000000
namespace RJ
open PySem PySem.Spec PyProof.Rows L2
section
variable {P : Program} {w : World} {K : PySem.W.Frag} {mg : Str → Option Value} {base : Heap} {CX : CXT} {k : Nat} {f : Addr} {fd : FuncData} {ps : List Str} {sp sp' : Sp}
/-- a def that raises nothing, where errors are let out -/
theorem FnOk.lift (F : FnOk P w K mg base C8.CX0 k f fd ps sp) : FnOk P w K mg base CX k f fd ps sp :=
  ⟨F.len, fun A outer s H args us vs Q E hr e0 hb r h => codeAny_mono (F.run A outer s H args us vs Q E hr e0 hb r h) fun r s' hq => by
    cases r with
    | error e => exact hq.elim
    | ok fl => cases fl <;> exact hq⟩
/-- two promises of one def -/
theorem FnOk.or (F : FnOk P w K mg base CX k f fd ps sp) (G : FnOk P w K mg base CX k f fd ps sp') : FnOk P w K mg base CX k f fd ps (fun vs H Q E => sp vs H Q E ∨ sp' vs H Q E) :=
  ⟨fun vs H Q E h => h.elim (F.len vs H Q E) (G.len vs H Q E), fun A outer s H args us vs Q E hr e0 hb r h => h.elim (F.run A outer s H args us vs Q E hr e0 hb r) (G.run A outer s H args us vs Q E hr e0 hb r)⟩
end
/-- a class that is made by its name, whose __init__ may raise -/
structure MakX (P : Program) (w : World) (K : PySem.W.Frag) (mg : Str → Option Value) (base : Heap) (k : Nat) (x : Str) (C : Addr) (sp : Sp) : Prop where
  ex : ∃ (f : Addr) (fd : FuncData) (ps : List Str), Mk K C f ∧ FnOk P w K mg base (CXN P w) k f fd ps sp ∧ mg x = some (.ref C) ∧ Binds K fd ps []
section
variable {X : Cx} {k j : Nat} {C f : Addr} {fd : FuncData} {ps : List Str} {x : Str} {sp : Sp} {p pos : Pos} {e : Expr} {es : List Expr} {t : TA} {W : WX}
def tMakeS (C : Addr) (sp : Sp) (E : L2.St → XK) (t : TA) : TE := fun σ H Q => t σ H fun vs H1 => ∀ x dx, H1 x = none → H1 dx = none → dx ≠ x → sp (.ref x :: vs) (upd (upd H1 dx (.own x)) x (.ins C dx [])) (fun v H2 => v = .non ∧ Q (.ref x) H2) (E σ)
theorem run_makeS {pins : List (Addr × Obj)} {σ : L2.St} {H : Hp} {s : Shared} {Q : VK} {us : List Value} {vs : List V} {E : L2.St → XK} (M : Mk X.K C f) (F : FnOk X.prog X.w X.K X.mg X.base (CXN X.prog X.w) k f fd ps sp) (hr : Room (k + 1) X.A) (hb : Binds X.K fd ps [])
    (hx : PassesAt (CXN X.prog X.w) X σ (E σ)) (I : Inv X pins σ H s) (r : Vals vs us)
    (h : ∀ x dx, H x = none → H dx = none → dx ≠ x → sp (.ref x :: vs) (upd (upd H dx (.own x)) x (.ins C dx [])) (fun v H2 => v = .non ∧ Q (.ref x) H2) (E σ)) :
    wpAny (model X.prog X.w) X.A (call (.ref C) us) (EP X pins σ Q) X.xe s := by
  have hq := h (s.heap.objs.size + 1) s.heap.objs.size (I.hok.fresh (Nat.le_succ _)) (I.hok.fresh (Nat.le_refl _)) (Nat.ne_of_lt (Nat.lt_succ_self _))
  have I2 := Inv.made (C := C) I
  have r2 : Vals (V.ref (s.heap.objs.size + 1) :: vs) (Value.ref (s.heap.objs.size + 1) :: us) := .cons rfl r
  have hl : (Value.ref (s.heap.objs.size + 1) :: us).length = ps.length := by rw [← r2.length]; exact F.len _ _ _ _ hq
  have hbb := hb _ (Value.ref (s.heap.objs.size + 1) :: us) I2.kIn (by rw [List.append_nil]; exact hl)
  rw [List.append_nil] at hbb
  refine wpAny_call (make_map (f := f) I.kIn M.makes M.init (beq_iff_eq.mp M.fn) (codeAny_mono (F.run _ X.stack _ _ ⟨Value.ref (s.heap.objs.size + 1) :: us, []⟩ (Value.ref (s.heap.objs.size + 1) :: us) _ _ (E σ) (hr.make C us []) (I2.env0.make C us []) hbb r2 hq) fun r s' hq' => ?_))
  cases r with
  | error e => exact hx pins _ _ e s' I2 hq'
  | ok fl =>
    cases fl with
    | next => exact hq'.elim
    | brk => exact hq'.elim
    | cont => exact hq'.elim
    | ret u =>
      obtain ⟨v, H', I3, rv, ev, q3⟩ := I2.after hq'
      subst ev
      exact ⟨rv, ⟨V.ref (s.heap.objs.size + 1), H', I3, rfl, q3⟩⟩
theorem pe_makeS (c : MakX X.prog X.w X.K X.mg X.base k x C sp) (hr : Room j X.A) (hk : k + 1 ≤ j) (tk : L2N.Takes X W) (hg : Gl X x) (ha : PA X (e :: es) t)
    (hdb : (x == ("__debug__" : Str)) = false := by decide) (he : starEach (e :: es) X.env = (false, eval e X.env) :: starEach es X.env := by rfl) (hpl : (backTo pos (starEach es X.env)).any (·.1) = false := by rfl) :
    PE X (.Call (.Name x p) (e :: es) [] pos) (tMakeS C sp (WE W) t) := by
  obtain ⟨f, fd, ps, M, F, hm, b⟩ := c.ex
  refine ⟨fun pins s σ H Q I h => wpAny_Call_Name_kw (ld_glob I hg hm (PySem.W.callWith_K (h₀ := X.base) I.ok.mod.kin M.kp (thn (ha.run pos pins s σ H _ I h) fun us s1 hh => ?_) he hpl) hdb)⟩
  obtain ⟨vs, H1, I1, r, q⟩ := hh
  exact ⟨I1.kIn, run_makeS M F (hr.mono hk) b (L2N.passAt tk σ) I1 r q⟩
end
/-- isinstance of the caught error against a tuple of classes -/
def rIsDT (K : PySem.W.Frag) (a : Addr) (cls : Value) (d : Option Addr) : List V → Hp → VK → Prop := fun xs H Q => ∃ (D dd tp : Addr) (fs : List (Str × V)) (cs : List V) (ws : List Value) (b : Bool), cls = .ref D ∧ d = some dd ∧ ErrI K D ∧ H dd = some (.xd fs) ∧ xs = [.ref a, .ref tp] ∧ H tp = some (.tup cs) ∧ (∀ us, Vals cs us → us = ws) ∧ PySem.W.kitAny K (.ref D) ws = some b ∧ Q (.bl b) H
theorem call_isDT {X : Cx} {a : Addr} {oe : Obj} {cls : Value} {d : Option Addr} {pn : List (Addr × Obj)} (hz : Zc cls d oe) (hf : ∃ vs, oe.data = .fields vs) : CallR (X.suite a ((a, oe) :: pn)) (.builtin "isinstance") (rIsDT X.K a cls d) := by
  intro pins s σ H xs us Q I r h
  obtain ⟨D, dd, tp, fs, cs, ws, b, rfl, rfl, T, ed, rfl, htp, hws, e, q⟩ := h
  obtain ⟨u1, u2, rfl, r1, r2⟩ := vals2 r
  cases (show u1 = Value.ref a from r1)
  cases (show u2 = Value.ref tp from r2)
  obtain ⟨hget, _⟩ := I.pin (a, oe) (List.mem_append.mpr (.inl List.mem_cons_self))
  obtain ⟨vs, hv⟩ := hf
  have hx : ObjOk X.prog X.w H s.heap dd (.xd fs) := I.hok dd _ ed
  obtain ⟨mA, hns, _⟩ := hx
  obtain ⟨od, ho, _⟩ := lookIn_ns hns
  have J : PySem.W.InstAt s.heap a oe D (some od) := ⟨hget, hz.1, by unfold PySem.W.notCls; rw [hv] <;> rfl, by rw [hz.2]; exact ho⟩
  have hT : ObjOk X.prog X.w H s.heap tp (.tup cs) := I.hok tp _ htp
  obtain ⟨_, its, rv, o, g1, g2, n, g3⟩ := hT
  have e3 := hws its rv
  subst e3
  obtain ⟨oc, od2, dt, sl⟩ := o
  simp only at g2 g3
  subst g2 g3
  exact PySem.W.kia_tup (PySem.W.kitx_exc T.cl T.hg T.hk T.hs T.ha T.hn T.ht T.hm) I.kIn J g1 e (fun z => nomatch z) fun tk => ⟨.bl b, H, I.kept (t' := tk) fun _ _ z => z, rfl, q⟩
theorem vals_refs : ∀ {as : List Addr} {us : List Value}, Vals (as.map V.ref) us → us = as.map Value.ref
  | [], _, .nil => rfl
  | a :: as, _, .cons r t => by rw [vals_refs t, show _ = Value.ref a from r]; rfl
end RJ
end

section
set_option maxRecDepth 100000
set_option maxHeartbeats 2000000
namespace RJ
open PySem PySem.Spec PyProof.Rows L2
/-! ### methods that may raise -/
def tMethX (C : Addr) (m : Str) (sp : Sp) (E : L2.St → XK) (ta : TE) (t : TA) : TE := fun σ H Q => ta σ H fun x H1 => ∃ a dx fs, x = .ref a ∧ H1 a = some (.ins C dx fs) ∧ fs.lookup m = none ∧ t σ H1 fun vs H2 => sp (x :: vs) H2 Q (E σ)
section
variable {X : Cx} {k j : Nat} {C : Addr} {m : Str} {sp : Sp} {p pos apos : Pos} {e o : Expr} {es : List Expr} {ta : TE} {t : TA} {W : WX}
theorem pe_mx {pl : Sem Bool} (c : MetX X.prog X.w X.K X.mg X.base k C m sp) (hr : Room j X.A) (hk : k ≤ j) (tk : L2N.Takes X W) (he : PE X o ta) (ha : PA X (e :: es) t)
    (hst : starEach (e :: es) X.env = (false, eval e X.env) :: starEach es X.env := by rfl) (hpl : (backTo pos (starEach es X.env)).any (·.1) = false := by rfl)
    (ht : eval (.Call (.Attribute o m apos) (e :: es) [] pos) X.env = (do
      let ov ← eval o X.env
      standAt apos.atName
      let (f, first) ← holding [ov] (getMethod ov m pl)
      callWith pos f first (backTo pos (starEach (e :: es) X.env)) (backToKw pos (keywordEach [] X.env))) := by rfl) :
    PE X (.Call (.Attribute o m apos) (e :: es) [] pos) (tMethX C m sp (WE W) ta t) := by
  obtain ⟨f, fd, ps, hc, hm, F, b⟩ := c.ex
  refine ⟨fun pins s σ H Q I h => ?_⟩
  refine PySem.W.methodCall_KW (pl := pl) (thn (he.run pins s σ H _ I h) fun u s1 ⟨x, H1, I1, rx, a, dx, fs, ex, ea, l, q⟩ => ?_) ht
  subst ex
  obtain rfl : u = Value.ref a := rx
  refine getmeth_ok I1 ea hc hm l ?_
  refine PySem.W.callWith_K (first := [.ref a]) (h₀ := X.base) I.ok.mod.kin hm.kp (thn (ha.run pos pins s1 σ H1 _ I1 q) fun us s2 ⟨vs, H2, I2, r, q2⟩ => ⟨I2.kIn, ?_⟩) hst hpl
  exact run_fnS (us := .ref a :: us) (vs := .ref a :: vs) F (hr.mono hk) b (L2N.passAt tk σ) I2 (.cons rfl r) q2
end
end RJ
end

section
set_option maxRecDepth 100000
set_option maxHeartbeats 2000000
namespace RJ
open PySem PySem.Spec PyProof.Rows L2
/-! ### comprehensions whose elements may raise -/
/-- what is due when the block of a comprehension with the frame ce has run -/
def postX (M : Model) (A : Around) (E : Value → Shared → Prop) (use : Option (Value → Sem Unit)) (Q : Value → Shared → Prop) (acc : Value) (ce : Env) (r : Result) (s' : Shared) : Prop :=
  match r with
  | .ok f => compPost M A E use Q acc ce.locals (.ok f) s'
  | .error x => ∃ m, s'.heap.Ns ce.locals m ∧ ∀ h', Heap.SameBut ce.locals s'.heap h' → wpAny M A (passOn "comprehension.variables-let-go" x ce : Sem Value) (fun _ _ => False) E { s' with heap := h' }
theorem noteFrame_eq {x : Value} {e1 e2 : Env} (h : e1.frame = e2.frame) : noteFrame x e1 = noteFrame x e2 := by
  unfold noteFrame PySem.frameOf
  rw [h]
theorem passOn_eq {α : Type} {w : String} {x : Value} {e1 e2 : Env} (h : e1.frame = e2.frame) : (passOn w x e1 : Sem α) = passOn w x e2 := by
  unfold PySem.passOn
  rw [h]
section
variable {M : Model} {A : Around} {E : Value → Shared → Prop} {s : Shared} {env : Env}
theorem comp_run {e : Expr} {scope : Scope} {pos : Pos} {newAcc first : Sem Value} {g : Comprehension} {gs : List Comprehension} {cl : List (Str × Addr)} {use : Option (Value → Sem Unit)} {Q : Value → Shared → Prop}
    (hcl : clausesOf e = g :: gs) (hs : ∀ x, foldedSetIterable g.iter env x = pure x) (hclos : closureFor scope env = pure cl) (hkind : scope.kind = .function)
    (hnames : ∀ x ∈ scope.names, x.2 = .local → scope.names.lookup x.1 = some .local)
    (h : wpAny M A first (fun x s₁ => wpAny M A (pyIter x) (fun it s₂ => wpAny M A newAcc (fun acc s₃ =>
      wpAny M A (newFunctionEnv scope env.globals cl [] env.qual none .none (some env)) (fun cenv s₄ =>
        codeAny M A (.compStart e 0 it acc { cenv with scope := relabel scope env }) (postX M A E use Q acc { cenv with scope := relabel scope env }) s₄) E s₃) E s₂) E s₁) E s) :
    wpAny M A (comprehension e scope env pos newAcc false first use) Q E s := by
  have err : ∀ {α : Type} {t : Sem α} {P P' : α → Shared → Prop} {s : Shared}, wpAny M A t P E s → (∀ a s, P a s → P' a s) → wpAny M A t P' E s := fun x y => wpAny_mono x y fun _ _ z => z
  unfold comprehension
  rw [hclos, hcl]
  refine wpAny_bind (err h fun x s₁ h₁ => wpAny_bind (wpAny_standAt (wpAny_bind (wpAny_of_eq (hs x) (wpAny_bind (wpAny_holding (err h₁ fun it s₂ h₂ => ?_)))))))
  refine wpAny_standIf (wpAny_bind (err h₂ fun acc s₃ h₃ => wpAny_bind (wpAny_pure (wpAny_bind (err h₃ fun cenv s₄ h₄ => ?_)))))
  dsimp only
  have loc : ∀ x ∈ (scope.names.filter fun x => (x.2 == .local || x.2 == .cell) && x.1 != (".0" : Str)).reverse, x.2 = .local →
      Env.kindOf { cenv with scope := relabel scope env } x.1 = some .local := fun x hx hl => lookup_relabel_local (hnames x (List.mem_filter.mp (List.mem_reverse.mp hx)).1 hl)
  have loc' : ∀ x ∈ (scope.names.filter fun x => (x.2 == .local || x.2 == .cell) && x.1 != (".0" : Str)).reverse.drop 1 ++ (scope.names.filter fun x => (x.2 == .local || x.2 == .cell) && x.1 != (".0" : Str)).reverse.take 1,
      x.2 = .local → Env.kindOf { cenv with scope := relabel scope env } x.1 = some .local := fun x hx => (List.mem_append.mp hx).elim (fun z => loc x (List.mem_of_mem_drop z)) fun z => loc x (List.mem_of_mem_take z)
  refine wpAny_holding (wpAny_bind (wpAny_attempt (wpAny_holding (wpAny_run (codeAny_mono h₄ fun r s' hr => ?_)))))
  cases r with
  | error x =>
    obtain ⟨m, hn, k⟩ := hr
    exact wpAny_bind (wpAny_holding (wpAny_comp_letGo (cenv := { cenv with scope := relabel scope env }) hkind _ s' m loc hn fun h' _ _ sb => err (k h' sb) fun _ _ z => z.elim))
  | ok f =>
    cases use with
    | none =>
      obtain ⟨m, hn, k⟩ := hr
      exact wpAny_bind (wpAny_holding (wpAny_comp_letGo (cenv := { cenv with scope := relabel scope env }) hkind _ s' m loc hn fun h' _ _ sb => wpAny_pure (k h' sb)))
    | some u =>
      refine wpAny_bind (wpAny_rule (wpAny_bind (wpAny_holding (err hr fun _ s'' hr' => ?_))))
      obtain ⟨m, hn, k⟩ := hr'
      exact wpAny_bind (wpAny_comp_letGo (cenv := { cenv with scope := relabel scope env }) hkind _ s'' m loc' hn fun h' _ _ sb => wpAny_pure (k h' sb))
end

/-! ### an object of the block is let go -/
theorem hide_ne {h : Heap} {C b : Addr} {o : Obj} (e : (PySem.W.hideAll h [C]).get? b = some o) : b ≠ C ∧ h.get? b = some o := by
  refine ⟨fun z => ?_, PySem.W.of_hideAll _ e⟩
  rw [PySem.W.hideAll_none [C] (by simp [z])] at e
  cases e
theorem hide_get {h : Heap} {C b : Addr} {o : Obj} (e : h.get? b = some o) (n : b ≠ C) : (PySem.W.hideAll h [C]).get? b = some o := PySem.W.hideAll_get _ e (by simpa using n)
theorem hide_non {h : Heap} {C b : Addr} (e : h.get? b = none) : (PySem.W.hideAll h [C]).get? b = none := by
  cases q : (PySem.W.hideAll h [C]).get? b with
  | none => rfl
  | some o => rw [(hide_ne q).2] at e; cases e
theorem frames_hide {B h h' : Heap} {C : Addr} (k : ∀ b o, b ≠ C → h.get? b = some o → h'.get? b = some o) : ∀ {l : List Env}, h.FunFrames B l → C ∉ frs l → h'.FunFrames (PySem.W.hideAll B [C]) l
  | [], _, _ => trivial
  | env :: l, x, n => by
    obtain ⟨hk, ⟨L, o, hf, hn, ho, hd⟩, hr⟩ := x
    have m : ∀ b, b ∈ frs l → b ∈ frs (env :: l) := fun b hb => by
      obtain ⟨e, he, q⟩ := List.mem_filterMap.mp hb
      exact List.mem_filterMap.mpr ⟨e, List.mem_cons_of_mem _ he, q⟩
    exact ⟨hk, ⟨L, o, hf, hide_non hn, k L o (fun z => n (z ▸ List.mem_filterMap.mpr ⟨env, List.mem_cons_self, hf⟩)) ho, hd⟩, frames_hide k hr fun z => n (m C z)⟩
theorem held_hide {B h h' : Heap} {l : List Env} {a C L : Addr} {Z : Obj → Prop} {oC : Obj} (x : PySem.HandSPX.HeldZ B l a Z L h) (hC : B.get? C = some oC) (nC : C ∉ frs l) (k : ∀ b o, b ≠ C → h.get? b = some o → h'.get? b = some o) :
    PySem.HandSPX.HeldZ (PySem.W.hideAll B [C]) l a Z L h' := by
  obtain ⟨st, na, ff, oe, vs, T, oT, ts, he, hz, hd, h1, hnT, hTe, hT, hdT, h3⟩ := x
  have ne : ∀ {b : Addr}, B.get? b = none → b ≠ C := fun {b} e z => by rw [z, hC] at e; cases e
  exact ⟨fun b o e => k b o (hide_ne e).1 (st b o (hide_ne e).2), hide_non na, frames_hide k ff nC, oe, vs, T, oT, ts, k a oe (ne na) he, hz, hd, h1, hide_non hnT, hTe, k T oT (ne hnT) hT, hdT, h3⟩
theorem held_pass {M : Model} {A : Around} {E : Value → Shared → Prop} {s : Shared} {B : Heap} {l : List Env} {a L : Addr} {Z : Obj → Prop} {env : Env} {w : String} {Q : Value → Shared → Prop} (x : PySem.HandSPX.HeldZ B l a Z L s.heap) (hf : env.frame = some L)
    (hE : ∀ h', PySem.HandSPX.HeldZ B l a Z L h' → s.heap.UpToSlots h' → E (.ref a) { s with heap := h' }) : wpAny M A (passOn w (.ref a) env : Sem Value) Q E s := by
  obtain ⟨oe, vs, T, oT, ts, he, hz, hd, h1, hnT, hTe, hT, hdT, h3⟩ := x.2.2.2
  unfold PySem.passOn
  refine wpAny_bind (wpAny_field he hd h1 ?_)
  rw [if_neg (show ¬ ((Value.ref T == Value.none) = true) from by simp)]
  rw [hf]
  exact wpAny_bind (PySem.HandSPX.setFlight_onZ x fun h' hh up => wpAny_throw (hE h' hh up))
section
variable {X : Cx} {pins : List (Addr × Obj)} {σ : L2.St} {H : Hp} {s s' : Shared} {W : WX}
/-- an exception over a ground that keeps what is tracked is in our air -/
theorem xe_over (I : Inv X pins σ H s) {a : Addr} {B : Heap} {H' : Hp} {cls : Value} {d : Option Addr} (st : B.StaysIn s'.heap) (sk : L2.Sky B X.stack a (L2N.Zn cls d) X.env.locals s'.heap) (hok : HOk X.prog X.w H' B)
    (ub : UB (frs X.stack) H H' s.heap B s'.heap) (na : H' a = none) (os : s'.os = s.os) (ag : AllBare s'.gens) (w : W cls d σ H') : L2N.XE X W (.ref a) s' := by
  obtain ⟨G, g1, g2⟩ := restrict s'.heap fun b => (B.get? b).isSome || decide (b ∈ frs X.stack)
  have inB : ∀ b o, B.get? b = some o → G.get? b = some o := fun b o e => (g1 b (by simp [e])).trans (st b o e)
  have inF : ∀ b, b ∈ frs X.stack → G.get? b = s'.heap.get? b := fun b hb => g1 b (by simp [hb])
  have out : ∀ b o, G.get? b = some o → s'.heap.get? b = some o ∧ (b ∉ frs X.stack → B.get? b = some o) := fun b o e => by
    by_cases q : ((B.get? b).isSome || decide (b ∈ frs X.stack)) = true
    · rw [g1 b q] at e
      refine ⟨e, fun hb => ?_⟩
      have z : (B.get? b).isSome = true := by simpa [hb] using q
      obtain ⟨o', q'⟩ := Option.isSome_iff_exists.mp z
      rw [st b o' q'] at e
      cases e
      exact q'
    · rw [g2 b (by simpa using q)] at e
      cases e
  have slot : ∀ b o, s.heap.get? b = some o → b ∈ frs X.stack → ∃ sl, G.get? b = some { o with slots := sl } := fun b o e hb => by
    obtain ⟨sl, q⟩ := ub.slot b o e hb
    exact ⟨sl, (inF b hb).trans q⟩
  have J : Inv X pins σ H' { s with heap := G, gens := s'.gens, drawn := s'.drawn, toks := s'.toks } := I.call (ch := []) ⟨fun b o e n hb _ => inB b o (ub.keep b o e n hb), fun b o e _ hb _ => slot b o e hb, fun b o e n _ => ub.free b o e n, fun b o e _ => by
    by_cases hb : b ∈ frs X.stack
    · obtain ⟨sl, q⟩ := slot b o e hb
      exact ⟨_, q⟩
    · obtain ⟨o', q⟩ := ub.there b o e hb
      exact ⟨o', inB b o' q⟩, ub.tups, ub.frzs, ub.tbls⟩ (hok.kept inB) ag (fun _ z => nomatch z)
  exact ⟨a, B, _, pins, σ, H', cls, d, rfl, J, fun b o e hb => (out b o e).2 hb, Heap.UpToSlots.of_keeps fun b o e => (out b o e).1, sk, na, os, ag, w⟩
end
section
variable {X : Cx} {pins : List (Addr × Obj)} {σ : L2.St} {H3 : Hp} {s3 : Shared} {E : XK}
/-- what a call within a comprehension's block lets out goes out of the comprehension -/
theorem blk_out {scope : Scope} {ce : Env} {fp : List Addr} {xe : Value → Shared → Prop} {use : Option (Value → Sem Unit)} {Qf : Value → Shared → Prop} {acc : Value} (hs : X.stack = X.env :: X.outer) (hf : X.env.frame = some X.env.locals)
    (cf : ce.frame = X.env.frame) (cL : ce.locals = s3.heap.objs.size) (I3 : Inv X pins σ H3 s3) (ffp : ∀ b ∈ fp, FpOk X pins H3 b) (tk : L2N.Takes X (fun cls d _ H => E cls d H))
    (hxe : xe = notedBy (model X.prog X.w) X.A ce (fun e s' => postX (model X.prog X.w) X.A X.xe use Qf acc ce (.error e) s')) : ∀ σB : L2.St, PassesAt (CXN X.prog X.w) ((X.blk s3 H3 scope ce fp).tr [] xe) σB E := by
  intro σB pinsB H s u s' IB c
  obtain ⟨a, B, H', cls, d, rfl, fl, hok, ub, na, os, ag, hE⟩ := c
  obtain ⟨m, ⟨oC, es, ep, hoC, rC⟩, _⟩ := IB.loc
  have hoC : s.heap.get? ce.locals = some oC := hoC
  have nC : H ce.locals = none := IB.free
  have hfr : X.A.frames = some (X.env :: X.outer) := by rw [I3.ok.frames, hs]
  have nF : ce.locals ∉ frs X.stack := fun hm => by
    have z := I3.stkSub _ hm
    rw [cL] at z
    rcases List.mem_cons.mp z with z | z
    · exact absurd I3.lt (by rw [← z]; exact Nat.lt_irrefl _)
    · exact I3.nofs (Nat.le_refl _) z
  have kB : B.get? ce.locals = some oC := ub.keep _ oC hoC nC nF
  have nC' : H' ce.locals = none := ub.free _ oC hoC nC
  have J : Inv X pins σ H s := I3.call' (ch := fp) IB.os IB.base IB.hok IB.bare fun b hb => ⟨(ffp b hb).2.2.2.1, (ffp b hb).2.1, (ffp b hb).2.2.2.2.1, (ffp b hb).2.2.2.2.2⟩
  have fC : FpOk X pins H ce.locals := I3.fpOk (by rw [cL]; exact Nat.le_refl _) nC
  have JX : Inv X pins σ H { s with heap := PySem.W.hideAll s.heap [ce.locals] } := J.turned (t' := s.toks) (fun b o hb e => hide_get e hb) fC.1 fC.2.1 fC.2.2.2.1 fC.2.2.2.2.1 fC.2.2.2.2.2
  have flX : PySem.HandSPX.FlyingZ B (X.env :: X.outer) a (L2N.Zn cls d) s'.heap := by
    have z : PySem.HandSPX.FlyingZ B X.stack a (L2N.Zn cls d) s'.heap := fl
    rw [hs] at z
    exact z
  show xe (.ref a) s'
  rw [hxe]
  show wpAny (model X.prog X.w) X.A (noteFrame (.ref a) ce) _ _ s'
  rw [noteFrame_eq cf]
  refine PXN.looks_onZ L2N.Zn.steady hfr hf flX fun h1 hh1 up1 => ?_
  refine ⟨m, ⟨oC, es, ep, hh1.1 _ oC kB, rC⟩, fun h2 sb => ?_⟩
  have k12 : ∀ b o, b ≠ ce.locals → h1.get? b = some o → h2.get? b = some o := fun b o hb e => (sb.2 b hb).trans e
  have nF1 : ce.locals ∉ frs (X.env :: X.outer) := by rw [← hs]; exact nF
  refine held_pass (held_hide hh1 kB nF1 k12) (cf.trans hf) fun h3 hh3 up3 => ?_
  refine tk _ _ (xe_over JX (B := PySem.W.hideAll B [ce.locals]) hh3.1 (.inr (.inr (by rw [hs]; exact hh3))) (fun b u e => (hok b u e).stay (fun c v hc q => hide_get q fun z => ?_) (fun _ q => q) fun _ _ q => q)
    ⟨fun b o e n hb => hide_get (ub.keep b o (hide_ne e).2 n hb) (hide_ne e).1, fun b o e hb => ?_, fun b o e n => ub.free b o (hide_ne e).2 n, fun b o e hb => ?_, ub.tups, ub.frzs, ub.tbls⟩ na os ag hE)
  · rcases hc with hc | hc
    · rw [← hc, z, nC'] at e; cases e
    · rw [z, nC'] at hc; cases hc
  · obtain ⟨_, o₀, e₀, hnf⟩ := J.stack.mem hb
    rw [(hide_ne e).2] at e₀
    cases e₀
    obtain ⟨sl1, q1⟩ := ub.slot b o (hide_ne e).2 hb
    obtain ⟨sl2, q2⟩ := up1 b _ q1 hnf
    obtain ⟨sl3, q3⟩ := up3 b _ (k12 b _ (hide_ne e).1 q2) hnf
    exact ⟨sl3, q3⟩
  · obtain ⟨o', q⟩ := ub.there b o (hide_ne e).2 hb
    exact ⟨o', hide_get q (hide_ne e).1⟩
end
section
variable {X : Cx} {E : XK} {elt tg iter : Expr} {ifs : List Expr} {scope : Scope} {own : List (Str × Nat)} {pos pos' : Pos} {wi : TI} {g : TG} {tt : TT} {te : TE}
/-- a block whose iterator's objects have moved and whose locals are as before -/
structure Turns (X : Cx) (s3 : Shared) (H3 : Hp) (scope : Scope) (ce : Env) (fp : List Addr) (xe : Value → Shared → Prop) (τ : L2.St) (tn : Nat → Heap → Prop) (W : Nat → Nat → Hp → Prop) (n i : Nat) (H : Hp) (s : Shared) : Prop where
  inv : Inv ((X.blk s3 H3 scope ce fp).tr [] xe) [] τ H s
  at_ : tn i s.heap
  non : ∀ b ∈ fp, H b = none
  has : W i n H
theorem lc_coreX {pins : List (Addr × Obj)} {s : Shared} {σ : L2.St} {H : Hp} {Q : VK} {use : Option (Value → Sem Unit)} {Qf : Value → Shared → Prop} (hst : X.stack = X.env :: X.outer) (hf : X.env.frame = some X.env.locals) (tk : L2N.Takes X (fun cls d _ H => E cls d H))
    (hc : X.calm = true) (hN : X.N.Nodup) (I : Inv X pins σ H s) (hi : PI X tg iter wi) (ok : BlkOk X.N X.env.scope scope own)
    (hg : ∀ (s : Shared) (H : Hp) (C : Addr) (cl : List (Str × Addr)) (fp : List Addr) (xe : Value → Shared → Prop), PG ((X.blk s H scope (compEnvC scope cl C X.env) fp).tr [] xe) tg g)
    (ht : ∀ (s : Shared) (H : Hp) (C : Addr) (cl : List (Str × Addr)) (fp : List Addr) (xe : Value → Shared → Prop), (∀ σ : L2.St, PassesAt (CXN X.prog X.w) ((X.blk s H scope (compEnvC scope cl C X.env) fp).tr [] xe) σ E) →
      PTs ((X.blk s H scope (compEnvC scope cl C X.env) fp).tr [] xe) ifs tt)
    (he : ∀ (s : Shared) (H : Hp) (C : Addr) (cl : List (Str × Addr)) (fp : List Addr) (xe : Value → Shared → Prop), (∀ σ : L2.St, PassesAt (CXN X.prog X.w) ((X.blk s H scope (compEnvC scope cl C X.env) fp).tr [] xe) σ E) →
      PE ((X.blk s H scope (compEnvC scope cl C X.env) fp).tr [] xe) elt te)
    (hs : ∀ x, foldedSetIterable iter X.env x = pure x) (h : tLc wi g tt te (own.map (·.2)) σ H Q)
    (hRR : ∀ D C s' m H', Inv X pins σ H' s' → Q (.ref D) H' → s'.heap.Ns C m → FpOk X pins H' C → compPost (model X.prog X.w) X.A X.xe use Qf (.ref D) C (.ok .next) s') :
    wpAny (model X.prog X.w) X.A (comprehension (.ListComp elt [⟨tg, iter, ifs, 0⟩] scope pos) scope X.env pos' (newList []) false (eval iter X.env) use) Qf X.xe s := by
  have hfree : ∀ y ∈ scope.names, y.2 = .free → ∃ c, X.env.cells.lookup y.1 = some c := fun y hy e => I.ok.has _ (ok.free y hy e)
  refine comp_run (use := use) rfl hs (closure_ok hfree) ok.kind (fun y hy e => by rw [ok.uniq y hy, e]) (thn (hi.run pins s σ H _ I h) fun xv s1 hx => thn hx fun itv s2 h2 => ?_)
  obtain ⟨it, fp, tn, J, H2, e, I2, T, st2, f2, q⟩ := h2
  subst e
  refine wpAny_newObj_type (newEnv_comp ?_) (by show 0 ≤ sizeLine; decide)
  generalize hD : s2.heap.objs.size = D
  obtain ⟨W, ⟨m0, w0⟩, turn⟩ := q D (I2.hok.fresh (Nat.le_of_eq hD))
  generalize hs3 : ({ s2 with heap := s2.heap.push { cls := .type "list", data := .seq ([] : List Value).toArray } } : Shared) = s3
  have h3 : s3.heap = s2.heap.push { cls := .type "list", data := .seq ([] : List Value).toArray } := by rw [← hs3]
  have k23 : ∀ b o, s2.heap.get? b = some o → s3.heap.get? b = some o := fun b o e => by rw [h3]; exact Heap.get?_push_of_some _ e
  have I3 : Inv X pins σ (upd H2 D (.lst [])) s3 := by
    rw [← hs3]
    refine I2.laid (t' := s2.toks) (fun b o e => Heap.get?_push_of_some _ e) (Nat.le_of_eq hD) ⟨Nat.zero_le _, [], 0, .nil, ?_⟩
    rw [← hD]
    exact Heap.get?_push_size _ rfl
  have f3 : ∀ b ∈ fp, FpOk X pins (upd H2 D (.lst [])) b ∧ b < s3.heap.objs.size := fun b hb => by
    obtain ⟨o, e, _⟩ := T.obj _ _ st2 b hb
    have lt := Heap.lt_size e
    refine ⟨⟨?_, (f2 b hb).2⟩, Heap.lt_size (k23 b o e)⟩
    rw [upd_ne (by rw [← hD]; exact Nat.ne_of_lt lt)]
    exact (f2 b hb).1
  generalize hce : compEnvC scope (cellsFrom (s3.heap.objs.size + 1) scope.names (cloFrom X.env.cells scope.names [])) s3.heap.objs.size X.env = ce
  have cL : ce.locals = s3.heap.objs.size := by subst hce; rfl
  have cf : ce.frame = X.env.frame := by subst hce; rfl
  have I4 := block_start I3 ok hN f3
  rw [hce] at I4
  show codeAny _ _ (.compStart (.ListComp elt [⟨tg, iter, ifs, 0⟩] scope pos) 0 (.ref it) (.ref D) (compEnvC scope (cellsFrom (s3.heap.objs.size + 1) scope.names (cloFrom X.env.cells scope.names [])) s3.heap.objs.size X.env))
    (postX (model X.prog X.w) X.A X.xe use Qf (.ref D) (compEnvC scope (cellsFrom (s3.heap.objs.size + 1) scope.names (cloFrom X.env.cells scope.names [])) s3.heap.objs.size X.env)) { s3 with heap := pushCells (s3.heap.push { cls := .type "dict", data := .dict #[] }) scope.names }
  rw [hce]
  generalize hxe : notedBy (model X.prog X.w) X.A ce (fun e s' => postX (model X.prog X.w) X.A X.xe use Qf (.ref D) ce (.error e) s') = xe
  generalize hH3 : upd H2 D (.lst []) = H3 at I3 I4 w0 f3
  have pass := blk_out (scope := scope) (ce := ce) (fp := fp) (use := use) (Qf := Qf) (acc := .ref D) hst hf cf cL I3 (fun b hb => (f3 b hb).1) tk hxe.symm
  have pg := hg s3 H3 s3.heap.objs.size (cellsFrom (s3.heap.objs.size + 1) scope.names (cloFrom X.env.cells scope.names [])) fp xe
  have pt := ht s3 H3 s3.heap.objs.size (cellsFrom (s3.heap.objs.size + 1) scope.names (cloFrom X.env.cells scope.names [])) fp xe
  have pe := he s3 H3 s3.heap.objs.size (cellsFrom (s3.heap.objs.size + 1) scope.names (cloFrom X.env.cells scope.names [])) fp xe
  rw [hce] at pg pt pe
  have pe := pe pass
  have pt := pt pass
  have I5 : Inv ((X.blk s3 H3 scope ce fp).tr [] xe) [] (wipe σ (own.map (·.2))) H3 { s3 with heap := pushCells (s3.heap.push { cls := .type "dict", data := .dict #[] }) scope.names } := I4.toTry xe
  have st5 : tn 0 (pushCells (s3.heap.push { cls := .type "dict", data := .dict #[] }) scope.names) := T.keep _ _ _ st2 fun b _ o e => pushCells_keeps _ _ _ _ (Heap.get?_push_of_some _ (k23 b o e))
  have fps : ∀ {σ' : L2.St} {H' : Hp} {s' : Shared}, Inv ((X.blk s3 H3 scope ce fp).tr [] xe) [] σ' H' s' → (∀ b ∈ fp, H' b = none) → ∀ b ∈ fp, FpOk ((X.blk s3 H3 scope ce fp).tr [] xe) [] H' b := fun {σ' H' s'} I' hn b hb =>
    ⟨hn b hb, (I'.ok.exf b hb).1, I'.ok.exfs b hb, .inl hb, (I'.ok.exf b hb).2, fun p hp => absurd (show p ∈ ([] : List (Addr × Obj)) ++ [] from hp) (by simp)⟩
  have loop : codeAny (model X.prog X.w) X.A (.compLoop (.ListComp elt [⟨tg, iter, ifs, 0⟩] scope pos) 0 (.ref it) (.ref D) ce) (postX (model X.prog X.w) X.A X.xe use Qf (.ref D) ce)
      { s3 with heap := pushCells (s3.heap.push { cls := .type "dict", data := .dict #[] }) scope.names } := by
    refine compLoop_any (fun n s' => ∃ i H', Turns X s3 H3 scope ce fp xe (wipe σ (own.map (·.2))) tn W n i H' s') ?_ m0 ⟨0, H3, I5, st5, fun b hb => (f3 b hb).1.1, w0⟩
    rw [hxe]
    rintro n s6 ⟨i, H6, t6⟩
    rcases turn i n H6 t6.has with ⟨stop, qq⟩ | ⟨go, Nx, hNx, step⟩
    · refine thn (T.done ((X.blk s3 H3 scope ce fp).tr [] xe) rfl rfl rfl hc i [] s6 _ H6 xe t6.inv (fps t6.inv t6.non) t6.at_ stop) fun r s7 ⟨hr, I7⟩ => ?_
      subst hr
      have back : Inv X pins σ H6 s7 := I3.call' (ch := fp) I7.os I7.base I7.hok I7.bare fun b hb => ⟨(f3 b hb).1.2.2.2.1, (f3 b hb).1.2.1, (f3 b hb).1.2.2.2.2.1, (f3 b hb).1.2.2.2.2.2⟩
      obtain ⟨m, hn, _⟩ := I7.loc
      exact hRR D ce.locals s7 m H6 back qq hn (I3.fpOk (by rw [cL]; exact Nat.le_refl _) I7.free)
    · refine thn (T.item ((X.blk s3 H3 scope ce fp).tr [] xe) rfl rfl rfl hc i [] s6 _ H6 xe t6.inv (fps t6.inv t6.non) t6.at_ go) fun r s7 ⟨u, hr, h7⟩ => ?_
      subst hr
      refine thn h7 fun _ s8 ⟨x, H8, I8, r8, y8, st8, n8⟩ => ?_
      have I8' := I8.pinned (fps I8 n8) (T.obj _ _ st8)
      refine thn (pg.run _ s8 _ H8 x u _ I8' r8 (step x H8 y8)) fun _ s9 ⟨σ9, H9, I9, hw, q9⟩ => ?_
      refine thn (pt.run _ s9 σ9 H9 _ I9 q9) fun b s10 ⟨H10, I10, q10⟩ => ?_
      have next : ∀ {s' : Shared} {H' : Hp}, Inv ((X.blk s3 H3 scope ce fp).tr [] xe) ([] ++ pinsAt fp s8.heap) σ9 H' s' → Nx H' → ∃ m, m < n ∧ ∃ i H', Turns X s3 H3 scope ce fp xe (wipe σ (own.map (·.2))) tn W m i H' s' := fun {s' H'} I' nx => by
        obtain ⟨m', hm, w'⟩ := hNx H' nx
        have kept : ∀ b ∈ fp, ∀ o, s8.heap.get? b = some o → s'.heap.get? b = some o ∧ H' b = none := fun b hb o e =>
          have z := I'.pin (b, o) (List.mem_append_right _ (List.mem_append_right _ (mem_pinsAt hb e)))
          ⟨z.1, z.2.1⟩
        refine ⟨m', hm, i + 1, H', (I'.unpinned (pins := [])).weak (by rw [← hw, wipe_length]) (fun j v e => (wipe_some (by rw [hw]; exact e)).1), T.keep _ _ _ st8 fun b hb o e => (kept b hb o e).1, fun b hb => ?_, w'⟩
        obtain ⟨o, e, _⟩ := T.obj _ _ st8 b hb
        exact (kept b hb o e).2
      cases b with
      | false =>
        simp only [Bool.false_eq_true, if_false] at q10 ⊢
        exact next I10 q10
      | true =>
        simp only [if_true] at q10 ⊢
        refine thn (pe.run _ s10 σ9 H10 _ I10 q10) fun z s11 ⟨yv, H11, I11, r11, acc, hD11, hz, nx⟩ => ?_
        exact app_ok (X := (X.blk s3 H3 scope ce fp).tr [] xe) I11 hD11 hz r11 fun s12 I12 => next I12 nx
  exact codeAny_compStart_list loop (T.self X.A 0 _ _ _ st5 loop)
theorem pe_lcX (hst : X.stack = X.env :: X.outer) (hf : X.env.frame = some X.env.locals) (tk : L2N.Takes X (fun cls d _ H => E cls d H)) (hc : X.calm = true) (hN : X.N.Nodup) (hi : PI X tg iter wi) (ok : BlkOk X.N X.env.scope scope own)
    (hg : ∀ (s : Shared) (H : Hp) (C : Addr) (cl : List (Str × Addr)) (fp : List Addr) (xe : Value → Shared → Prop), PG ((X.blk s H scope (compEnvC scope cl C X.env) fp).tr [] xe) tg g)
    (ht : ∀ (s : Shared) (H : Hp) (C : Addr) (cl : List (Str × Addr)) (fp : List Addr) (xe : Value → Shared → Prop), (∀ σ : L2.St, PassesAt (CXN X.prog X.w) ((X.blk s H scope (compEnvC scope cl C X.env) fp).tr [] xe) σ E) →
      PTs ((X.blk s H scope (compEnvC scope cl C X.env) fp).tr [] xe) ifs tt)
    (he : ∀ (s : Shared) (H : Hp) (C : Addr) (cl : List (Str × Addr)) (fp : List Addr) (xe : Value → Shared → Prop), (∀ σ : L2.St, PassesAt (CXN X.prog X.w) ((X.blk s H scope (compEnvC scope cl C X.env) fp).tr [] xe) σ E) →
      PE ((X.blk s H scope (compEnvC scope cl C X.env) fp).tr [] xe) elt te)
    (hs : ∀ x, foldedSetIterable iter X.env x = pure x := by intro _; rfl) : PE X (.ListComp elt [⟨tg, iter, ifs, 0⟩] scope pos) (tLc wi g tt te (own.map (·.2))) := by
  refine ⟨fun pins s σ H Q I h => ?_⟩
  rw [eval_ListComp]
  refine lc_coreX hst hf tk hc hN I hi ok hg ht he hs h fun D C s' m H' J q hn f => ⟨m, hn, fun h' sb => ?_⟩
  exact ⟨.ref D, H', J.turned (t' := s'.toks) (fun b o hb e => (sb.2 b hb).trans e) f.1 f.2.1 f.2.2.2.1 f.2.2.2.2.1 f.2.2.2.2.2, rfl, q⟩
/-- name = [..] on one line, the name a local -/
theorem ps_setLcX {i : Nat} {y : Str} {py spos : Pos} (hst : X.stack = X.env :: X.outer) (hf : X.env.frame = some X.env.locals) (tk : L2N.Takes X (fun cls d _ H => E cls d H)) (hc : X.calm = true) (hN : X.N.Nodup) (hy : X.N[i]? = some y) (hyl : X.env.scope.names.lookup y = some .local)
    (hsw : swapsWith (.ListComp elt [⟨tg, iter, ifs, 0⟩] scope pos) (some (.Name y py)) spos.line X.env = pure true) (hi : PI X tg iter wi) (ok : BlkOk X.N X.env.scope scope own)
    (hg : ∀ (s : Shared) (H : Hp) (C : Addr) (cl : List (Str × Addr)) (fp : List Addr) (xe : Value → Shared → Prop), PG ((X.blk s H scope (compEnvC scope cl C X.env) fp).tr [] xe) tg g)
    (ht : ∀ (s : Shared) (H : Hp) (C : Addr) (cl : List (Str × Addr)) (fp : List Addr) (xe : Value → Shared → Prop), (∀ σ : L2.St, PassesAt (CXN X.prog X.w) ((X.blk s H scope (compEnvC scope cl C X.env) fp).tr [] xe) σ E) →
      PTs ((X.blk s H scope (compEnvC scope cl C X.env) fp).tr [] xe) ifs tt)
    (he : ∀ (s : Shared) (H : Hp) (C : Addr) (cl : List (Str × Addr)) (fp : List Addr) (xe : Value → Shared → Prop), (∀ σ : L2.St, PassesAt (CXN X.prog X.w) ((X.blk s H scope (compEnvC scope cl C X.env) fp).tr [] xe) σ E) →
      PE ((X.blk s H scope (compEnvC scope cl C X.env) fp).tr [] xe) elt te)
    (hs : ∀ x, foldedSetIterable iter X.env x = pure x := by intro _; rfl) : PS X (.Assign [.Name y py] (.ListComp elt [⟨tg, iter, ifs, 0⟩] scope pos) spos) (tAsg (tLc wi g tt te (own.map (·.2))) (gName i)) := by
  refine ⟨fun pins s σ H D I h => ?_⟩
  rw [exec_Assign_Name_used _ _ _ _ hsw]
  refine wpAny_bind (wpAny_standAt (wpAny_bind ?_))
  show wpAny _ X.A (do let _ ← comprehension (.ListComp elt [⟨tg, iter, ifs, 0⟩] scope pos) scope X.env (firstIterPos [⟨tg, iter, ifs, 0⟩] pos) (newList []) false (eval iter X.env) (some (assign (.Name y py) X.env))) _ _ s
  have h : tLc wi g tt te (own.map (·.2)) σ H (fun x H1 => gName i x σ H1 D.nx) := h
  refine wpAny_bind (thn (lc_coreX (Qf := fun _ s' => SP X pins D .next s') hst hf tk hc hN I hi ok hg ht he hs h fun L C s' m H' J q hn f => ?_) fun _ _ hq => wpAny_pure (wpAny_pure hq))
  show wpAny _ _ (assign (.Name y py) X.env (.ref L)) _ _ _
  refine wpAny_assign_Name (store_ok2 (v := V.ref L) J hN hy (.inl hyl) rfl (fun s2 J2 ⟨a, sb, ha⟩ => ?_) (.inr hyl))
  have away : C ≠ a := ha.elim (fun z => z ▸ f.2.1) fun z e => f.2.2.2.2.1 y a z e.symm
  exact ⟨m, hn.sameBut sb away, fun h' sb' => ⟨_, H', J2.turned (t' := s2.toks) (fun b o hb e => (sb'.2 b hb).trans e) f.1 f.2.1 f.2.2.2.1 f.2.2.2.2.1 f.2.2.2.2.2, q⟩⟩
end
/-! ### calls within such a block -/
section
variable {X : Cx} {E : XK} {k j : Nat} {C : Addr} {x m : Str} {sp : Sp} {p pos apos : Pos} {e o : Expr} {es : List Expr} {ta : TE} {t : TA}
theorem pe_cxB (c : CalX X.prog X.w X.K X.mg X.base k x sp) (hr : Room j X.A) (hk : k ≤ j) (hx : ∀ σ : L2.St, PassesAt (CXN X.prog X.w) X σ E) (hg : Gl X x) (ha : PA X (e :: es) t)
    (hdb : (x == ("__debug__" : Str)) = false := by decide) (he : starEach (e :: es) X.env = (false, eval e X.env) :: starEach es X.env := by rfl) (hpl : (backTo pos (starEach es X.env)).any (·.1) = false := by rfl) :
    PE X (.Call (.Name x p) (e :: es) [] pos) (tCallS sp (fun _ => E) t) := by
  obtain ⟨f, fd, ps, F, hm, kp, b⟩ := c.ex
  exact pe_callS F (hr.mono hk) hg hm kp b hx ha hdb he hpl
end
end RJ
end

section
set_option maxRecDepth 100000
set_option maxHeartbeats 2000000
namespace RJ
open PySem PySem.Spec PyProof.Rows L2
section
variable {X : Cx} {E : XK} {k j : Nat} {C : Addr} {m : Str} {sp : Sp} {p pos apos : Pos} {e o : Expr} {es : List Expr} {ta : TE} {t : TA}
/-- a method that may raise, within a comprehension's block -/
theorem pe_mxB {pl : Sem Bool} (c : MetX X.prog X.w X.K X.mg X.base k C m sp) (hr : Room j X.A) (hk : k ≤ j) (hx : ∀ σ : L2.St, PassesAt (CXN X.prog X.w) X σ E) (he : PE X o ta) (ha : PA X (e :: es) t)
    (hst : starEach (e :: es) X.env = (false, eval e X.env) :: starEach es X.env := by rfl) (hpl : (backTo pos (starEach es X.env)).any (·.1) = false := by rfl)
    (ht : eval (.Call (.Attribute o m apos) (e :: es) [] pos) X.env = (do
      let ov ← eval o X.env
      standAt apos.atName
      let (f, first) ← holding [ov] (getMethod ov m pl)
      callWith pos f first (backTo pos (starEach (e :: es) X.env)) (backToKw pos (keywordEach [] X.env))) := by rfl) :
    PE X (.Call (.Attribute o m apos) (e :: es) [] pos) (tMethX C m sp (fun _ => E) ta t) := by
  obtain ⟨f, fd, ps, hc, hm, F, b⟩ := c.ex
  refine ⟨fun pins s σ H Q I h => ?_⟩
  refine PySem.W.methodCall_KW (pl := pl) (thn (he.run pins s σ H _ I h) fun u s1 ⟨x, H1, I1, rx, a, dx, fs, ex, ea, l, q⟩ => ?_) ht
  subst ex
  obtain rfl : u = Value.ref a := rx
  refine getmeth_ok I1 ea hc hm l ?_
  refine PySem.W.callWith_K (first := [.ref a]) (h₀ := X.base) I.ok.mod.kin hm.kp (thn (ha.run pos pins s1 σ H1 _ I1 q) fun us s2 ⟨vs, H2, I2, r, q2⟩ => ⟨I2.kIn, ?_⟩) hst hpl
  exact run_fnS (E := fun _ => E) (us := .ref a :: us) (vs := .ref a :: vs) F (hr.mono hk) b (hx σ) I2 (.cons rfl r) q2
end
end RJ
end

section
set_option maxRecDepth 100000
set_option maxHeartbeats 4000000
namespace PySem
/-- enumerate(v), whatever the iterator of v is -/
theorem rj_new_en {prog : Program} {w : World} (v : Value) : MeetsIn prog w (Builtin.«enumerate.__new__» ⟨[.type "enumerate", v], []⟩)
    (fun A R s => wpAny (model prog w) A.in1 (pyIter v) (fun itv s1 => R (.ok (.ret (.ref s1.heap.objs.size))) { s1 with heap := s1.heap.push { cls := .type "enumerate", data := .fields #[.none, .bool false, itv, rawInt 0, .none, .none] } }) (fun e s1 => R (.error e) s1) s) :=
  .of_wp fun A R s h => by
    have sub := sub_enumerate
    have it : ∀ {Q : Value → Shared → Prop}, (∀ itv s1, R (.ok (.ret (.ref s1.heap.objs.size))) { s1 with heap := s1.heap.push { cls := .type "enumerate", data := .fields #[.none, .bool false, itv, rawInt 0, .none, .none] } } → Q itv s1) → wpAny (model prog w) A.in1 (pyIter v) Q (fun e s1 => R (.error e) s1) s := fun q => wpAny_mono h q fun _ _ z => z
    wp_walk using it
    refine wpAny_stack_any fun _ => wpAny_pure ?_
    split
    · rename_i c _ _ _ _ _
      cases (c == Value.type "enumerate") <;> (wp_walk using it; intro itv s1 hR; wp_walk; exact ⟨_, rfl, hR⟩)
    · wp_walk using it
      intro itv s1 hR
      wp_walk
      exact ⟨_, rfl, hR⟩
end PySem
namespace PySem
section
variable {prog : Program} {w : World} {A : Around} {E : Value → Shared → Prop} {s : Shared}
theorem rj_call_en {v : Value} {Q : Value → Shared → Prop}
    (hx : wpAny (model prog w) A.in1.in1 (pyIter v) (fun itv s1 => ∀ h', h'.get? s1.heap.objs.size = some { cls := .type "enumerate", data := .fields #[.none, .bool false, itv, rawInt 0, .none, .none] } → h'.objs.size = s1.heap.objs.size + 1 →
      (∀ c o, s1.heap.get? c = some o → h'.get? c = some o) → Q (.ref s1.heap.objs.size) { s1 with heap := h' }) E s) : wpAny (model prog w) A (call (.type "enumerate") [v]) Q E s := by
  refine callType_newIn F.called_enumerate (by decide) (F.typeCall_enumerate_1 v) (F.newCall_enumerate_1 v) (fun obj => F.args_object_init_2 obj _) F.entry_enumerate_new (rj_new_en v) ?_
  show wpAny (model prog w) A.in1.in1 (pyIter v) _ _ _
  refine wpAny_mono hx (fun itv s1 h => ?_) fun _ _ z => z
  have gm : (s1.heap.push { cls := .type "enumerate", data := .fields #[.none, .bool false, itv, rawInt 0, .none, .none] }).get? s1.heap.objs.size = some { cls := .type "enumerate", data := .fields #[.none, .bool false, itv, rawInt 0, .none, .none] } := Heap.get?_push_size _ rfl
  show _ ∧ _
  exact ⟨⟨_, gm, rfl⟩, h _ gm (Heap.size_push ..) fun c o e => Heap.get?_push_of_some _ e⟩
/-- a tuple's iterator that has ended -/
def EndedT (h : Heap) (a : Addr) (i : Nat) : Prop := ∃ o, h.get? a = some o ∧ o.cls = .type "tuple_iterator" ∧ o.data = .fields #[.none, .int i 0]
theorem rj_tuple_end {it t : Addr} {i : Nat} {items : Array Value} {Q : Value → Shared → Prop} (hh : A.handled = none) (hit : s.heap.IsTupleIter it t i) (ht : s.heap.IsTuple t items) (hx : items[i]? = none)
    (hE : ∀ h' e, Heap.ExtBut it s.heap h' → EndedT h' it i → (∃ o, h'.get? e = some o ∧ o.cls = .type "StopIteration") → E (.ref e) { s with heap := h' }) : wpAny (model prog w) A (Builtin.SmallTypes.nextOf (.ref it)) Q E s := by
  obtain ⟨o, ho, hc, hd⟩ := id hit
  obtain ⟨ol, hol, _, nl, hdl⟩ := ht
  unfold Builtin.SmallTypes.nextOf
  refine wpAny_bind (wpAny_callSpecial?_slot (name := Str.ofString "__next__") hit.typeIs F.slot_tuple_iterator_next
    (wpAny_call_entry F.slot_tuple_iterator_next hit.typeIs F.entry_tuple_iterator_next ?_ (F.args_tuple_iterator_next_1 _)))
  show wpAny _ _ (field (.ref it) 0 >>= _) _ _ s
  refine wpAny_bind (wpAny_field ho hd (x := .ref t) rfl ?_)
  show wpAny _ _ (if (Value.ref t == Value.none) = true then _ else _) _ _ s
  rw [if_neg (show ¬ ((Value.ref t == Value.none) = true) from Bool.false_ne_true)]
  show wpAny _ _ (field (.ref it) 1 >>= _) _ _ s
  refine wpAny_bind (wpAny_field ho hd (x := .int i 0) rfl ?_)
  show wpAny _ _ (seqItems? (.ref t) >>= _) _ _ s
  refine wpAny_bind (wpAny_seqItems hol hdl ?_)
  simp only [Int.toNat_natCast, hx]
  refine wpAny_bind (wpAny_rule (wpAny_bind (wpAny_setField ho hd (by simp) ?_)))
  show wpAny _ _ (newExc (.type "StopIteration") [] >>= _) _ _ _
  refine wpAny_bind ?_
  simp only [newExc, newTuple]
  refine wpAny_bind (wpAny_newObj_type ?_ (by size_fits))
  refine wpAny_bind (m := firstArgMember _ _) (wpAny_of_eq (a := Value.none) (by first | rfl | (simp only [firstArgMember]; rfl)) ?_)
  refine wpAny_newObj_type ?_ (by size_fits)
  simp only [raiseNew]
  refine wpAny_bind (wpAny_handled ?_)
  first | rw [show A.in1.handled = none from hh] | rw [hh]
  refine wpAny_bind (wpAny_pure (wpAny_throw ?_))
  exact hE _ _ (((Heap.SameBut.update ..).extBut.push _).push _) ⟨_, Heap.get?_push_of_some _ (Heap.get?_push_of_some _ (Heap.get?_update_self _ ho (Obj.isFreed_of_fields (Obj.data_mapFields hd _)))), (Obj.cls_mapFields ..).trans hc, by
    rw [Obj.data_mapFields hd]; simp⟩ ⟨_, Heap.get?_push_size _ rfl, rfl⟩
theorem rj_tuple_ended {it : Addr} {i : Nat} {Q : Value → Shared → Prop} (hh : A.handled = none) (hit : EndedT s.heap it i)
    (hE : ∀ h' e, (∀ b o, s.heap.get? b = some o → h'.get? b = some o) → (∃ o, h'.get? e = some o ∧ o.cls = .type "StopIteration") → E (.ref e) { s with heap := h' }) : wpAny (model prog w) A (Builtin.SmallTypes.nextOf (.ref it)) Q E s := by
  obtain ⟨o, ho, hc, hd⟩ := id hit
  have hT : s.TypeIs (.ref it) "tuple_iterator" := ⟨o, ho, hc⟩
  unfold Builtin.SmallTypes.nextOf
  refine wpAny_bind (wpAny_callSpecial?_slot (name := Str.ofString "__next__") hT F.slot_tuple_iterator_next
    (wpAny_call_entry F.slot_tuple_iterator_next hT F.entry_tuple_iterator_next ?_ (F.args_tuple_iterator_next_1 _)))
  show wpAny _ _ (field (.ref it) 0 >>= _) _ _ s
  refine wpAny_bind (wpAny_field ho hd (x := .none) rfl ?_)
  show wpAny _ _ (if (Value.none == Value.none) = true then _ else _) _ _ s
  rw [if_pos (show ((Value.none == Value.none) = true) from rfl)]
  refine wpAny_bind (wpAny_rule (wpAny_bind ?_))
  show wpAny _ _ (newExc (.type "StopIteration") [] >>= _) _ _ _
  refine wpAny_bind ?_
  simp only [newExc, newTuple]
  refine wpAny_bind (wpAny_newObj_type ?_ (by size_fits))
  refine wpAny_bind (m := firstArgMember _ _) (wpAny_of_eq (a := Value.none) (by first | rfl | (simp only [firstArgMember]; rfl)) ?_)
  refine wpAny_newObj_type ?_ (by size_fits)
  simp only [raiseNew]
  refine wpAny_bind (wpAny_handled ?_)
  first | rw [show A.in1.handled = none from hh] | rw [hh]
  refine wpAny_bind (wpAny_pure (wpAny_throw ?_))
  exact hE _ _ (fun b o e => Heap.get?_push_of_some _ (Heap.get?_push_of_some _ e)) ⟨_, Heap.get?_push_size _ rfl, rfl⟩
theorem rj_enum_end {e it : Addr} {i : Int} {old : Value} {G : Heap → Prop} {Q : Option Value → Shared → Prop} (he : IsEnum s.heap e it i old)
    (hn : ∀ (Q E : Value → Shared → Prop), (∀ h' x, G h' → (∃ o, h'.get? x = some o ∧ o.cls = .type "StopIteration") → E (.ref x) { s with heap := h' }) → wpAny (model prog w) A.in1 (Builtin.SmallTypes.nextOf (.ref it)) Q E s)
    (hQ : ∀ h', G h' → Q none { s with heap := h' }) : wpAny (model prog w) A (pyNext (.ref e)) Q E s := by
  have hT : s.TypeIs (.ref e) "enumerate" := ⟨_, he, rfl⟩
  unfold pyNext
  refine wpAny_bind (wpAny_attempt (wpAny_callSpecial?_slot (name := Str.ofString "__next__") hT F.slot_enumerate_next
    (wpAny_call_entry F.slot_enumerate_next hT F.entry_enumerate_next ?_ (F.args_enumerate_next_1 _))))
  show wpAny _ _ (field (.ref e) 2 >>= _) _ _ _
  refine wpAny_bind (wpAny_field he rfl (x := .ref it) rfl ?_)
  refine wpAny_bind (hn _ _ fun h' x he' hx' => ?_)
  obtain ⟨o, ho, hc⟩ := hx'
  refine wpAny_bind (wpAny_isInstance (T := "StopIteration") (b := true) ⟨o, ho, hc⟩ isSubtype_stop ?_)
  exact wpAny_pure (hQ _ he')
end
end PySem
namespace PySem
section
variable {prog : Program} {w : World} {A : Around} {E : Value → Shared → Prop} {s : Shared}
theorem rj_call_iterT {l : Addr} {items : Array Value} {Q : Value → Shared → Prop} (hl : s.heap.IsTuple l items) (h : Q (.ref s.heap.objs.size) { s with heap := s.heap.push { cls := .type "tuple_iterator", data := .fields #[.ref l, .int 0 0] } }) : wpAny (model prog w) A (call (.builtin "iter") [.ref l]) Q E s := by
  refine Calls.call_function_entry (by decide +kernel) (by decide +kernel) PySem.W.kdk_entry_iter (PySem.W.kdk_args_iter _) ?_
  unfold Builtin.«iter»
  refine wpAny_bind (m := someArgs "iter" 1 2 _) (wpAny_of_eq (a := [Value.ref l]) (by first | rfl | kernel_rfl!) ?_)
  show wpAny _ _ (pyIter (.ref l) >>= _) _ _ _
  refine wpAny_bind (wpAny_pyIter_tuple hl ?_)
  exact wpAny_pure ⟨_, rfl, h⟩
end
end PySem
namespace RJ
open PySem PySem.Spec PyProof.Rows L2
/-! ### the walk over an own object that gives a tuple's iterator, by enumerate -/
/-- an iterator of the tuple at t, of n items, that has given i -/
def TupI (it t : Addr) (n i : Nat) : HO := .ext fun h => h.IsTupleIter it t i ∨ (n ≤ i ∧ EndedT h it i)
theorem tupI_ok {P : Program} {w : World} {H : Hp} {h : Heap} {it t : Addr} {n i : Nat} (e : h.IsTupleIter it t i ∨ (n ≤ i ∧ EndedT h it i)) : ObjOk P w H h it (TupI it t n i) := by
  refine ⟨e, ?_, fun h1 h2 q k => ?_⟩
  · rcases e with ⟨o, ho, _⟩ | ⟨_, o, ho, _⟩
    · exact ⟨o, ho⟩
    · exact ⟨o, ho⟩
  · rcases q with ⟨o, ho, r⟩ | ⟨l, o, ho, r⟩
    · exact .inl ⟨o, k _ ho, r⟩
    · exact .inr ⟨l, o, k _ ho, r⟩
/-- iter(t), t a tuple -/
def rIterT : List V → Hp → VK → Prop := fun xs H Q => ∃ (l : Addr) (zs : List V), xs = [.ref l] ∧ H l = some (.tup zs) ∧ ∀ it, H it = none → Q (.ref it) (upd H it (TupI it l zs.length 0))
theorem call_iterT {X : Cx} : CallR X (.builtin "iter") rIterT := by
  intro pins s σ H xs us Q I r h
  obtain ⟨l, zs, rfl, hq, q⟩ := h
  obtain rfl := Vals.ref1 r
  obtain ⟨its, rv, pl, hz⟩ := I.tuple (SqT.of hq)
  refine rj_call_iterT pl ?_
  exact ⟨.ref s.heap.objs.size, _, I.laid (t' := s.toks) (fun b u e => Heap.get?_push_of_some _ e) (Nat.le_refl _) (tupI_ok (.inl ⟨_, Heap.get?_push_size _ rfl, rfl, rfl⟩)), rfl, q _ (I.hok.fresh (Nat.le_refl _))⟩
/-- each turn gives a new tuple (its number, the item) -/
def ItEO (it0 pa : Addr) (xs : List V) : It :=
  ⟨fun i H => H pa = some (.tup xs) ∧ H it0 = some (TupI it0 pa xs.length i) ∧ i < xs.length,
   fun i H v H' => ∃ T x, v = .ref T ∧ H T = none ∧ xs[i]? = some x ∧ H' = upd (upd H it0 (TupI it0 pa xs.length (i + 1))) T (.tup [.int (i : Nat), x]),
   fun i H => H pa = some (.tup xs) ∧ H it0 = some (TupI it0 pa xs.length i) ∧ i = xs.length⟩
def EnumO (e it0 : Addr) (i : Nat) (h : Heap) : Prop := (∃ old, IsEnum h e it0 ((i : Nat) : Int) old) ∧ e ≠ it0
theorem turn_enumO {P : Program} {w : World} {K : PySem.W.Frag} {elts : List Expr} {kk : Nat} {tpos : Pos} {e it0 pa : Addr} {xs : List V} : Turn P w K (.Tuple elts kk tpos) (ItEO it0 pa xs) [e] e (EnumO e it0) where
  mem := List.mem_cons_self ..
  obj := fun i h ⟨⟨_, a⟩, _⟩ b hb => by rw [List.mem_singleton.mp hb]; exact ⟨_, a, fun _ q => nomatch q⟩
  keep := fun i h h' ⟨⟨old, a⟩, n⟩ k => ⟨⟨old, k e (by simp) _ a⟩, n⟩
  item := by
    rintro X hP hw hK hc i pins s σ H E I hf ⟨⟨old, he⟩, hne⟩ ⟨hpa, hit, hlt⟩
    subst hP hw hK
    have hfe := hf e (by simp)
    have hne2 : pa ≠ it0 := fun z => by rw [z, hit] at hpa; cases hpa
    obtain ⟨its, rv, p, _⟩ := I.tuple (SqT.of hpa)
    have hl := rv.length
    have esz : its.toArray.size = xs.length := by simp [hl]
    have DD := Draws.tuple (prog := X.prog) (w := X.w) (A := X.A.in1) (I.ok.hd hc) it0 pa hne2 its.toArray
    rw [esz] at DD
    have hex : s.heap.IsTupleIter it0 pa i := by
      rcases (I.hok it0 _ hit).1 with q | ⟨q, _⟩
      · exact q
      · omega
    have apart : e ∉ [it0, pa] := fun z => by
      rcases List.mem_cons.mp z with z | z
      · exact hne z
      · rw [← List.mem_singleton.mp z, hfe.1] at hpa; cases hpa
    refine wpAny_pyNext_enum_itemC DD he ⟨hex, p⟩ hlt hne apart fun u h' tk hu ho j1 hT _ hk => ⟨_, rfl, ?_⟩
    obtain ⟨x, hx, ru⟩ : ∃ x, xs[i]? = some x ∧ RelV x u := by
      have q' : its[i]? = some u := by simpa using hu
      obtain ⟨u', hu', ru⟩ := rv.get (List.getElem?_eq_getElem hlt)
      rw [q'] at hu'
      cases hu'
      exact ⟨_, List.getElem?_eq_getElem hlt, ru⟩
    refine wpAny_letOwnedTupleGo_enum (s := { s with heap := h', toks := tk + 1 }) ho fun g zg sg => ?_
    have on : ∀ {c : Addr} {o : Obj}, c ≠ e → h'.get? c = some o → g.get? c = some o := fun n a => (sg.2 _ n).trans a
    have elt : e < s.heap.objs.size := Heap.lt_size he
    have ilt : it0 < s.heap.objs.size := by obtain ⟨o, ho, _⟩ := hex; exact Heap.lt_size ho
    have hgT := on (Nat.ne_of_gt elt) hT
    have hgi : g.IsTupleIter it0 pa (i + 1) := by
      obtain ⟨o, ho, r⟩ := j1.1
      exact ⟨o, on (Ne.symm hne) ho, r⟩
    have next : IsEnum g e it0 ((i + 1 : Nat) : Int) u := by rw [show ((i + 1 : Nat) : Int) = (i : Int) + 1 by omega]; exact zg
    have fT : H s.heap.objs.size = none := I.hok.fresh (Nat.le_refl _)
    have kk : ∀ b o, b ≠ e → b ≠ it0 → s.heap.get? b = some o → g.get? b = some o := fun b o h1 h2 q => on h1 (hk b o h1 h2 q)
    generalize hT0 : s.heap.objs.size = T at hgT fT
    have nT : ∀ b o, s.heap.get? b = some o → b ≠ T := fun b o q => by rw [← hT0]; exact Nat.ne_of_lt (Heap.lt_size q)
    obtain ⟨H2, hH2⟩ : ∃ H2, H2 = upd (upd H it0 (TupI it0 pa xs.length (i + 1))) T (.tup [.int (i : Nat), x]) := ⟨_, rfl⟩
    have h2T : H2 T = some (.tup [.int (i : Nat), x]) := by rw [hH2]; exact upd_same
    have h2i : H2 it0 = some (TupI it0 pa xs.length (i + 1)) := by rw [hH2, upd_ne (fun z => by rw [z, fT] at hit; cases hit)]; exact upd_same
    have h2o : ∀ b, b ≠ it0 → b ≠ T → H2 b = H b := fun b h1 h2 => by rw [hH2, upd_ne h2, upd_ne h1]
    have nob : ∀ b u, H b = some u → b ≠ T := fun b u q z => by rw [z, fT] at q; cases q
    have J : Inv X pins σ H2 { s with heap := g, gens := s.gens, drawn := s.drawn, toks := tk + 1 } := by
      refine I.call (ch := [e]) ⟨fun b o q n hb hc => ?_, fun b o q n hb hc => ?_, fun b o q n hc => ?_, fun b o q hc => ?_, fun b ys q => ?_, fun b o u q => ?_, fun b ps q => ?_⟩ (fun b u q => ?_) I.bare (fun b hb => ?_)
      · exact kk b o (fun z => hc (by simp [z])) (fun z => by rw [z, hit] at n; cases n) q
      · exact ⟨o.slots, kk b o (fun z => hc (by simp [z])) (fun z => by rw [z, hit] at n; cases n) q⟩
      · rw [h2o b (fun z => by rw [z, hit] at n; cases n) (nT b o q)]; exact n
      · by_cases z : b = it0
        · obtain ⟨o', q', _⟩ := hgi
          exact ⟨o', by rw [z]; exact q'⟩
        · exact ⟨o, kk b o (fun z => hc (by simp [z])) z q⟩
      · rw [h2o b (fun z => by rw [z, hit] at q; cases q) (nob b _ q)]; exact q
      · rw [h2o b (fun z => by rw [z, hit] at q; cases q) (nob b _ q)]; exact q
      · exact ⟨#[], by rw [h2o b (fun z => by rw [z, hit] at q; cases q) (nob b _ q), q]; simp⟩
      · by_cases z1 : b = T
        · subst z1
          rw [h2T] at q
          cases q
          exact ⟨by show 2 ≤ sizeLine; decide, [.int i tk, u], .cons ⟨_, rfl⟩ (.cons ru .nil), ⟨_, hgT, rfl, _, rfl⟩⟩
        · by_cases z2 : b = it0
          · subst z2
            rw [h2i] at q
            cases q
            exact tupI_ok (.inl hgi)
          · rw [h2o b z2 z1] at q
            refine (I.hok b u q).stay (fun c v hc q' => ?_) (fun c q' => ?_) fun c ys q' => ?_
            · rcases hc with hc | hc
              · subst hc
                exact kk c v (fun z => by rw [z, hfe.1] at q; cases q) z2 q'
              · exact kk c v (fun z => by rw [z, hfe.1] at hc; cases hc) (fun z => by rw [z, hit] at hc; cases hc) q'
            · rw [h2o c (fun z => by rw [z, hit] at q'; cases q') (nob c _ q')]; exact q'
            · rw [h2o c (fun z => by rw [z, hit] at q'; cases q') (nob c _ q')]; exact q'
      · rw [List.mem_singleton.mp hb]
        exact ⟨hfe.2.2.2.1, hfe.2.1, hfe.2.2.2.2.1, hfe.2.2.2.2.2⟩
    have hH3 : H2 e = none := by rw [h2o e hne (nT e _ he)]; exact hfe.1
    rw [hH2] at J hH3
    exact ⟨.ref T, _, J, rfl, ⟨T, x, rfl, fT, hx, rfl⟩, ⟨⟨u, next⟩, hne⟩, fun c hcm => by rw [List.mem_singleton.mp hcm]; exact hH3⟩
  done := by
    rintro X hP hw hK hc i pins s σ H E I hf ⟨⟨old, he⟩, hne⟩ ⟨hpa, hit, hge⟩
    subst hP hw hK
    have hfe := hf e (by simp)
    have hne2 : pa ≠ it0 := fun z => by rw [z, hit] at hpa; cases hpa
    obtain ⟨its, rv, p, _⟩ := I.tuple (SqT.of hpa)
    have hl := rv.length
    have back : ∀ h' : Heap, (∀ b o, b ≠ it0 → s.heap.get? b = some o → h'.get? b = some o) → EndedT h' it0 i → Inv X pins σ H { s with heap := h', gens := s.gens, drawn := s.drawn, toks := s.toks } := by
      intro h' kk en
      refine I.call (ch := []) ⟨fun b o q n hb _ => kk b o (fun z => by rw [z, hit] at n; cases n) q, fun b o q n hb _ => ⟨o.slots, kk b o (fun z => by rw [z, hit] at n; cases n) q⟩, fun b o q n _ => n, fun b o q _ => ?_, fun b ys q => q, fun b o u q => q, fun b ps q => ⟨#[], by rw [q]; simp⟩⟩ (fun b u q => ?_) I.bare (fun b hb => nomatch hb)
      · by_cases z : b = it0
        · obtain ⟨o', q', _⟩ := en
          exact ⟨o', by rw [z]; exact q'⟩
        · exact ⟨o, kk b o z q⟩
      · by_cases z2 : b = it0
        · subst z2
          rw [hit] at q
          cases q
          exact tupI_ok (.inr ⟨Nat.le_of_eq hge.symm, en⟩)
        · refine (I.hok b u q).stay (fun c v hc q' => ?_) (fun c q' => q') fun c ys q' => q'
          rcases hc with hc | hc
          · subst hc; exact kk c v z2 q'
          · exact kk c v (fun z => by rw [z, hit] at hc; cases hc) q'
    refine rj_enum_end (G := fun h' => (∀ b o, b ≠ it0 → s.heap.get? b = some o → h'.get? b = some o) ∧ EndedT h' it0 i) he (fun Q E hE => ?_) fun h' ⟨g1, g2⟩ => ⟨rfl, back h' g1 g2⟩
    rcases (I.hok it0 _ hit).1 with q | ⟨_, q⟩
    · exact rj_tuple_end (A := X.A.in1) (I.ok.hd hc) q p (by rw [List.getElem?_toArray]; exact List.getElem?_eq_none (by omega)) fun h' x eb en st => hE h' x ⟨fun b o nb qq => eb b o nb qq, en⟩ st
    · refine rj_tuple_ended (A := X.A.in1) (I.ok.hd hc) q fun h' x kk st => hE h' x ⟨fun b o _ qq => kk b o qq, ?_⟩ st
      obtain ⟨o, ho, r⟩ := q
      exact ⟨o, kk _ _ ho, r⟩
  self := fun A i s Q E st h => by
    obtain ⟨⟨_, he⟩, _⟩ := st
    exact wpAny_pyIter_enum he h
/-- enumerate(o), o an instance whose __iter__ gives a tuple's iterator -/
def iEnumO (C : Addr) (sp : Sp) (ta : TA) : TI := fun σ H R => ta σ H fun vs H1 => ∃ a dx fs, vs = [.ref a] ∧ H1 a = some (.ins C dx fs) ∧ sp [.ref a] H1 (fun v H2 => ∃ it0 pa xs, v = .ref it0 ∧ H2 it0 = some (TupI it0 pa xs.length 0) ∧ R (ItEO it0 pa xs) H2) C8.E0
theorem pi_enumO {X : Cx} {e : Expr} {ta : TA} {p pos tpos : Pos} {elts : List Expr} {kk k j : Nat} {C : Addr} {sp : Sp} (hg : Gl X "enumerate") (hm : X.mg "enumerate" = none) (c : C8.Met X.prog X.w X.K X.mg X.base k C "__iter__" sp []) (hr : Room j X.A) (hk : k + 2 ≤ j) (ha : PA X [e] ta) (hs : starEach [e] X.env = [(false, eval e X.env)] := by rfl) :
    PI X (.Tuple elts kk tpos) (.Call (.Name "enumerate" p) [e] [] pos) (iEnumO C sp ta) := by
  obtain ⟨f, fd, ps, ds, hc, hmt, F, b, d⟩ := c.ex
  cases d
  refine ⟨fun pins s σ H R I h => ?_⟩
  refine Call_ (ld_blt I hg hm boot_enumerate (PyProof.Rows.callWith_type1 (thn (ha.run pos pins s σ H _ I h) fun us s1 ⟨vs, H1, I1, r1, q1⟩ => ?_) hs rfl))
  obtain ⟨a, dx, fs, ex, ea, q⟩ := q1
  subst ex
  obtain rfl := Vals.ref1 r1
  refine rj_call_en ?_
  obtain ⟨mA, J, _⟩ := ins_get I1.hok ea
  obtain ⟨od, J, _⟩ := J.look
  obtain ⟨m, hF⟩ := I1.fr
  refine PySem.W.owit_iter hF I1.ok.mod.kin J hmt.at_ hmt.fn ?_
  have rm : Room k X.A.in1.in1 := (hr.mono hk).in1.in1
  have e0 : Env0 X.prog X.w X.K X.mg X.base X.A.in1.in1 X.stack s1 H1 := by
    have e := I1.env0
    exact ⟨e.frames, e.mod, e.bs, e.bsz, e.funs, e.frf, e.hok, e.bare⟩
  have hl := F.len _ _ _ _ q
  have r2 : Vals [V.ref a] [Value.ref a] := .cons rfl .nil
  refine wpAny_call (codeAny_mono (F.run X.A.in1.in1 X.stack s1 H1 ⟨[.ref a], []⟩ [.ref a] [.ref a] _ C8.E0 rm e0 (by
    have := b s1 [.ref a] I1.kIn (by simpa using hl)
    simpa using this) r2 q) fun r s' hq' => ?_)
  cases r with
  | error e => exact hq'.elim
  | ok fl =>
    cases fl with
    | next => exact False.elim hq'
    | brk => exact False.elim hq'
    | cont => exact False.elim hq'
    | ret u =>
      obtain ⟨v, H2, I2, rv, it0, pa, xs, ev, ei, hR⟩ := I1.after hq'
      subst ev
      cases rv
      have hT : s'.TypeIs (.ref it0) "tuple_iterator" := by
        rcases (I2.hok it0 _ ei).1 with ⟨o, ho, hc, _⟩ | ⟨_, o, ho, hc, _⟩
        · exact ⟨o, ho, hc⟩
        · exact ⟨o, ho, hc⟩
      unfold PySem.W.OwitIt
      refine wpAny_specialOf (name := Str.ofString "__next__") hT PySem.F.slot_tuple_iterator_next.lookup ?_
      intro h' he hsz hk'
      have he' : IsEnum h' s'.heap.objs.size it0 0 .none := he
      refine wpAny_pyIter_enum (s := { s' with heap := h' }) he' ?_
      have I3 : Inv X pins σ H2 { s' with heap := h' } := I2.kept (t' := s'.toks) hk'
      have ilt : it0 < s'.heap.objs.size := by obtain ⟨o, ho, _⟩ := hT; exact Heap.lt_size ho
      refine ⟨s'.heap.objs.size, [s'.heap.objs.size], _, _, H2, rfl, I3, turn_enumO, ⟨⟨.none, he'⟩, Nat.ne_of_gt ilt⟩, fun c hc => ?_, hR⟩
      rw [List.mem_singleton.mp hc]
      exact I2.fpOk (Nat.le_refl _) (I2.hok.fresh (Nat.le_refl _))
end RJ
end

section
set_option maxRecDepth 100000
set_option maxHeartbeats 4000000
namespace RJ
open PySem PySem.Spec PyProof.Rows L2
/-! ### a tuple whose object is known, and the dict of its pairs -/
def kTupF (K : PySem.W.Frag) (x : V) (H : Hp) (Q : VK) : Prop := ∃ p xs, x = .ref p ∧ SqL K H p xs ∧ ∀ (q : Addr) (o : Obj), H q = none → o.dict = none → Q (.ref q) (upd H q (.frz o (.tup xs)))
section
variable {X : Cx}
theorem rl_tupleF (pins : List (Addr × Obj)) (s : Shared) (σ : L2.St) (H : Hp) (x : V) (v : Value) (Q : VK) (I : Inv X pins σ H s) (r : RelV x v) (h : kTupF X.K x H Q) :
    wpAny (model X.prog X.w) X.A (call (.type "tuple") [v]) (EP X pins σ Q) X.xe s := by
  obtain ⟨p, xs, rfl, hs, q⟩ := h
  obtain rfl : v = .ref p := r
  obtain ⟨its, rv, pl, hz⟩ := I.list hs
  refine call_tuple_list pl.isList (fun h' hk => ?_) (by rw [List.size_toArray, ← rv.length]; exact hz)
  have I1 : Inv X pins σ H { s with heap := h' } := I.kept (t' := s.toks) hk
  have e0 : (h'.push { cls := .type "tuple", data := .seq its.toArray }).get? h'.objs.size = some { cls := .type "tuple", data := .seq its.toArray } := Heap.get?_push_size _ rfl
  have I2 : Inv X pins σ (upd H h'.objs.size (.frz { cls := .type "tuple", data := .seq its.toArray } (.tup xs))) { s with heap := h'.push { cls := .type "tuple", data := .seq its.toArray } } :=
    I1.laid (t' := s.toks) (fun b o e => Heap.get?_push_of_some _ e) (Nat.le_refl _) (show ObjOk X.prog X.w _ _ _ (.frz _ (.tup xs)) from ⟨e0, hz, its, rv, IsTup.new _ _⟩)
  exact ⟨.ref h'.objs.size, _, I2, rfl, q _ _ (I1.hok.fresh (Nat.le_refl _)) rfl⟩
theorem pe_tupleOfF {a : Expr} {ta : TE} {p pos : Pos} (hg : Gl X "tuple") (hm : X.mg "tuple" = none) (ha : PE X a ta) (na : starEach [a] X.env = (false, eval a X.env) :: starEach [] X.env := by rfl) :
    PE X (.Call (.Name "tuple" p) [a] [] pos) (tThen ta (kTupF X.K)) := by
  refine ⟨fun pins s σ H Q I h => ?_⟩
  exact Call_ (ld_blt I hg hm boot_tuple (PyProof.Rows.callWith_type1 (one_arg ha I h (fun v s2 x H2 I2 r q => rl_tupleF pins s2 σ H2 x v Q I2 r q) na) na))
theorem pairs_vals {pins : List (Addr × Obj)} {σ : L2.St} {H : Hp} {s : Shared} (I : Inv X pins σ H s) : ∀ {ps : List Addr} {kvs : List (Key × V)}, Paired (fun p kv => SqT X.K H p [kV kv.1, kv.2]) ps kvs →
    ∃ (prs : List (Key × Value)) (vps : List (Value × Value)), KV kvs prs ∧ prs.length = ps.length ∧ vps.length = ps.length ∧ ∀ (j : Nat) (q : Key × Value), prs[j]? = some q → ∃ (b : Addr) (u : Value), ps[j]? = some b ∧ vps[j]? = some (u, q.2) ∧ IsTup s.heap b #[u, q.2] ∧ (mixKind X.prog X.w).is q.1 u = true
  | _, _, .nil => ⟨[], [], .nil, rfl, rfl, fun j q e => by simp at e⟩
  | _, _, .cons (a := p) (b := kv) h t => by
    obtain ⟨prs, vps, r, hl, hl2, hp⟩ := pairs_vals I t
    obtain ⟨its, rv, ht, _⟩ := I.tuple h
    obtain ⟨u, y, ei, ru, ry⟩ := vals2 rv
    subst ei
    refine ⟨(kv.1, y) :: prs, (u, y) :: vps, .cons ⟨rfl, ry⟩ r, by rw [List.length_cons, List.length_cons, hl], by rw [List.length_cons, List.length_cons, hl2], fun j q e => ?_⟩
    cases j with
    | zero =>
      have e' : (kv.1, y) = q := Option.some.inj e
      subst e'
      exact ⟨p, u, rfl, rfl, ht, kV_is (P := X.prog) (w := X.w) ru⟩
    | succ j =>
      obtain ⟨b, u', e1, e2, e3, e4⟩ := hp j q (by simpa using e)
      exact ⟨b, u', by simpa using e1, by simpa using e2, e3, e4⟩
/-- dict(t), t a known tuple of pairs -/
def rDictT (K : PySem.W.Frag) : List V → Hp → VK → Prop := fun xs H Q => ∃ (a : Addr) (o : Obj) (ps : List Addr) (kvs : List (Key × V)), xs = [.ref a] ∧ H a = some (.frz o (.tup (ps.map V.ref))) ∧ o.dict = none ∧ Paired (fun p kv => SqT K H p [kV kv.1, kv.2]) ps kvs ∧
  ∀ p, H p = none → Q (.ref p) (upd H p (.dK (mergeK [] kvs)))
theorem call_dictT (hcalm : X.calm = true) : CallR X (.type "dict") (rDictT X.K) := by
  intro pins s σ H xs us Q I r q
  obtain ⟨a, o, ps, kvs, ex, ha, hd, hp, q⟩ := q
  subst ex
  obtain ⟨u, eu, rx⟩ := vals1 r
  subst eu
  cases rx
  obtain ⟨he, hz, its, rv, o', ho', hc, n, hdat⟩ : s.heap.get? a = some o ∧ ObjOk X.prog X.w H s.heap a (.tup (ps.map V.ref)) := I.hok a _ ha
  rw [he] at ho'
  cases ho'
  have ei := refs_at rv
  subst ei
  rw [List.length_map] at hz
  obtain ⟨prs, vps, rel, hl, hl2, hpr⟩ := pairs_vals I hp
  have hitem : ∀ j k v, vps[j]? = some (k, v) → ∃ q : Key × Value, prs[j]? = some q ∧ q.2 = v ∧ (mixKind X.prog X.w).is q.1 k = true ∧ ∃ b, ps[j]? = some b ∧ IsTup s.heap b #[k, v] := fun j k v e => by
    have hj : j < prs.length := by rw [hl, ← hl2]; exact (List.getElem?_eq_some_iff.mp e).1
    obtain ⟨b, u, e1, e2, e3, e4⟩ := hpr j prs[j] (List.getElem?_eq_getElem hj)
    rw [e] at e2
    obtain ⟨rfl, rfl⟩ := Prod.mk.inj (Option.some.inj e2)
    exact ⟨_, List.getElem?_eq_getElem hj, rfl, e4, b, e1, e3⟩
  refine PySem.call_dict_pairs (knd := mixKind X.prog X.w) (kvs := prs) (PairArg.tuple a (ps.map Value.ref).toArray (fun j => (ps[j]?).getD 0) vps) (I.ok.hd hcalm) ⟨⟨o, n, he, hc, hd, hdat⟩, by simp [hl2], fun j k v e => ?_⟩ ⟨by rw [hl, hl2], fun i key v e => ?_⟩ (by rw [hl2]; exact hz) fun h' tk hd' k => ?_
  · obtain ⟨_, _, _, _, b, eb, et⟩ := hitem j k v e
    exact ⟨by simp [eb], .inl (by have et' : s.heap.IsTuple b #[k, v] := et; simpa [eb] using et')⟩
  · obtain ⟨q', e1, e2, e3, _⟩ := hitem i key v e
    exact ⟨q'.1, by rw [e1, ← e2], e3⟩
  · have hm : (s.heap.objs.size == sysModules) = false := beq_eq_false_iff_ne.mpr (Nat.ne_of_gt I.big)
    have hlen : (mergeK [] kvs).length ≤ sizeLine := by
      refine Nat.le_trans (length_mergeK kvs []) ?_
      rw [List.length_nil, Nat.zero_add, rel.length, hl]
      exact hz
    exact ⟨.ref s.heap.objs.size, upd H s.heap.objs.size (.dK (mergeK [] kvs)), I.laid (t' := tk) (fun b o e => k b o (by simp) e) (Nat.le_refl _) (show ObjOk X.prog X.w _ _ _ (.dK (mergeK [] kvs)) from ⟨hlen, hm, merged [] prs, KV.merge rel .nil, hd'⟩), rfl, q _ (I.hok.fresh (Nat.le_refl _))⟩
end
end RJ
namespace RJ
open PySem PySem.Spec PyProof.Rows L2
/-! ### a property -/
structure PrpC (P : Program) (w : World) (K : PySem.W.Frag) (mg : Str → Option Value) (base : Heap) (k : Nat) (C : Addr) (m : Str) (sp : Sp) : Prop where
  ex : ∃ (p g : Addr) (fd : FuncData) (ps : List Str), Cls K C ∧ PropOf K C m p g ∧ FnOk P w K mg base C8.CX0 k g fd ps sp ∧ Binds K fd ps []
theorem pe_prp {X : Cx} {k j : Nat} {C : Addr} {m : Str} {sp : Sp} {e : Expr} {ta : TE} {pos : Pos} (c : PrpC X.prog X.w X.K X.mg X.base k C m sp) (hr : Room j X.A) (hk : k + 1 ≤ j) (he : PE X e ta)
    (hab : attributeBase e m X.env (eval e X.env) = eval e X.env := by rfl) : PE X (.Attribute e m pos) (tProp C sp [] C8.E0 ta) := by
  obtain ⟨p, g, fd, ps, hc, hp, F, b⟩ := c.ex
  exact pe_prop he hc hp F (hr.mono hk) b .nil C8.pass0 hab
end RJ
namespace RJ
open PySem PySem.Spec PyProof.Rows L2
theorem call_dictTK {X : Cx} {K : PySem.W.Frag} (h : X.K = K) (hc : X.calm = true) : CallR X (.type "dict") (rDictT K) := h ▸ call_dictT hc
/-- an item of a list, ahead of a store -/
def rGetL : V → V → Hp → VK → Prop := fun x y H Q => ∃ (p : Addr) (xs : List V) (k : Nat) (v : V), x = .ref p ∧ y = .int (k : Int) ∧ H p = some (.lst xs) ∧ xs[k]? = some v ∧ Q v H
theorem get_listN {X : Cx} : PGet X rGetL := by
  intro pins s σ H o i ov iv Q I ro ri h
  obtain ⟨p, xs, k, z, rfl, rfl, hp, he, q⟩ := h
  cases ro
  obtain ⟨t, rfl⟩ := ri
  obtain ⟨its, r, pl, hz⟩ := I.list (SqL.of hp)
  obtain ⟨w, ew, rw'⟩ := r.get he
  have hl := r.length
  have hn := line63
  have hk : k < xs.length := (List.getElem?_eq_some_iff.mp he).1
  exact wpAny_getItem_list pl.isList (Int.natCast_nonneg _) (by omega) (by rw [Int.toNat_natCast]; simpa using ew) ⟨z, H, I, rw', q⟩
end RJ
end

section
set_option maxRecDepth 100000
set_option maxHeartbeats 4000000
namespace PySem
open HotX
section
variable {prog : Program} {w : World} {A : Around} {E : Value → Shared → Prop} {s : Shared}
/-- a list's iterator ends where an exception is handled -/
theorem rj_list_end_hot {it l x1 : Addr} {i : Nat} {items : Array Value} {Q : Option Value → Shared → Prop} (hot : HotAt A x1 s.heap) (nx : x1 ≠ it)
    (hit : s.heap.IsListIter it l i) (hl : s.heap.IsList l items) (hx : items[i]? = none)
    (hQ : ∀ h', Heap.ExtBut it s.heap h' → Q none { s with heap := h' }) : wpAny (model prog w) A (pyNext (.ref it)) Q E s := by
  obtain ⟨o, ho, hc, hd⟩ := id hit
  obtain ⟨ol, hol, _, nl, hdl⟩ := hl
  obtain ⟨hh, o1, vs1, h1, d1, c1⟩ := hot
  unfold pyNext
  refine wpAny_bind (wpAny_attempt (wpAny_callSpecial?_slot (name := Str.ofString "__next__") hit.typeIs slot_listiter_next
    (wpAny_call_entry slot_listiter_next hit.typeIs entry_listiter_next ?_ (args_listiter_next _))))
  show wpAny _ _ (field (.ref it) 0 >>= _) _ _ s
  refine wpAny_bind (wpAny_field ho hd (x := .ref l) rfl ?_)
  show wpAny _ _ (if (Value.ref l == Value.none) = true then _ else _) _ _ s
  rw [if_neg (show ¬ ((Value.ref l == Value.none) = true) from Bool.false_ne_true)]
  show wpAny _ _ (field (.ref it) 1 >>= _) _ _ s
  refine wpAny_bind (wpAny_field ho hd (x := .int i 0) rfl ?_)
  show wpAny _ _ (seqItems? (.ref l) >>= _) _ _ s
  refine wpAny_bind (wpAny_seqItems hol hdl ?_)
  simp only [Int.toNat_natCast, hx]
  refine wpAny_bind (wpAny_rule (wpAny_bind (wpAny_setField ho hd (by simp) ?_)))
  have h1' : (s.heap.update it (Obj.mapFields fun x => x.setIfInBounds 0 Value.none)).get? x1 = some o1 := (Heap.get?_update_other _ _ (Ne.symm nx)).trans h1
  have ext : Heap.ExtBut it s.heap (s.heap.update it (Obj.mapFields fun x => x.setIfInBounds 0 Value.none)) := (Heap.SameBut.update ..).extBut
  generalize s.heap.update it (Obj.mapFields fun x => x.setIfInBounds 0 Value.none) = h2 at h1' ext
  show wpAny _ _ (newExc (.type "StopIteration") [] >>= _) _ _ _
  refine wpAny_bind ?_
  simp only [newExc, newTuple]
  refine wpAny_bind (wpAny_newObj_type ?_ (by size_fits))
  refine wpAny_bind (m := firstArgMember _ _) (wpAny_of_eq (a := Value.none) (by first | rfl | (simp only [firstArgMember]; rfl)) ?_)
  refine wpAny_newObj_type ?_ (by size_fits)
  refine raiseNew_hot ⟨hh, o1, vs1, Heap.get?_push_of_some _ (Heap.get?_push_of_some _ h1'), d1, c1⟩ (Nat.ne_of_lt (Heap.lt_size (Heap.get?_push_of_some _ h1'))) (Heap.get?_push_size _ rfl) rfl (by first | (simp; done) | (simp; omega) | (simp only [Array.size_append]; simp; omega)) ?_
  refine wpAny_bind (wpAny_isInstance (T := "StopIteration") (b := true) ⟨_, Heap.get?_update_self _ (Heap.get?_push_size _ rfl) rfl, rfl⟩ isSubtype_stop ?_)
  refine wpAny_pure (hQ _ fun b o' nb e => ?_)
  have e' := ext b o' nb e
  rw [Heap.get?_update_other _ _ (Nat.ne_of_gt (Heap.lt_size (Heap.get?_push_of_some _ e')))]
  exact Heap.get?_push_of_some _ (Heap.get?_push_of_some _ e')
end
end PySem
namespace RJ
open PySem PySem.Spec PyProof.Rows L2 HotX
/-! ### a comprehension where an exception is handled -/
structure TurnHL (P : Program) (w : World) (K : PySem.W.Frag) (tg : Expr) (J : It) (fp : List Addr) (it : Addr) (tn : Nat → Heap → Prop) : Prop where
  mem : it ∈ fp
  obj : ∀ i h, tn i h → ∀ b ∈ fp, ∃ o, h.get? b = some o ∧ ∀ v, o.data ≠ .cell v
  keep : ∀ i h h', tn i h → (∀ b ∈ fp, ∀ o, h.get? b = some o → h'.get? b = some o) → tn i h'
  item : ∀ (X : Cx), X.prog = P → X.w = w → X.K = K → ∀ (i : Nat) (pins : List (Addr × Obj)) (s : Shared) (σ : L2.St) (H : Hp) (E : Value → Shared → Prop), Inv X pins σ H s → (∀ b ∈ fp, FpOk X pins H b) → tn i s.heap → J.go i H →
    wpAny (model P w) X.A (pyNext (.ref it)) (fun r s1 => ∃ u, r = some u ∧
      wpAny (model P w) X.A (letOwnedTupleGo tg (.ref it) u) (fun _ s2 => ∃ x H', Inv X pins σ H' s2 ∧ RelV x u ∧ J.yld i H x H' ∧ tn (i + 1) s2.heap ∧ ∀ b ∈ fp, H' b = none) E s1) E s
  done : ∀ (X : Cx), X.prog = P → X.w = w → X.K = K → ∀ (i : Nat) (pins : List (Addr × Obj)) (s : Shared) (σ : L2.St) (H : Hp) (E : Value → Shared → Prop), Inv X pins σ H s → (∃ x1, HotAt X.A x1 s.heap ∧ ∀ b ∈ fp, x1 ≠ b) → (∀ b ∈ fp, FpOk X pins H b) → tn i s.heap → J.stop i H →
    wpAny (model P w) X.A (pyNext (.ref it)) (fun r s1 => r = none ∧ Inv X pins σ H s1) E s
  self : ∀ (A : Around) (i : Nat) (s : Shared) (Q : Value → Shared → Prop) (E : Value → Shared → Prop), tn i s.heap → Q (.ref it) s → wpAny (model P w) A (pyIter (.ref it)) Q E s
def PIEHL (X : Cx) (pins : List (Addr × Obj)) (σ : L2.St) (tg : Expr) (R : It → Hp → Prop) (itv : Value) (s2 : Shared) : Prop :=
  ∃ (it : Addr) (fp : List Addr) (tn : Nat → Heap → Prop) (J : It) (H' : Hp), itv = .ref it ∧ Inv X pins σ H' s2 ∧ TurnHL X.prog X.w X.K tg J fp it tn ∧ tn 0 s2.heap ∧ (∀ b ∈ fp, FpOk X pins H' b) ∧ R J H'
structure PIHL (X : Cx) (tg iter : Expr) (wi : TI) : Prop where
  run : ∀ (pins : List (Addr × Obj)) (s : Shared) (σ : L2.St) (H : Hp) (R : It → Hp → Prop), Inv X pins σ H s → wi σ H R →
    wpAny (model X.prog X.w) X.A (eval iter X.env) (fun v s1 => wpAny (model X.prog X.w) X.A (pyIter v) (PIEHL X pins σ tg R) X.xe s1) X.xe s
theorem turn_listHL {P : Program} {w : World} {K : PySem.W.Frag} {tg : Expr} (a it : Addr) : TurnHL P w K tg (Itl K a) [it] it (fun i h => h.IsListIter it a i) where
  mem := (turn_list (P := P) (w := w) (K := K) (tg := tg) a it).mem
  obj := (turn_list (P := P) (w := w) (K := K) (tg := tg) a it).obj
  keep := (turn_list (P := P) (w := w) (K := K) (tg := tg) a it).keep
  item := by
    intro X hP hw hK i pins s σ H E I hf st hg
    subst hP hw hK
    obtain ⟨xs, x, hq, hx⟩ := hg
    obtain ⟨its, rv, p, hz⟩ := I.list hq
    obtain ⟨u, hu, ru⟩ := rv.get hx
    obtain ⟨f0, f1, f2, f3, f4, f5⟩ := hf it (by simp)
    refine wpAny_pyNext_list_item st p.isList (x := u) (by simpa using hu) fun h' st' sb => ?_
    have I1 : Inv X pins σ H { s with heap := h' } := I.turned (t' := s.toks) (fun b o hb e => (sb.2 b hb).trans e) f0 f1 f3 f4 f5
    obtain ⟨o, e, c, d⟩ := id st'
    exact ⟨u, rfl, go_of (s := { s with heap := h' }) e c d (by decide) ⟨x, H, I1, ru, ⟨rfl, fun ys hy => by rw [I.list_inj hy hq]; exact hx⟩, st', fun b hb => (hf b hb).1⟩⟩
  done := by
    intro X hP hw hK i pins s σ H E I ⟨x1, hot, hne⟩ hf st hg
    subst hP hw hK
    obtain ⟨xs, hq, hx⟩ := hg
    obtain ⟨its, rv, p, hz⟩ := I.list hq
    have hl := rv.length
    obtain ⟨f0, f1, f2, f3, f4, f5⟩ := hf it (by simp)
    exact rj_list_end_hot hot (hne it (by simp)) st p.isList (by simp; omega) fun h' eb => ⟨rfl, I.turned (t' := s.toks) (fun b o hb e => eb b o hb e) f0 f1 f3 f4 f5⟩
  self := (turn_list (P := P) (w := w) (K := K) (tg := tg) a it).self
theorem pi_listHL {X : Cx} {tg l : Expr} {tl : TE} (hl : PE X l tl) : PIHL X tg l (iList X.K tl) := by
  refine ⟨fun pins s σ H R I h => ?_⟩
  refine thn (hl.run pins s σ H _ I h) fun v s1 ⟨x, H1, I1, r1, q1⟩ => ?_
  obtain ⟨a, e, ⟨xs, hq⟩, q⟩ := q1
  subst e
  cases r1
  obtain ⟨its, rv, p, hz⟩ := I1.list hq
  refine wpAny_pyIter_list p.isList ?_
  refine ⟨s1.heap.objs.size, [s1.heap.objs.size], _, _, H1, rfl, I1.kept (t' := s1.toks) fun b o e => Heap.get?_push_of_some _ e, turn_listHL a _, ⟨_, Heap.get?_push_size _ rfl, rfl, rfl⟩, fun b hb => ?_, q⟩
  have e : b = s1.heap.objs.size := by simpa using hb
  subst e
  exact I1.fpOk (Nat.le_refl _) (I1.hok.fresh (Nat.le_refl _))
section
variable {X : Cx} {E : XK} {elt tg iter : Expr} {ifs : List Expr} {scope : Scope} {own : List (Str × Nat)} {pos pos' : Pos} {wi : TI} {g : TG} {tt : TT} {te : TE}
theorem lc_coreH {pins : List (Addr × Obj)} {s : Shared} {σ : L2.St} {H : Hp} {Q : VK} {use : Option (Value → Sem Unit)} {Qf : Value → Shared → Prop} (hst : X.stack = X.env :: X.outer) (hf : X.env.frame = some X.env.locals) (tk : L2N.Takes X (fun cls d _ H => E cls d H))
    (hot : L2H.HotC X) (hN : X.N.Nodup) (I : Inv X pins σ H s) (hi : PIHL X tg iter wi) (ok : BlkOk X.N X.env.scope scope own)
    (hg : ∀ (s : Shared) (H : Hp) (C : Addr) (cl : List (Str × Addr)) (fp : List Addr) (xe : Value → Shared → Prop), PG ((X.blk s H scope (compEnvC scope cl C X.env) fp).tr [] xe) tg g)
    (ht : ∀ (s : Shared) (H : Hp) (C : Addr) (cl : List (Str × Addr)) (fp : List Addr) (xe : Value → Shared → Prop), (∀ σ : L2.St, PassesAt (CXN X.prog X.w) ((X.blk s H scope (compEnvC scope cl C X.env) fp).tr [] xe) σ E) →
      PTs ((X.blk s H scope (compEnvC scope cl C X.env) fp).tr [] xe) ifs tt)
    (he : ∀ (s : Shared) (H : Hp) (C : Addr) (cl : List (Str × Addr)) (fp : List Addr) (xe : Value → Shared → Prop), (∀ σ : L2.St, PassesAt (CXN X.prog X.w) ((X.blk s H scope (compEnvC scope cl C X.env) fp).tr [] xe) σ E) →
      PE ((X.blk s H scope (compEnvC scope cl C X.env) fp).tr [] xe) elt te)
    (hs : ∀ x, foldedSetIterable iter X.env x = pure x) (h : tLc wi g tt te (own.map (·.2)) σ H Q)
    (hRR : ∀ D C s' m H', Inv X pins σ H' s' → Q (.ref D) H' → s'.heap.Ns C m → FpOk X pins H' C → compPost (model X.prog X.w) X.A X.xe use Qf (.ref D) C (.ok .next) s') :
    wpAny (model X.prog X.w) X.A (comprehension (.ListComp elt [⟨tg, iter, ifs, 0⟩] scope pos) scope X.env pos' (newList []) false (eval iter X.env) use) Qf X.xe s := by
  have hfree : ∀ y ∈ scope.names, y.2 = .free → ∃ c, X.env.cells.lookup y.1 = some c := fun y hy e => I.ok.has _ (ok.free y hy e)
  refine comp_run (use := use) rfl hs (closure_ok hfree) ok.kind (fun y hy e => by rw [ok.uniq y hy, e]) (thn (hi.run pins s σ H _ I h) fun xv s1 hx => thn hx fun itv s2 h2 => ?_)
  obtain ⟨it, fp, tn, J, H2, e, I2, T, st2, f2, q⟩ := h2
  subst e
  refine wpAny_newObj_type (newEnv_comp ?_) (by show 0 ≤ sizeLine; decide)
  generalize hD : s2.heap.objs.size = D
  obtain ⟨W, ⟨m0, w0⟩, turn⟩ := q D (I2.hok.fresh (Nat.le_of_eq hD))
  generalize hs3 : ({ s2 with heap := s2.heap.push { cls := .type "list", data := .seq ([] : List Value).toArray } } : Shared) = s3
  have h3 : s3.heap = s2.heap.push { cls := .type "list", data := .seq ([] : List Value).toArray } := by rw [← hs3]
  have k23 : ∀ b o, s2.heap.get? b = some o → s3.heap.get? b = some o := fun b o e => by rw [h3]; exact Heap.get?_push_of_some _ e
  have I3 : Inv X pins σ (upd H2 D (.lst [])) s3 := by
    rw [← hs3]
    refine I2.laid (t' := s2.toks) (fun b o e => Heap.get?_push_of_some _ e) (Nat.le_of_eq hD) ⟨Nat.zero_le _, [], 0, .nil, ?_⟩
    rw [← hD]
    exact Heap.get?_push_size _ rfl
  have f3 : ∀ b ∈ fp, FpOk X pins (upd H2 D (.lst [])) b ∧ b < s3.heap.objs.size := fun b hb => by
    obtain ⟨o, e, _⟩ := T.obj _ _ st2 b hb
    have lt := Heap.lt_size e
    refine ⟨⟨?_, (f2 b hb).2⟩, Heap.lt_size (k23 b o e)⟩
    rw [upd_ne (by rw [← hD]; exact Nat.ne_of_lt lt)]
    exact (f2 b hb).1
  generalize hce : compEnvC scope (cellsFrom (s3.heap.objs.size + 1) scope.names (cloFrom X.env.cells scope.names [])) s3.heap.objs.size X.env = ce
  have cL : ce.locals = s3.heap.objs.size := by subst hce; rfl
  have cf : ce.frame = X.env.frame := by subst hce; rfl
  have I4 := block_start I3 ok hN f3
  rw [hce] at I4
  show codeAny _ _ (.compStart (.ListComp elt [⟨tg, iter, ifs, 0⟩] scope pos) 0 (.ref it) (.ref D) (compEnvC scope (cellsFrom (s3.heap.objs.size + 1) scope.names (cloFrom X.env.cells scope.names [])) s3.heap.objs.size X.env))
    (postX (model X.prog X.w) X.A X.xe use Qf (.ref D) (compEnvC scope (cellsFrom (s3.heap.objs.size + 1) scope.names (cloFrom X.env.cells scope.names [])) s3.heap.objs.size X.env)) { s3 with heap := pushCells (s3.heap.push { cls := .type "dict", data := .dict #[] }) scope.names }
  rw [hce]
  generalize hxe : notedBy (model X.prog X.w) X.A ce (fun e s' => postX (model X.prog X.w) X.A X.xe use Qf (.ref D) ce (.error e) s') = xe
  generalize hH3 : upd H2 D (.lst []) = H3 at I3 I4 w0 f3
  have pass := blk_out (scope := scope) (ce := ce) (fp := fp) (use := use) (Qf := Qf) (acc := .ref D) hst hf cf cL I3 (fun b hb => (f3 b hb).1) tk hxe.symm
  have pg := hg s3 H3 s3.heap.objs.size (cellsFrom (s3.heap.objs.size + 1) scope.names (cloFrom X.env.cells scope.names [])) fp xe
  have pt := ht s3 H3 s3.heap.objs.size (cellsFrom (s3.heap.objs.size + 1) scope.names (cloFrom X.env.cells scope.names [])) fp xe
  have pe := he s3 H3 s3.heap.objs.size (cellsFrom (s3.heap.objs.size + 1) scope.names (cloFrom X.env.cells scope.names [])) fp xe
  rw [hce] at pg pt pe
  have pe := pe pass
  have pt := pt pass
  have I5 : Inv ((X.blk s3 H3 scope ce fp).tr [] xe) [] (wipe σ (own.map (·.2))) H3 { s3 with heap := pushCells (s3.heap.push { cls := .type "dict", data := .dict #[] }) scope.names } := I4.toTry xe
  have st5 : tn 0 (pushCells (s3.heap.push { cls := .type "dict", data := .dict #[] }) scope.names) := T.keep _ _ _ st2 fun b _ o e => pushCells_keeps _ _ _ _ (Heap.get?_push_of_some _ (k23 b o e))
  have fps : ∀ {σ' : L2.St} {H' : Hp} {s' : Shared}, Inv ((X.blk s3 H3 scope ce fp).tr [] xe) [] σ' H' s' → (∀ b ∈ fp, H' b = none) → ∀ b ∈ fp, FpOk ((X.blk s3 H3 scope ce fp).tr [] xe) [] H' b := fun {σ' H' s'} I' hn b hb =>
    ⟨hn b hb, (I'.ok.exf b hb).1, I'.ok.exfs b hb, .inl hb, (I'.ok.exf b hb).2, fun p hp => absurd (show p ∈ ([] : List (Addr × Obj)) ++ [] from hp) (by simp)⟩
  have hotB : ∀ {σ' : L2.St} {H' : Hp} {s' : Shared}, Inv ((X.blk s3 H3 scope ce fp).tr [] xe) [] σ' H' s' → ∃ x1, HotAt X.A x1 s'.heap ∧ ∀ b ∈ fp, x1 ≠ b := fun {σ' H' s'} I' => by
    obtain ⟨p, ⟨hh, v1, e1, c1⟩, hp⟩ := hot
    obtain ⟨g1, g2, g3, g4, _⟩ := I3.pin p (List.mem_append_left _ hp)
    refine ⟨p.1, ⟨hh, p.2, v1, I'.base.keep p.1 p.2 g1 g2 ?_ ?_, e1, c1⟩, fun b hb => (f3 b hb).1.2.2.2.2.2 p (List.mem_append_left _ hp)⟩
    · intro z
      rcases List.mem_cons.mp (I3.stkSub _ z) with z | z
      · exact g3 z
      · exact g4 z
    · intro z
      exact (f3 _ z).1.2.2.2.2.2 p (List.mem_append_left _ hp) rfl
  have loop : codeAny (model X.prog X.w) X.A (.compLoop (.ListComp elt [⟨tg, iter, ifs, 0⟩] scope pos) 0 (.ref it) (.ref D) ce) (postX (model X.prog X.w) X.A X.xe use Qf (.ref D) ce)
      { s3 with heap := pushCells (s3.heap.push { cls := .type "dict", data := .dict #[] }) scope.names } := by
    refine compLoop_any (fun n s' => ∃ i H', Turns X s3 H3 scope ce fp xe (wipe σ (own.map (·.2))) tn W n i H' s') ?_ m0 ⟨0, H3, I5, st5, fun b hb => (f3 b hb).1.1, w0⟩
    rw [hxe]
    rintro n s6 ⟨i, H6, t6⟩
    rcases turn i n H6 t6.has with ⟨stop, qq⟩ | ⟨go, Nx, hNx, step⟩
    · refine thn (T.done ((X.blk s3 H3 scope ce fp).tr [] xe) rfl rfl rfl i [] s6 _ H6 xe t6.inv (hotB t6.inv) (fps t6.inv t6.non) t6.at_ stop) fun r s7 ⟨hr, I7⟩ => ?_
      subst hr
      have back : Inv X pins σ H6 s7 := I3.call' (ch := fp) I7.os I7.base I7.hok I7.bare fun b hb => ⟨(f3 b hb).1.2.2.2.1, (f3 b hb).1.2.1, (f3 b hb).1.2.2.2.2.1, (f3 b hb).1.2.2.2.2.2⟩
      obtain ⟨m, hn, _⟩ := I7.loc
      exact hRR D ce.locals s7 m H6 back qq hn (I3.fpOk (by rw [cL]; exact Nat.le_refl _) I7.free)
    · refine thn (T.item ((X.blk s3 H3 scope ce fp).tr [] xe) rfl rfl rfl i [] s6 _ H6 xe t6.inv (fps t6.inv t6.non) t6.at_ go) fun r s7 ⟨u, hr, h7⟩ => ?_
      subst hr
      refine thn h7 fun _ s8 ⟨x, H8, I8, r8, y8, st8, n8⟩ => ?_
      have I8' := I8.pinned (fps I8 n8) (T.obj _ _ st8)
      refine thn (pg.run _ s8 _ H8 x u _ I8' r8 (step x H8 y8)) fun _ s9 ⟨σ9, H9, I9, hw, q9⟩ => ?_
      refine thn (pt.run _ s9 σ9 H9 _ I9 q9) fun b s10 ⟨H10, I10, q10⟩ => ?_
      have next : ∀ {s' : Shared} {H' : Hp}, Inv ((X.blk s3 H3 scope ce fp).tr [] xe) ([] ++ pinsAt fp s8.heap) σ9 H' s' → Nx H' → ∃ m, m < n ∧ ∃ i H', Turns X s3 H3 scope ce fp xe (wipe σ (own.map (·.2))) tn W m i H' s' := fun {s' H'} I' nx => by
        obtain ⟨m', hm, w'⟩ := hNx H' nx
        have kept : ∀ b ∈ fp, ∀ o, s8.heap.get? b = some o → s'.heap.get? b = some o ∧ H' b = none := fun b hb o e =>
          have z := I'.pin (b, o) (List.mem_append_right _ (List.mem_append_right _ (mem_pinsAt hb e)))
          ⟨z.1, z.2.1⟩
        refine ⟨m', hm, i + 1, H', (I'.unpinned (pins := [])).weak (by rw [← hw, wipe_length]) (fun j v e => (wipe_some (by rw [hw]; exact e)).1), T.keep _ _ _ st8 fun b hb o e => (kept b hb o e).1, fun b hb => ?_, w'⟩
        obtain ⟨o, e, _⟩ := T.obj _ _ st8 b hb
        exact (kept b hb o e).2
      cases b with
      | false =>
        simp only [Bool.false_eq_true, if_false] at q10 ⊢
        exact next I10 q10
      | true =>
        simp only [if_true] at q10 ⊢
        refine thn (pe.run _ s10 σ9 H10 _ I10 q10) fun z s11 ⟨yv, H11, I11, r11, acc, hD11, hz, nx⟩ => ?_
        exact app_ok (X := (X.blk s3 H3 scope ce fp).tr [] xe) I11 hD11 hz r11 fun s12 I12 => next I12 nx
  exact codeAny_compStart_list loop (T.self X.A 0 _ _ _ st5 loop)
theorem pe_lcH (hst : X.stack = X.env :: X.outer) (hf : X.env.frame = some X.env.locals) (tk : L2N.Takes X (fun cls d _ H => E cls d H)) (hot : L2H.HotC X) (hN : X.N.Nodup) (hi : PIHL X tg iter wi) (ok : BlkOk X.N X.env.scope scope own)
    (hg : ∀ (s : Shared) (H : Hp) (C : Addr) (cl : List (Str × Addr)) (fp : List Addr) (xe : Value → Shared → Prop), PG ((X.blk s H scope (compEnvC scope cl C X.env) fp).tr [] xe) tg g)
    (ht : ∀ (s : Shared) (H : Hp) (C : Addr) (cl : List (Str × Addr)) (fp : List Addr) (xe : Value → Shared → Prop), (∀ σ : L2.St, PassesAt (CXN X.prog X.w) ((X.blk s H scope (compEnvC scope cl C X.env) fp).tr [] xe) σ E) →
      PTs ((X.blk s H scope (compEnvC scope cl C X.env) fp).tr [] xe) ifs tt)
    (he : ∀ (s : Shared) (H : Hp) (C : Addr) (cl : List (Str × Addr)) (fp : List Addr) (xe : Value → Shared → Prop), (∀ σ : L2.St, PassesAt (CXN X.prog X.w) ((X.blk s H scope (compEnvC scope cl C X.env) fp).tr [] xe) σ E) →
      PE ((X.blk s H scope (compEnvC scope cl C X.env) fp).tr [] xe) elt te)
    (hs : ∀ x, foldedSetIterable iter X.env x = pure x := by intro _; rfl) : PE X (.ListComp elt [⟨tg, iter, ifs, 0⟩] scope pos) (tLc wi g tt te (own.map (·.2))) := by
  refine ⟨fun pins s σ H Q I h => ?_⟩
  rw [eval_ListComp]
  refine lc_coreH hst hf tk hot hN I hi ok hg ht he hs h fun D C s' m H' J q hn f => ⟨m, hn, fun h' sb => ?_⟩
  exact ⟨.ref D, H', J.turned (t' := s'.toks) (fun b o hb e => (sb.2 b hb).trans e) f.1 f.2.1 f.2.2.2.1 f.2.2.2.2.1 f.2.2.2.2.2, rfl, q⟩
end
end RJ
namespace RJ
open PySem PySem.Spec PyProof.Rows L2 HotX
/-! ### defs that are given the error that is handled -/
structure FnE (P : Program) (w : World) (K : PySem.W.Frag) (mg : Str → Option Value) (base : Heap) (k : Nat) (f : Addr) (fd : FuncData) (ps : List Str) (p : Addr × Obj) (sp : Sp) : Prop where
  len : ∀ vs H Q E, sp vs H Q E → vs.length = ps.length
  run : ∀ (A : Around) (outer : List Env) (s : Shared) (H : Hp) (args : Args) (us : List Value) (vs : List V) (Q : VK) (E : XK), L2H.RoomH k A → L2H.Hot1 A p → L2H.PinOk outer H s p → Env0 P w K mg base A outer s H → BindsTo s fd args (ps.zip us) → Vals vs us → sp vs H Q E →
    codeAny (model P w) A (.call (.ref f) args) (CR C8.CX0 outer P w H s Q E) s
structure CalE (P : Program) (w : World) (K : PySem.W.Frag) (mg : Str → Option Value) (base : Heap) (k : Nat) (x : Str) (sp : Addr → Value → Option Addr → Sp) : Prop where
  ex : ∃ (f : Addr) (fd : FuncData) (ps : List Str), mg x = some (.ref f) ∧ PySem.W.keepIn K (.ref f) = true ∧ Binds K fd ps [] ∧ ∀ (p : Addr × Obj) (cls : Value) (d : Option Addr), Zc cls d p.2 → (∃ vs, p.2.data = .fields vs) → FnE P w K mg base k f fd ps p (sp p.1 cls d)
/-- isinstance of an error that is pinned -/
theorem call_isP {X : Cx} {p : Addr × Obj} {cls : Value} {d : Option Addr} (hp : p ∈ X.pn) (hz : Zc cls d p.2) (hf : ∃ vs, p.2.data = .fields vs) : CallR X (.builtin "isinstance") (rIsD X.K p.1 cls d) := by
  intro pins s σ H xs us Q I r h
  obtain ⟨D, dd, fs, c, cv, b, rfl, rfl, T, ed, rfl, hcv, e, q⟩ := h
  obtain ⟨u1, u2, rfl, r1, r2⟩ := vals2 r
  cases (show u1 = Value.ref p.1 from r1)
  have ec := hcv _ r2
  subst ec
  obtain ⟨hget, _⟩ := I.pin p (List.mem_append.mpr (.inl hp))
  obtain ⟨vs, hv⟩ := hf
  have hx : ObjOk X.prog X.w H s.heap dd (.xd fs) := I.hok dd _ ed
  obtain ⟨mA, hns, _⟩ := hx
  obtain ⟨od, ho, _⟩ := lookIn_ns hns
  have J : PySem.W.InstAt s.heap p.1 p.2 D (some od) := ⟨hget, hz.1, by unfold PySem.W.notCls; rw [hv] <;> rfl, by rw [hz.2]; exact ho⟩
  exact PySem.W.kia_one (PySem.W.kitx_exc T.cl T.hg T.hk T.hs T.ha T.hn T.ht T.hm) I.kIn J e (fun z => nomatch z) fun tk => ⟨.bl b, H, I.kept (t' := tk) fun _ _ z => z, rfl, q⟩
theorem call_isPT {X : Cx} {p : Addr × Obj} {cls : Value} {d : Option Addr} (hp : p ∈ X.pn) (hz : Zc cls d p.2) (hf : ∃ vs, p.2.data = .fields vs) : CallR X (.builtin "isinstance") (rIsDT X.K p.1 cls d) := by
  intro pins s σ H xs us Q I r h
  obtain ⟨D, dd, tp, fs, cs, ws, b, rfl, rfl, T, ed, rfl, htp, hws, e, q⟩ := h
  obtain ⟨u1, u2, rfl, r1, r2⟩ := vals2 r
  cases (show u1 = Value.ref p.1 from r1)
  cases (show u2 = Value.ref tp from r2)
  obtain ⟨hget, _⟩ := I.pin p (List.mem_append.mpr (.inl hp))
  obtain ⟨vs, hv⟩ := hf
  have hx : ObjOk X.prog X.w H s.heap dd (.xd fs) := I.hok dd _ ed
  obtain ⟨mA, hns, _⟩ := hx
  obtain ⟨od, ho, _⟩ := lookIn_ns hns
  have J : PySem.W.InstAt s.heap p.1 p.2 D (some od) := ⟨hget, hz.1, by unfold PySem.W.notCls; rw [hv] <;> rfl, by rw [hz.2]; exact ho⟩
  have hT : ObjOk X.prog X.w H s.heap tp (.tup cs) := I.hok tp _ htp
  obtain ⟨_, its, rv, o, g1, g2, n, g3⟩ := hT
  have e3 := hws its rv
  subst e3
  obtain ⟨oc, od2, dt, sl⟩ := o
  simp only at g2 g3
  subst g2 g3
  exact PySem.W.kia_tup (PySem.W.kitx_exc T.cl T.hg T.hk T.hs T.ha T.hn T.ht T.hm) I.kIn J g1 e (fun z => nomatch z) fun tk => ⟨.bl b, H, I.kept (t' := tk) fun _ _ z => z, rfl, q⟩
section
variable {P : Program} {w : World} {K : PySem.W.Frag} {mg : Str → Option Value} {base : Heap}
theorem fn_ofE {k : Nat} {f : Addr} {name qual : Str} {params : Arguments} {body : List Stmt} {scope : Scope} {dV kV doc pm cdv ct oc : Value} {an od : Option Addr} {p : Addr × Obj}
    {osl : Array (Option Value)} {N ps : List Str} {sp : Sp} (lk : K.lookup f = some ⟨oc, od, .func (PySem.W.fnOf name qual params body scope dV kV doc pm an cdv ct), osl⟩) (hcd : PySem.W.codeIn K cdv qual = true) (S : FnScope N ps scope)
    (len : ∀ vs H Q E, sp vs H Q E → vs.length = ps.length)
    (hbody : ∀ (A : Around) (outer : List Env) (s : Shared) (H : Hp) (vs : List V) (Q : VK) (E : XK), L2H.Hot1 A p → L2H.RoomH k (A.deeper (envOfC qual scope s.heap.objs.size f cdv)) → sp vs H Q E →
      ∃ t, PSs (L2H.cxH C8.CX0 P w K mg base N qual scope f cdv A outer s H E p) body t ∧ t { nx := fun _ H' => Q .non H', rt := Q } (L2.start N vs) H) :
    FnE P w K mg base (k + 1) f (PySem.W.fnOf name qual params body scope dV kV doc pm an cdv ct) ps p sp := by
  refine ⟨len, fun A outer s H args us vs Q E hr hot hpin e0 hb r hsp => ?_⟩
  have hl := len _ _ _ _ hsp
  have KX : K.In s.heap := e0.mod.kin.keeps fun b o e => (e0.bs b o e).1
  have lim : s.heap.NoLimit := e0.mod.nolimit.keeps fun b o e => (e0.bs b o e).1
  have hkind : ∀ y ∈ ps.zip us, scope.names.lookup y.1 = some .local ∨ (scope.names.lookup y.1 = some .cell ∧ ((cellsFrom (s.heap.objs.size + 1) scope.names []).lookup y.1).isSome = true) := fun ⟨n, v⟩ hy => by
    rcases S.par n (List.of_mem_zip hy).1 with q | q
    · exact .inl q
    · exact .inr ⟨q, PySem.W.cellsFrom_some _ _ _ (.inl q)⟩
  refine codeAny_call_function hr.depth (KX _ _ lk) rfl S.co S.gen rfl (PySem.W.codeRec_of KX hcd) (hb _ _ _ _ ?_)
  refine wpAny_newFunctionEnv_cells S.kind hkind fun env he s1 x => ?_
  subst he
  refine ⟨lim.keeps x.toInCall.keep, codeAny_func ?_⟩
  obtain ⟨t, ht, hq⟩ := hbody A outer s H vs Q E hot (hr.deeper _) hsp
  have I : Inv (L2H.cxH C8.CX0 P w K mg base N qual scope f cdv A outer s H E p) [] (L2.start N vs) H s1 := L2H.inv_startH S hpin e0 hl r x
  refine wpAny_mono (ht.run [] s1 (L2.start N vs) H _ I hq) (fun fl s' hs => ?_) fun e s' hs => hs
  have fin : ∀ {σ' : L2.St} {H' : Hp} {v : V} {u : Value}, Inv (L2H.cxH C8.CX0 P w K mg base N qual scope f cdv A outer s H E p) [] σ' H' s' → RelV v u → Q v H' → CE outer P w H s Q u s' :=
    fun {σ' H' v u} J rv q => ⟨v, H', J.os, J.bare, J.base, J.hok, rv, q⟩
  cases fl with
  | ret u =>
    obtain ⟨v, σ', H', J, rv, q⟩ := hs
    exact fin J rv q
  | next =>
    obtain ⟨σ', H', J, q⟩ := hs
    exact fin (v := V.non) (u := Value.none) J rfl q
  | brk =>
    obtain ⟨_, _, _, q⟩ := hs
    exact False.elim q
  | cont =>
    obtain ⟨_, _, _, q⟩ := hs
    exact False.elim q

theorem fnE0 {x qual : Str} {st : Stmt} {f : Addr} {fd : FuncData} {N ps : List Str} {k : Nat} {p : Addr × Obj} {sp : Sp} (F : C8.Fun K x qual st f fd) (S : FnScope N ps (C8.fnScope st)) (len : ∀ vs H Q E, sp vs H Q E → vs.length = ps.length)
    (hb : ∀ (cdv : Value) (A : Around) (outer : List Env) (s : Shared) (H : Hp) (vs : List V) (Q : VK) (E : XK), L2H.RoomH k (A.deeper (envOfC qual (C8.fnScope st) s.heap.objs.size f cdv)) → sp vs H Q E →
      L2H.HotC (L2H.cxH C8.CX0 P w K mg base N qual (C8.fnScope st) f cdv A outer s H E p).nox → p ∈ (L2H.cxH C8.CX0 P w K mg base N qual (C8.fnScope st) f cdv A outer s H E p).nox.pn →
      ∃ t, PSs (L2H.cxH C8.CX0 P w K mg base N qual (C8.fnScope st) f cdv A outer s H E p).nox (C8.fnBody st) t ∧ t { nx := fun _ H' => Q .non H', rt := Q } (start N vs) H) : FnE P w K mg base (k + 1) f fd ps p sp := by
  obtain ⟨oc, od, dV, kV, doc, pm, an, cdv, ct, osl, rfl, lk, hcd⟩ := F.ex
  refine fn_ofE lk hcd S len fun A outer s H vs Q E hot hr hsp => ?_
  obtain ⟨t, h, q⟩ := hb cdv A outer s H vs Q E hr hsp ⟨p, hot, List.mem_singleton.mpr rfl⟩ (List.mem_singleton.mpr rfl)
  exact ⟨t, h.nox, q⟩
end
section
variable {X : Cx} {k j : Nat} {x : Str} {sp : Addr → Value → Option Addr → Sp} {q pos : Pos} {e : Expr} {es : List Expr} {t : TA} {a : Addr} {oe : Obj} {cls : Value} {d : Option Addr} {pn : List (Addr × Obj)}
/-- such a def called in the except suite -/
theorem pe_ce (c : CalE X.prog X.w X.K X.mg X.base k x sp) (hr : L2H.RoomH j (X.suite a ((a, oe) :: pn)).A) (hk : k ≤ j) (hz : L2N.Zn cls d oe) (hf : ∃ vs, oe.data = .fields vs) (hg : Gl (X.suite a ((a, oe) :: pn)) x) (ha : PA (X.suite a ((a, oe) :: pn)) (e :: es) t)
    (hdb : (x == ("__debug__" : Str)) = false := by decide) (he : starEach (e :: es) X.env = (false, eval e X.env) :: starEach es X.env := by rfl) (hpl : (backTo pos (starEach es X.env)).any (·.1) = false := by rfl) :
    PE (X.suite a ((a, oe) :: pn)) (.Call (.Name x q) (e :: es) [] pos) (tCallS (sp a cls d) (fun _ => C8.E0) t) := by
  obtain ⟨f, fd, ps, hm, kp, hb, F⟩ := c.ex
  have F := F (a, oe) cls d hz.zc hf
  obtain ⟨vs0, hv⟩ := hf
  refine ⟨fun pins s σ H Q I h => ?_⟩
  refine wpAny_Call_Name_kw (ld_glob I hg hm ?_ hdb)
  refine PySem.W.callWith_K (h₀ := X.base) I.ok.mod.kin kp (thn (ha.run pos pins s σ H _ I h) fun us s1 ⟨vs, H1, I1, r, h⟩ => ⟨I1.kIn, ?_⟩) he hpl
  have hl : us.length = ps.length := by rw [← r.length]; exact F.len _ _ _ _ h
  have b := hb s1 us I1.kIn (by rw [List.append_nil]; exact hl)
  rw [List.append_nil] at b
  have P1 := I1.pin (a, oe) (List.mem_append_left _ List.mem_cons_self)
  have hpin : L2H.PinOk X.stack H1 s1 (a, oe) := ⟨P1.1, P1.2.1, fun hm => (List.mem_cons.mp (I1.stkSub a hm)).elim P1.2.2.1 P1.2.2.2.1, P1.2.2.2.2⟩
  refine wpAny_call (codeAny_mono (F.run (X.suite a ((a, oe) :: pn)).A X.stack s1 H1 ⟨us, []⟩ us vs Q C8.E0 (hr.mono hk) ⟨rfl, vs0, hv, hz.2.2 vs0 hv⟩ hpin I1.env0 b r h) fun r s' hq => ?_)
  cases r with
  | error e => exact hq.elim
  | ok fl =>
    cases fl with
    | ret u => exact I1.after hq
    | next => exact False.elim hq
    | brk => exact False.elim hq
    | cont => exact False.elim hq
end
end RJ
end

section
set_option maxRecDepth 100000
set_option maxHeartbeats 4000000
namespace RJ
open PySem PySem.Spec PyProof.Rows L2
/-! ### a text turned about -/
def tRevS (te : TE) : TE := fun σ H Q => te σ H fun x H1 => ∃ z, x = .str z ∧ z.length ≤ sizeLine ∧ Q (.str ⟨z.cps.toList.reverse.toArray⟩) H1
section
variable {X : Cx}
theorem pe_revS {e : Expr} {te : TE} {k : Nat} {p1 p2 p3 pos : Pos} (he : PE X e te) : PE X (.Subscript e (.Slice none none (some (.UnaryOp .USub (.Constant (.int 1) k p1) p2)) p3) pos) (tRevS te) := by
  refine ⟨fun pins s σ H Q I h => ?_⟩
  refine Subscript_ (thn (he.run pins s σ H _ I h) fun v s1 ⟨x, H1, I1, r1, q1⟩ => ?_)
  obtain ⟨z, ex, hz, q⟩ := q1
  subst ex
  obtain ⟨t, rfl⟩ := r1
  have hst : PO X (some (.UnaryOp .USub (.Constant (.int 1) k p1) p2)) (tPart (tUn (rU fun i => .int (-i)) (tC (.int 1)))) := po_some (pe_un un_neg pe_int)
  refine wpAny_Slice (thn (po_none.run pins s1 σ H1 (fun o H2 => o = none ∧ H2 = H1) I1 ⟨rfl, rfl⟩) fun vl s2 ⟨l, H2, I2, pl, el, e2⟩ => ?_)
  subst el e2
  refine thn (po_none.run pins s2 σ H2 (fun o H3 => o = none ∧ H3 = H2) I2 ⟨rfl, rfl⟩) fun vu s3 ⟨u, H3, I3, pu, eu, e3⟩ => ?_
  subst eu e3
  refine thn (hst.run pins s3 σ H3 (fun o H4 => o = some (-1) ∧ H4 = H3) I3 ⟨1, rfl, -1, rfl, rfl, rfl⟩) fun vs s4 ⟨o, H4, I4, ps, eo, e4⟩ => ?_
  subst eo e4
  have I5 : Inv X pins σ H4 { s4 with heap := s4.heap.push { cls := .type "slice", data := .fields #[vl, vu, vs] } } := I4.kept (t' := s4.toks) fun b ob q => Heap.get?_push_of_some _ q
  cases pl
  cases pu
  obtain ⟨st, rfl, hst1⟩ := IsPart.raw ps
  cases st with
  | none => cases hst1
  | some st =>
  obtain ⟨si, stk⟩ := st
  cases hst1
  show wpAny (model X.prog X.w) X.A (subscriptTail e (.Slice none none (some (.UnaryOp .USub (.Constant (.int 1) k p1) p2)) p3) (.str z t) (.ref s4.heap.objs.size)) (EP X pins σ Q) X.xe { s4 with heap := s4.heap.push { cls := .type "slice", data := .fields #[.none, .none, .int (-1) stk] } }
  refine tail_any (ops := [.ref s4.heap.objs.size, .str z t]) (typeIs_str _ _ _) F.slot_str_getitem.lookup ?_ (by with_unfolding_all rfl)
  refine wpAny_getItem_str_slice (l := none) (u := none) (st := some (-1, stk)) ⟨_, Heap.get?_push_size _ rfl, rfl, rfl⟩ rfl ?_
  have e : (Builtin.Str.strSliceIndices none none (-1) z.length).filterMap (z.cps[·]?) = z.cps.toList.reverse := by
    show (sliceRange ((z.length : Int) - 1) (-1) (-1)).filterMap (z.cps[·]?) = _
    rw [PySem.W.krv_sliceRange, PySem.W.krv_range, List.filterMap_reverse]
    exact congrArg List.reverse (PySem.W.krv_all z.cps)
  show Made.post (if (((-1 : Int) == 1) && (Builtin.Str.strSliceIndices none none (-1) z.length).length == z.length) = true then Made.val (.str z t)
    else Made.str ⟨((Builtin.Str.strSliceIndices none none (-1) z.length).filterMap (z.cps[·]?)).toArray⟩) (EP X pins σ Q) _
  rw [if_neg (by simp), e]
  refine ⟨?_, .str _, H4, I5.tok _, ⟨_, rfl⟩, q⟩
  show (z.cps.toList.reverse.toArray).size ≤ sizeLine
  rw [List.size_toArray, List.length_reverse]
  exact hz
end
end RJ
end

section
namespace RJ
/-- the cut of a text -/
abbrev CT (al : List Nat) (ps : List (Nat × Nat)) (t : List Nat) : List Nat := cutL al.length ps (lets al t)
abbrev TX (al : List Nat) (ps : List (Nat × Nat)) (p : Nat) : List Nat := (textsOf al ps).getD p []
theorem adjs_snoc {C : List Nat} {p : Nat} {q : Nat × Nat} : q ∈ adjs (C ++ [p]) ↔ q ∈ adjs C ∨ (C.getLast? = some q.1 ∧ q.2 = p) := by
  rcases List.eq_nil_or_concat C with rfl | ⟨D, y, rfl⟩
  · simp [adjs]
  · rw [List.concat_eq_append, List.append_assoc]
    show q ∈ adjs (D ++ y :: [p]) ↔ _
    rw [adjs_append, List.mem_append]
    have e : adjs (y :: [p]) = [(y, p)] := rfl
    rw [e, List.mem_singleton, List.getLast?_append]
    have e2 : ([y] : List Nat).getLast?.or D.getLast? = some y := rfl
    rw [e2]
    constructor
    · rintro (h | h)
      · exact .inl h
      · subst h; exact .inr ⟨rfl, rfl⟩
    · rintro (h | ⟨h1, h2⟩)
      · exact .inl h
      · refine .inr ?_
        obtain ⟨q1, q2⟩ := q
        simp only [Option.some.injEq] at h1
        dsimp only at h2
        rw [h1, h2]
section
variable {al : List Nat} {ps : List (Nat × Nat)}
theorem CT_row (hnd : al.Nodup) (h : Proper al ps) {R : List Nat} (hR : ∀ x ∈ R, x < al.length + ps.length) : CT al ps (textR (textsOf al ps) R) = R ↔ ∀ q ∈ adjs R, ∀ r, ¬ Cross al.length ps q.1 q.2 r := by
  rw [← cut_row_iff (h.good hnd) hR, Dn_texts hnd h hR]
theorem textR_one (p : Nat) : textR (textsOf al ps) [p] = TX al ps p := by simp [textR]
/-- a text with a piece behind it -/
theorem CT_app (hnd : al.Nodup) (h : Proper al ps) {u : List Nat} {p : Nat} (hu : ∀ c ∈ u, c ∈ al) (hp : p < al.length + ps.length) :
    CT al ps (u ++ TX al ps p) = CT al ps u ++ [p] ↔ ∀ y, (CT al ps u).getLast? = some y → ∀ r, ¬ Cross al.length ps y p r := by
  have hC : ∀ x ∈ CT al ps u, x < al.length + ps.length := cut_lt hu
  have hR : ∀ x ∈ CT al ps u ++ [p], x < al.length + ps.length := fun x hx => (List.mem_append.mp hx).elim (hC x) fun z => by rw [List.mem_singleton.mp z]; exact hp
  have e1 : textR (textsOf al ps) (CT al ps u ++ [p]) = u ++ TX al ps p := by rw [textR_app, text_cut h.wf hu, textR_one]
  have e2 : CT al ps (textR (textsOf al ps) (CT al ps u)) = CT al ps u := by rw [text_cut h.wf hu]
  have e3 := CT_row hnd h hR
  rw [e1] at e3
  rw [e3]
  constructor
  · intro k y hy r
    exact k (y, p) (adjs_snoc.mpr (.inr ⟨hy, rfl⟩)) r
  · intro k q hq r
    rcases adjs_snoc.mp hq with z | ⟨z1, z2⟩
    · exact (CT_row hnd h hC).mp e2 q z r
    · rw [z2]; exact k _ z1 r
/-- the last piece of the cut of a text -/
theorem CT_last (hnd : al.Nodup) (h : Proper al ps) {t : List Nat} (ht : ∀ c ∈ t, c ∈ al) (hne : t ≠ []) : ∃ x u, (CT al ps t).getLast? = some x ∧ x < al.length + ps.length ∧ t = u ++ TX al ps x ∧ CT al ps t = CT al ps u ++ [x] ∧ 0 < (TX al ps x).length := by
  have htx := text_cut (ps := ps) h.wf ht
  rcases List.eq_nil_or_concat (CT al ps t) with z | ⟨D, x, z⟩
  · rw [show cutL al.length ps (lets al t) = [] from z] at htx
    exact absurd htx.symm hne
  · rw [List.concat_eq_append] at z
    have hlt : ∀ y ∈ D ++ [x], y < al.length + ps.length := by rw [← z]; exact cut_lt ht
    have hx : x < al.length + ps.length := hlt x (by simp)
    have hD : ∀ y ∈ D, y < al.length + ps.length := fun y hy => hlt y (by simp [hy])
    rw [show cutL al.length ps (lets al t) = D ++ [x] from z, textR_app, textR_one] at htx
    have hrow := (CT_row hnd h hlt).mp (by rw [← z]; show CT al ps (textR (textsOf al ps) (CT al ps t)) = CT al ps t; rw [text_cut h.wf ht])
    have hDc : CT al ps (textR (textsOf al ps) D) = D := (CT_row hnd h hD).mpr fun q hq => hrow q (adjs_snoc.mpr (.inl hq))
    exact ⟨x, textR (textsOf al ps) D, by rw [z]; simp, hx, htx.symm, by rw [z, hDc], texts_pos h.wf x hx⟩
/-- the last piece -/
def tailOf (al : List Nat) (ps : List (Nat × Nat)) (t : List Nat) : Nat := ((CT al ps t).getLast?).getD 0
/-- where a piece that ends a text may stand, it is the last one -/
theorem tail_uniq (hnd : al.Nodup) (h : Proper al ps) {t u : List Nat} {p : Nat} (ht : ∀ c ∈ t, c ∈ al) (hp : p < al.length + ps.length) (e : t = u ++ TX al ps p) (hb : u = [] ∨ ∀ r, ¬ Cross al.length ps (tailOf al ps u) p r) :
    p = tailOf al ps t ∧ CT al ps t = CT al ps u ++ [p] := by
  have hu : ∀ c ∈ u, c ∈ al := fun c hc => ht c (by rw [e]; exact List.mem_append_left _ hc)
  have key : CT al ps t = CT al ps u ++ [p] := by
    rw [e]
    refine (CT_app hnd h hu hp).mpr fun y hy r => ?_
    rcases hb with rfl | hb
    · rw [show CT al ps [] = [] from cut_nil _ _] at hy; cases hy
    · have : tailOf al ps u = y := by unfold tailOf; rw [hy]; rfl
      rw [← this]; exact hb r
  refine ⟨?_, key⟩
  unfold tailOf
  rw [key]; simp
/-- the last piece stands so -/
theorem tail_ex (hnd : al.Nodup) (h : Proper al ps) {t : List Nat} (ht : ∀ c ∈ t, c ∈ al) (hne : t ≠ []) : ∃ u, tailOf al ps t < al.length + ps.length ∧ t = u ++ TX al ps (tailOf al ps t) ∧ CT al ps t = CT al ps u ++ [tailOf al ps t] ∧ 0 < (TX al ps (tailOf al ps t)).length ∧
    (u = [] ∨ ∀ r, ¬ Cross al.length ps (tailOf al ps u) (tailOf al ps t) r) := by
  obtain ⟨x, u, h1, h2, h3, h4, h5⟩ := CT_last hnd h ht hne
  have e : tailOf al ps t = x := by unfold tailOf; rw [h1]; rfl
  rw [e]
  refine ⟨u, h2, h3, h4, h5, ?_⟩
  by_cases hu : u = []
  · exact .inl hu
  · have hul : ∀ c ∈ u, c ∈ al := fun c hc => ht c (by rw [h3]; exact List.mem_append_left _ hc)
    obtain ⟨y, _, g1, _⟩ := CT_last hnd h hul hu
    have ey : tailOf al ps u = y := by unfold tailOf; rw [g1]; rfl
    rw [ey]
    exact .inr ((CT_app hnd h hul h2).mp (by rw [← h3]; exact h4) y g1)
/-- the tails of the beginnings of a text -/
def tailsL (al : List Nat) (ps : List (Nat × Nat)) (t : List Nat) (n : Nat) : List Nat := (List.range n).map fun k => tailOf al ps (t.take (k + 1))
theorem tailsL_len (t : List Nat) (n : Nat) : (tailsL al ps t n).length = n := by unfold tailsL; rw [List.length_map, List.length_range]
theorem tailsL_succ (t : List Nat) (n : Nat) : tailsL al ps t (n + 1) = tailsL al ps t n ++ [tailOf al ps (t.take (n + 1))] := by
  unfold tailsL; rw [List.range_succ, List.map_append]; rfl
theorem tailsL_get (t : List Nat) {n k : Nat} (hk : k < n) : (tailsL al ps t n)[k]? = some (tailOf al ps (t.take (k + 1))) := by
  unfold tailsL; rw [List.getElem?_map, List.getElem?_range hk]; rfl
theorem tailsL_lt (hnd : al.Nodup) (h : Proper al ps) {t : List Nat} (ht : ∀ c ∈ t, c ∈ al) {n : Nat} (hn : n ≤ t.length) : ∀ x ∈ tailsL al ps t n, x < al.length + ps.length := fun x hx => by
  unfold tailsL at hx
  obtain ⟨k, hk, rfl⟩ := List.mem_map.mp hx
  have hk' := List.mem_range.mp hk
  have hne : t.take (k + 1) ≠ [] := fun z => by
    have := congrArg List.length z
    rw [List.length_take, List.length_nil] at this; omega
  obtain ⟨u, h1, _⟩ := tail_ex hnd h (t := t.take (k + 1)) (fun c hc => ht c (List.mem_of_mem_take hc)) hne
  exact h1
end
end RJ
namespace RJ
theorem tailsL_take {al : List Nat} {ps : List (Nat × Nat)} (t : List Nat) {n m : Nat} (h : n ≤ m) : tailsL al ps (t.take m) n = tailsL al ps t n := by
  unfold tailsL
  refine List.map_congr_left fun k hk => ?_
  have hk' := List.mem_range.mp hk
  rw [List.take_take, Nat.min_eq_left (by omega)]
end RJ
namespace RJ
section
variable {al : List Nat} {ps : List (Nat × Nat)}
/-- exactly the last piece fits -/
theorem fit_iff (hnd : al.Nodup) (h : Proper al ps) {t : List Nat} {p : Nat} (ht : ∀ c ∈ t, c ∈ al) (hne : t ≠ []) (hp : p < al.length + ps.length) :
    p = tailOf al ps t ↔ ∃ u, t = u ++ TX al ps p ∧ (u = [] ∨ ∀ r, ¬ Cross al.length ps (tailOf al ps u) p r) := by
  constructor
  · rintro rfl
    obtain ⟨u, _, h2, _, _, h5⟩ := tail_ex hnd h ht hne
    exact ⟨u, h2, h5⟩
  · rintro ⟨u, h1, h2⟩
    exact (tail_uniq hnd h ht hp h1 h2).1
theorem pair_iff (hnd : al.Nodup) (h : Proper al ps) {x y : Nat} (hx : x < al.length + ps.length) (hy : y < al.length + ps.length) : CT al ps (TX al ps x ++ TX al ps y) = [x, y] ↔ ∀ r, ¬ Cross al.length ps x y r := by
  have hx' : x < (textsOf al ps).length := by rw [textsOf_len]; exact hx
  have e : (textsOf al ps)[x]? = some (TX al ps x) := by
    rw [List.getElem?_eq_getElem hx']
    show _ = some ((textsOf al ps).getD x [])
    rw [List.getD_eq_getElem?_getD, List.getElem?_eq_getElem hx']; rfl
  have hc : CT al ps (TX al ps x) = [x] := cut_piece hnd h x _ e
  have hin : ∀ c ∈ TX al ps x, c ∈ al := textsOf_al _ (List.mem_of_getElem? e)
  have := CT_app hnd h hin hy
  rw [hc] at this
  rw [show ([x, y] : List Nat) = [x] ++ [y] from rfl, this]
  constructor
  · intro k; exact k x rfl
  · intro k z hz; cases hz; exact k
end
end RJ
end

section
set_option maxRecDepth 100000
namespace RJ
open PySem PySem.Spec PyProof.Rows L2
set_option maxRecDepth 8000 in
theorem extend_tuple (l : Addr) (items : Array Value) (n : Nat) (b : Addr) (o : Obj) (items2 : Array Value) (n2 : Nat) (ho1 : o.cls = .type "tuple") (ho2 : o.data = .seq items2 n2) (hs0 : ¬(!items.isEmpty && Builtin.List.listTooLong (items.size + items2.size)) = true) (hs1 : items.size ≤ sizeLine) (hs2 : items.size + items2.size ≤ sizeLine + 1) :
    Meets (Builtin.«list.extend» ⟨[.ref l, .ref b], []⟩) (fun _ R s => s.heap.get? l = some { cls := .type "list", dict := none, data := .seq items n, slots := #[] } ∧ s.heap.get? b = some o ∧ R (.ok (.ret Value.none)) { s with heap := s.heap.update l (Obj.mapSeq fun x => x ++ items2), toks := s.toks }) :=
  .of_wp fun prog w A R s h => by
    obtain ⟨hp, g, d, tk, os⟩ := s; obtain ⟨hl, hb, h⟩ := h; obtain ⟨c, dd, da, sl⟩ := o; dsimp only at ho1 ho2; subst ho1 ho2; have f1 := PySem.AutoSeq1.idx_int; have f2 := PySem.AutoSeq1.sub_tuple_tuple; have f3 := PySem.AutoSeq1.sub_list_list; have f4 := PySem.AutoSeq1.sub_tuple_list; have f5 := PySem.AutoSeq1.sub_list_tuple;
    have hz' : (items ++ items2).size ≤ sizeLine + 1 := by rw [Array.size_append]; exact hs2
    wp_walk using (wpAny_updateSeq hl rfl (hz := hs1) (_hz' := hz')), wpAny_loadPart' hl, wpAny_loadPart' hb; exact ⟨_, rfl, h⟩
def rExtendA (K : PySem.W.Frag) : V → List V → Hp → VK → Prop := fun x vs H Q => ∃ l b xs zs, x = .ref l ∧ vs = [.ref b] ∧ H l = some (.lst xs) ∧ SqT K H b zs ∧ xs.length + zs.length ≤ sizeLine ∧ Q .non (upd H l (.lst (xs ++ zs)))
section
variable {X : Cx}
/-- l.extend(a tuple) -/
theorem mt_extendT : MtM X "list.extend" (rExtendA X.K) := by
  intro pins s σ H x vs v us Q I rx rv h
  obtain ⟨l, b, xs, zs, rfl, rfl, hH, hB, hz, q⟩ := h
  cases rx
  obtain ⟨u, rfl, ru⟩ := rv.one
  cases ru
  obtain ⟨z, its, n, r, hl, e⟩ := I.lstM hH
  obtain ⟨its2, r2, ⟨o, e2, ho, n2, hd⟩, z2⟩ := I.tuple hB
  have hl2 := r2.length
  have hsz : its.toArray.size + its2.toArray.size ≤ sizeLine := by rw [List.size_toArray, List.size_toArray]; omega
  have hlong : ¬ (!its.toArray.isEmpty && Builtin.List.listTooLong (its.toArray.size + its2.toArray.size)) = true := by
    rw [notLongL hsz, Bool.and_false]
    exact Bool.false_ne_true
  refine call_meets F.slot_list_extend ⟨_, e, rfl⟩ F.entry_list_extend (F.args_list_extend_2 _ _)
    (extend_tuple l its.toArray n b o its2.toArray n2 ho hd hlong (by rw [List.size_toArray]; omega) (by omega)) ⟨e, e2, ?_⟩
  refine ⟨.non, _, I.lset (its' := its ++ its2) hH e (by simp) (r.append r2) ?_, rfl, q⟩
  rw [List.length_append]
  omega
end
open PySem.W (minD AlikeAll alike alikeAll dataLt)
/-- min(l, default=x) of alike data -/
def rMinDV (K : PySem.W.Frag) : List V → List V → Hp → VK → Prop := fun vs zs H Q => ∃ (a : Addr) (xs : List V) (ds : List PyData) (z : V), vs = [V.ref a] ∧ zs = [z] ∧ H a = some (.lst xs) ∧ DpAll K H xs ds ∧ AlikeAll ds ∧ PyData.depthAll ds ≤ 60 ∧
  (ds = [] → Q z H) ∧ ∀ (d : PyData) (ds' : List PyData) (i : Nat) (x : V), ds = d :: ds' → xs[i]? = some x → ds[i]? = some (minD d ds') → Q x H
theorem cr_minDV {X : Cx} (hc : X.calm = true) (hu : X.A.units + 64 < cLine) : CallRK X (.builtin "min") [Str.ofString "default"] (rMinDV X.K) := by
  intro pins s σ H xs0 zs us ws Q I r rz h
  obtain ⟨a, xs, ds, zv, rfl, rfl, ha, hd, hal, hdep, q0, q1⟩ := h
  obtain ⟨its, rv, hl, _⟩ := I.list (SqL.of ha)
  rw [Vals.ref1 r]
  obtain ⟨u, rfl, ru⟩ := vals1 rz
  obtain ⟨as, hr⟩ := Dp.readsAll I ds xs its hd rv
  show wpAny _ _ (call (.builtin "min") [.ref a] [(Str.ofString "default", u)]) _ _ s
  refine PySem.W.min_list_default (I.ok.hd hc) hl.isList hr hal (by omega) (fun e h' tk hk => ⟨zv, H, I.kept hk, ru, q0 e⟩) fun y ys i v h' tk bs e hv hrd hk => ?_
  have hv' : its[i]? = some v := by simpa using hv
  have hl2 := rv.length
  have hi : i < xs.length := by
    have := (List.getElem?_eq_some_iff.mp hv').1
    omega
  obtain ⟨u2, hu2, ru2⟩ := rv.get (List.getElem?_eq_getElem hi)
  rw [hv'] at hu2
  cases hu2
  obtain ⟨d2, bs2, hd2, hr2⟩ := readsAll_ix hr hv'
  have heq : d2 = minD y ys := ((PyProof.Rows.reads_det (h := s.heap) (h' := h') (fun b o e _ => hk b o e) hr2 hrd).1).symm
  exact ⟨xs[i], H, I.kept hk, ru2, q1 y ys i _ e (List.getElem?_eq_getElem hi) (by rw [hd2, heq])⟩
end RJ
namespace RJ
open PySem PySem.Spec PyProof.Rows L2
section
variable {X : Cx}
/-- name = {..} on one line, the name a local -/
theorem ps_setDc {i : Nat} {y : Str} {py : Pos} {kx vx tg iter : Expr} {ifs : List Expr} {scope : Scope} {own : List (Str × Nat)} {pos spos : Pos} {wi : TI} {g : TG} {tt : TT} {tk tv : TE} (hc : X.calm = true) (hN : X.N.Nodup) (hy : X.N[i]? = some y) (hyl : X.env.scope.names.lookup y = some .local)
    (hsw : swapsWith (.DictComp kx vx [⟨tg, iter, ifs, 0⟩] scope pos) (some (.Name y py)) spos.line X.env = pure true) (hi : PI X tg iter wi) (ok : BlkOk X.N X.env.scope scope own)
    (hg : ∀ (s : Shared) (H : Hp) (C : Addr) (cl : List (Str × Addr)) (fp : List Addr), PG (X.blk s H scope (compEnvC scope cl C X.env) fp) tg g) (ht : ∀ (s : Shared) (H : Hp) (C : Addr) (cl : List (Str × Addr)) (fp : List Addr), PTs (X.blk s H scope (compEnvC scope cl C X.env) fp) ifs tt)
    (hk : ∀ (s : Shared) (H : Hp) (C : Addr) (cl : List (Str × Addr)) (fp : List Addr), PE (X.blk s H scope (compEnvC scope cl C X.env) fp) kx tk)
    (he : ∀ (s : Shared) (H : Hp) (C : Addr) (cl : List (Str × Addr)) (fp : List Addr), PE (X.blk s H scope (compEnvC scope cl C X.env) fp) vx tv) (hs : ∀ x, foldedSetIterable iter X.env x = pure x := by intro _; rfl) :
    PS X (.Assign [.Name y py] (.DictComp kx vx [⟨tg, iter, ifs, 0⟩] scope pos) spos) (tAsg (tDc wi g tt tk tv (own.map (·.2))) (gName i)) := by
  refine ⟨fun pins s σ H D I h => ?_⟩
  rw [exec_Assign_Name_used _ _ _ _ hsw]
  refine wpAny_bind (wpAny_standAt (wpAny_bind ?_))
  show wpAny _ X.A (do let _ ← comprehension (.DictComp kx vx [⟨tg, iter, ifs, 0⟩] scope pos) scope X.env (firstIterPos [⟨tg, iter, ifs, 0⟩] pos) newDict false (eval iter X.env) (some (assign (.Name y py) X.env))) _ _ s
  have h : tDc wi g tt tk tv (own.map (·.2)) σ H (fun x H1 => gName i x σ H1 D.nx) := h
  refine wpAny_bind (thn (dc_core (Qf := fun _ s' => SP X pins D .next s') hc hN I hi ok hg ht hk he hs h fun L C s' m H' I' q hn f => ?_) fun _ s' hq => wpAny_pure (wpAny_pure hq))
  show wpAny _ _ (assign (.Name y py) X.env (.ref L)) _ _ _
  refine wpAny_assign_Name (store_ok2 (v := V.ref L) I' hN hy (.inl hyl) rfl (fun s2 I2 ⟨a, sb, ha⟩ => ?_) (.inr hyl))
  obtain ⟨f0, f1, f2, f3, f4, f5⟩ := f
  have haC : C ≠ a := by
    rcases ha with z | z
    · rw [z]; exact f1
    · exact fun e => f4 y a z e.symm
  refine ⟨m, hn.sameBut sb haC, fun h3 sb3 => ?_⟩
  exact ⟨_, H', I2.turned (t' := s2.toks) (fun b o hb e => (sb3.2 b hb).trans e) f0 f1 f3 f4 f5, q⟩
theorem sw_trueD {kx vx : Expr} {gs : List Comprehension} {scope : Scope} {pos py : Pos} {y : Str} {l : Nat} {env : Env} (hk : env.scope.kind = .function) (hy : env.scope.names.lookup y = some .local) (hl : (py.line == pos.line) = true)
    (ha : (scope.names.any fun (n, k) => n == y && (k == .local || k == .cell)) = false) : swapsWith (.DictComp kx vx gs scope pos) (some (.Name y py)) l env = pure true := by
  have ky : env.kindOf y = some .local := hy
  have hb : env.blockKind = .function := by unfold Env.blockKind; rw [hk]; rfl
  unfold swapsWith
  simp only [hb, ky, ha, Expr.pos, hl]
  rfl
end
end RJ
end

section
set_option maxRecDepth 100000
set_option maxHeartbeats 2000000
namespace RJ
open PySem PySem.Spec PyProof.Rows L2
/-! ### a property that is read where an error is handled -/
structure PrpH (P : Program) (w : World) (K : PySem.W.Frag) (mg : Str → Option Value) (base : Heap) (k : Nat) (C : Addr) (m : Str) (sp : Sp) : Prop where
  ex : ∃ (p g : Addr) (fd : FuncData) (ps : List Str), Cls K C ∧ PropOf K C m p g ∧ L2H.FnH P w K mg base C8.CX0 k g fd ps sp ∧ Binds K fd ps []
theorem roomH_in1 {k : Nat} {A : Around} (r : L2H.RoomH (k + 1) A) : L2H.RoomH k A.in1 := by
  have h1 := r.dp
  have h2 := r.un
  exact ⟨by show A.depth + 3 * k + 5 < _; omega, by show A.units + 1 + 16 * k + 200 < _; omega⟩
section
variable {X : Cx} {k j : Nat} {C p g a dx : Addr} {fs : List (Str × V)} {f m : Str} {fd : FuncData} {ps : List Str} {sp : Sp} {e : Expr} {pos : Pos} {ta : TE}
theorem getprop_okH {pins : List (Addr × Obj)} {σ : L2.St} {H : Hp} {s : Shared} {Q : VK} {b : Bool} {E' : Value → Shared → Prop} (I : Inv X pins σ H s) (ea : H a = some (.ins C dx fs)) (c : Cls X.K C) (hp : PropOf X.K C f p g)
    (F : L2H.FnH X.prog X.w X.K X.mg X.base C8.CX0 k g fd ps sp) (hr : L2H.RoomH (k + 1) X.A) (hot : L2H.HotC X) (hb : Binds X.K fd ps []) (h : sp [.ref a] H Q C8.E0) :
    wpAny (model X.prog X.w) X.A (getAttr (.ref a) f b) (EP X pins σ Q) E' s := by
  obtain ⟨mA, O, _, _, _, _⟩ := ins_get I.hok ea
  obtain ⟨od, J, _⟩ := O.look
  obtain ⟨rest, hrec⟩ := hp.rec_
  have I1 := I.tok (s.toks + 1)
  obtain ⟨pp, hot1, hpn⟩ := hot
  have hl : ([Value.ref a] ++ []).length = ps.length := by
    rw [← F.len _ _ _ _ h]; rfl
  have hc : (PySem.W.clsIn X.K C).isSome = true := by
    obtain ⟨cd, hc, _⟩ := PySem.W.any_some c.hd
    rw [hc]
    rfl
  have P1 := I1.pin pp (List.mem_append_left _ hpn)
  have hpin : L2H.PinOk X.stack H { s with toks := s.toks + 1 } pp := ⟨P1.1, P1.2.1, fun hm => (List.mem_cons.mp (I1.stkSub pp.1 hm)).elim P1.2.2.1 P1.2.2.2.1, P1.2.2.2.2⟩
  refine PySem.W.get_bind I.kIn J (PySem.W.plainGet_of (c.get f)).1 (PySem.W.findObj_data hc hp.at_ hp.get hp.tak) (PySem.W.plainGet_of (c.get f)).2 (wpAny_call (PySem.W.prop_get (s := { s with toks := s.toks + 1 }) I.kIn hrec ?_))
  refine codeAny_mono (F.run X.A.in1 X.stack { s with toks := s.toks + 1 } H ⟨[.ref a], []⟩ [.ref a] [.ref a] Q C8.E0 pp (roomH_in1 hr) hot1 hpin I1.env0.in1 (hb _ [.ref a] I1.kIn hl) (.cons rfl .nil) h) fun r s' hq => ?_
  cases r with
  | error er => exact False.elim hq
  | ok fl =>
    cases fl with
    | ret u =>
      obtain ⟨v, H', I3, rv, q3⟩ := I1.after hq
      show wpAny _ _ (handedOut u) _ _ _
      rw [PySem.W.handedOut_of (handed_of rv)]
      exact wpAny_pure ⟨v, H', I3, rv, q3⟩
    | next => exact False.elim hq
    | brk => exact False.elim hq
    | cont => exact False.elim hq
theorem walks_listHot {prog : Program} {w : World} {A : Around} (I ax x1 : Addr) (hne : ax ≠ I) (hx : x1 ≠ I) (items : Array Value) :
    Walks prog w A I [I, ax, x1] [I] items.size (fun i v => items[i]? = some v) (fun i h => h.IsListIter I ax i ∧ h.IsList ax items ∧ HotX.HotAt A x1 h) where
  sub := fun b hb => by simp at hb; simp [hb]
  frame := fun _ _ _ st hk => by
    obtain ⟨s1, s2, hh, o, vs, e1, e2, e3⟩ := st
    exact ⟨s1.at fun o e => hk I (by simp) o e, s2.at fun o e => hk ax (by simp) o e, hh, o, vs, hk x1 (by simp) o e1, e2, e3⟩
  item := fun i s Q E hi st hQ => by
    obtain ⟨s1, s2, hh, o, vs, e1, e2, e3⟩ := st
    refine wpAny_pyNext_list_item s1 s2 (x := items[i]) (by simp [hi]) fun h' hit' hs' => ?_
    exact hQ _ h' s.toks (by simp [hi]) ⟨hit', s2.extBut hs'.extBut hne, hh, o, vs, hs'.extBut x1 o hx e1, e2, e3⟩ fun b o hb e => hs'.extBut b o (fun h => hb (by simp [h])) e
  done := fun s Q E st hQ => by
    obtain ⟨s1, s2, hot⟩ := st
    exact rj_list_end_hot hot hx s1 s2 (by simp) fun h' he' => hQ h' s.toks fun b o hb e => he' b o (fun h => hb (by simp [h])) e
  self := fun _ _ _ _ st hQ => wpAny_pyIter_listiter st.1 hQ
theorem sum_hot {prog : Program} {w : World} {A : Around} {E : Value → Shared → Prop} {s : Shared} {l x1 : Addr} {its : List Value} {ns : List Int} {Q : Value → Shared → Prop} (hot : HotX.HotAt A x1 s.heap) (hl : s.heap.IsList l its.toArray) (hi : IntsAre its ns)
    (h : ∀ h' tk t', (∀ b o, s.heap.get? b = some o → h'.get? b = some o) → Q (.int ns.sum t') { s with heap := h', toks := tk }) : wpAny (model prog w) A (call (.builtin "sum") [.ref l]) Q E s := by
  obtain ⟨xs, e⟩ := hi.allInts.items
  have hn : numsOf (intItems xs).toList = ns := by rw [← e]; exact hi.numsOf
  rw [nums_intItems] at hn
  rw [e] at hl
  obtain ⟨hh, o, vs, e1, e2, e3⟩ := hot
  have hlt := Heap.lt_size e1
  refine call_sum_walkG (iter_intList hl fun s₂ es st hfp hlI => ?_)
  subst es
  refine ⟨_, _, _, _, _, _, numAt xs, rfl, walks_listHot (A := A.in1) _ l x1 hlI (Nat.ne_of_lt hlt) (intItems xs), ⟨st.1, st.2, hh, o, vs, Heap.get?_push_of_some _ e1, e2, e3⟩, fun b hb => ?_, (fun _ _ => intItems_at), fun h' tk t' hk => ?_⟩
  · rcases List.mem_cons.mp hb with r | hb
    · exact hfp b (by simp [r])
    rcases List.mem_cons.mp hb with r | hb
    · exact hfp b (by simp [r])
    · rw [List.mem_singleton.mp hb]
      show x1 < (s.heap.push _).objs.size
      rw [Heap.size_push]; exact Nat.lt_succ_of_lt hlt
  · have := h h' tk t' (old_kept hk)
    rw [← hn] at this
    rw [show (intItems xs).size = xs.size by simp [intItems], preSum_eq, List.take_of_length_le (by simp)]; exact this
theorem cr_sumH (hot : L2H.HotC X) : CallR X (.builtin "sum") (rSum X.K) := by
  intro pins s σ H vs us Q I r h
  obtain ⟨a, ns, rfl, hs, q⟩ := h
  obtain ⟨its, rv, hl, _⟩ := I.list hs
  obtain ⟨x1, ht⟩ := hot.at I
  rw [Vals.ref1 r]
  exact sum_hot ht hl.isList rv.ints fun h' tk t' hk => ⟨.int _, H, I.kept hk, ⟨_, rfl⟩, q⟩
theorem pe_prpH (c : PrpH X.prog X.w X.K X.mg X.base k C m sp) (hr : L2H.RoomH j X.A) (hk : k + 1 ≤ j) (hot : L2H.HotC X) (he : PE X e ta)
    (hab : attributeBase e m X.env (eval e X.env) = eval e X.env := by rfl) : PE X (.Attribute e m pos) (tProp C sp [] C8.E0 ta) := by
  obtain ⟨p, g, fd, ps, hc, hp, F, b⟩ := c.ex
  refine ⟨fun pins s σ H Q I h => ?_⟩
  refine attr_of hab (thn (he.run pins s σ H _ I h) fun u s1 ⟨x, H1, I1, rx, a, dx, fs, ex, ea, q⟩ => ?_)
  subst ex
  obtain rfl : u = Value.ref a := rx
  exact getprop_okH I1 ea hc hp F (hr.mono hk) hot b q
end
end RJ
end

section
set_option maxRecDepth 100000
set_option maxHeartbeats 2000000
namespace PySem
open PySem.Spec PyProof.Rows
section
variable {prog : Program} {w : World} {A : Around} {E : Value → Shared → Prop} {s : Shared}
/-- repr of a tuple, whatever is under way -/
theorem rj_repr_tuple {a : Addr} {o : Obj} {items : Array Value} {n : Nat} {ts : List Str} {Q : Value → Shared → Prop} (hu : A.units + 2 < cLine) (ha : s.heap.get? a = some o) (hc : o.cls = .type "tuple") (hd : o.data = .seq items n) (hT : ReprAll prog w items.toList ts) (hsz : (tupleText ts).length ≤ sizeLine)
    (h : ∀ (m : Str) (u tk : Tok), m.length ≤ (tupleText ts).length + 5 → Q (.str m u) { s with toks := tk }) : wpAny (model prog w) A (pyReprObj (.ref a)) Q E s := by
  have hTy : s.TypeIs (.ref a) "tuple" := ⟨o, ha, hc⟩
  unfold pyReprObj
  refine wpAny_bind (wpAny_cRoomFor (by omega) ?_)
  refine wpAny_bind (wpAny_specialOf (name := Str.ofString "__repr__") hTy F.slot_tuple_repr.lookup ?_)
  refine wpAny_bind (m := callSpecialIfBound? (.ref a) (Str.ofString "__repr__")) (wpAny_callSpecialIfBound?_slotG (name := Str.ofString "__repr__") hTy F.slot_tuple_repr
    (fmt_tuple_repr ha hc hd hT hsz fun m u tk hm => ?_))
  exact wpAny_bind (wpAny_isInstance (T := "str") (b := true) rfl isSubtype_str_str (wpAny_pure (h m u tk hm)))
end
end PySem
namespace RJ
open PySem PySem.Spec PyProof.Rows L2
theorem reprI_all {prog : Program} {w : World} : ∀ {l : List Int} {its : List Value}, Vals (l.map V.int) its → (∀ i ∈ l, i.natAbs.log2 < 1920) → ReprAll prog w its (l.map fun i => Str.ofString (toString i))
  | [], _, r, _ => by
    cases r
    exact .nil
  | i :: l, _, r, h => by
    cases r with
    | cons r1 r2 =>
      obtain ⟨t, rfl⟩ := r1
      exact .cons (ReprIs.int t (h i List.mem_cons_self)) (reprI_all r2 fun z hz => h z (List.mem_cons_of_mem _ hz))
theorem piledI : ∀ l : List Int, (∀ i ∈ l, (Str.ofString (toString i)).length ≤ 100) → piled (l.map fun i => Str.ofString (toString i)) ≤ 102 * l.length
  | [], _ => Nat.le_refl _
  | i :: l, h => by
    rw [List.map_cons, piled_cons, List.length_cons]
    have h1 := h i List.mem_cons_self
    have h2 := piledI l fun z hz => h z (List.mem_cons_of_mem _ hz)
    omega
/-- {t!r}, t a tuple of ints: some text -/
def tFmtRT (K : PySem.W.Frag) (te : TE) : TE := fun σ H Q => te σ H fun x H1 => ∃ (a : Addr) (l : List Int), x = .ref a ∧ SqT K H1 a (l.map V.int) ∧ (∀ i ∈ l, i.natAbs.log2 < 1920 ∧ (Str.ofString (toString i)).length ≤ 100) ∧ l.length ≤ 10000 ∧ ∀ m : Str, m.length ≤ 102 * l.length + 7 → Q (.str m) H1
theorem pe_fmtRT {X : Cx} {e : Expr} {te : TE} {pos : Pos} {k : Nat} (hr : Room k X.A) (he : PE X e te) : PE X (.FormattedValue e 114 none pos) (tFmtRT X.K te) := by
  refine ⟨fun pins s σ H Q I h => ?_⟩
  refine wpAny_FormattedValue_repr (thn (he.run pins s σ H _ I h) fun v s1 hv => ?_)
  obtain ⟨x, H1, I1, r1, a, l, rfl, ht, hc, hz, q⟩ := hv
  cases r1
  obtain ⟨its, rv, ⟨o, ho, hcl, n, hd⟩, _⟩ := I1.tuple ht
  have hp := piledI l fun i hi => (hc i hi).2
  have htx := fmt_text (l.map fun i => Str.ofString (toString i))
  have hu := hr.units
  have hsl : sizeLine = 16777216 := sizeLine_eq
  refine rj_repr_tuple (ts := l.map fun i => Str.ofString (toString i)) (by omega) ho hcl hd (reprI_all rv fun i hi => (hc i hi).1) (by omega) fun m u tk hm => ?_
  have hm' : m.length ≤ 102 * l.length + 7 := by omega
  exact wpAny_formatField_str ⟨.str m, H1, I1.tok _, ⟨_, rfl⟩, q m hm'⟩ ⟨.str m, H1, I1.tok _, ⟨_, rfl⟩, q m hm'⟩ (by omega)
theorem pe_tupleOfK {X : Cx} {K : PySem.W.Frag} {a : Expr} {ta : TE} {p pos : Pos} (h : X.K = K) (hg : Gl X "tuple") (hm : X.mg "tuple" = none) (ha : PE X a ta) (na : starEach [a] X.env = (false, eval a X.env) :: starEach [] X.env := by rfl) :
    PE X (.Call (.Name "tuple" p) [a] [] pos) (tThen ta (kTup K)) := by subst h; exact pe_tupleOf hg hm ha na
end RJ
end

section
set_option maxRecDepth 100000
set_option maxHeartbeats 2000000
namespace PySem
open PySem.Spec PyProof.Rows Sem
section
/-- repr of a list, whatever is under way -/
theorem rj_list_head {M : Model} {A : Around} {E : Value → Shared → Prop} {s : Shared} {Q : Fin → Shared → Prop} {a : Addr} {o : Obj} {x : Value} {l : List Value} {n} {b : Nat}
    (hget : s.heap.get? a = some o) (hd : o.data = .seq (x :: l).toArray n)
    (h : wpAny M A (do again (.builtin "list.__repr__.loop" ⟨[.ref a, rawInt 0, ← newList [], rawInt b], []⟩)) Q E s)
    (h2 : wpAny M A (do rule "list.__repr__.in-itself"; retStr "[...]") Q E s) : wpAny M A (Builtin.listReprAt b ⟨[.ref a], []⟩) Q E s := by
  intro Γ p hΓ
  have h1 := h Γ p hΓ
  have h3 := h2 Γ p hΓ
  unfold Builtin.listReprAt
  simp [slotArgs, Builtin.List.listItems, seqItems?, wp_load_of (h := hget), hd, stack]
  show wp M Γ (if (Γ.below.any _) = true then _ else _) _ _ p s
  split
  · exact h3
  · exact h1
variable {prog : Program} {w : World} {A : Around} {E : Value → Shared → Prop} {s : Shared}
theorem rj_lway : ("[...]" : Str).length ≤ 5 := by decide +kernel
theorem rj_repr_list {Q : Value → Shared → Prop} {a : Addr} {oa : Obj} {x : Value} {l : List Value} {na : Nat} {ts : List Str} (hTy : s.TypeIs (.ref a) "list") (hu : A.units < cLine)
    (ha : s.heap.get? a = some oa) (hda : oa.data = .seq (x :: l).toArray na) (hlen : ts.length = (x :: l).toArray.size)
    (hT : ∀ (i : Nat) (y : Value), (x :: l).toArray[i]? = some y → ∃ t, ts[i]? = some t ∧ ReprIs prog w y t)
    (hQ : ∀ (m : Str) h' u tk, m.length ≤ (listText ts).length + 5 → (∀ b o, s.heap.get? b = some o → h'.get? b = some o) → Q (.str m u) { s with heap := h', toks := tk })
    (hsz : (listText ts).length ≤ sizeLine) :
    wpAny (model prog w) A (pyReprObj (.ref a)) Q E s := by
  unfold pyReprObj
  refine wpAny_bind (wpAny_cRoomFor hu ?_)
  refine wpAny_bind (wpAny_specialOf (name := Str.ofString "__repr__") hTy F.slot_list_repr.lookup ?_)
  refine wpAny_bind (m := callSpecialIfBound? (.ref a) (Str.ofString "__repr__")) (wpAny_callSpecialIfBound?_slot (name := Str.ofString "__repr__") hTy F.slot_list_repr ?_)
  refine wpAny_call (codeAny_call_builtin F.slot_list_repr.plain F.entry_list_repr (F.slot_list_repr.check _ _ _ _ _ _ _ _ hTy (F.args_list_repr_1 _) ?_))
  refine rj_list_head (A := A.in1) ha hda ?_ ?_
  · refine wpAny_bind (m := newList []) (wpAny_newObj_type ?_)
    refine wpAny_pure ⟨F.quiet_list_repr_loop _, ?_⟩
    refine codeAny_list_repr_start (P := s.heap.objs.size) (b := 0) (Nat.ne_of_lt (Heap.lt_size ha)) hlen hT (Heap.get?_push_of_some _ ha) hda (Heap.get?_push_size _ rfl) (fun h' u tk hk => ?_) (by omega)
    exact wpAny_bind (wpAny_isInstance (T := "str") (b := true) rfl isSubtype_str_str (wpAny_pure (hQ _ h' u tk (Nat.le_add_right _ _) fun b o e => hk b o (Nat.ne_of_lt (Heap.lt_size e)) (Heap.get?_push_of_some _ e))))
  · refine wpAny_bind (wpAny_rule ?_)
    refine wpAny_bind (wpAny_mkStr (wpAny_pure ?_) (by decide +kernel))
    exact wpAny_bind (wpAny_isInstance (T := "str") (b := true) rfl isSubtype_str_str (wpAny_pure (hQ _ s.heap _ _ (Nat.le_trans rj_lway (Nat.le_add_left _ _)) fun _ _ e => e)))
end
end PySem
namespace RJ
open PySem PySem.Spec PyProof.Rows L2
/-- a plain value whose repr is short -/
def ScR (x : V) : Prop := x = .non ∨ (∃ b, x = .bl b) ∨ (∃ i : Int, x = .int i ∧ i.natAbs.log2 < 1920 ∧ (Str.ofString (toString i)).length ≤ 200) ∨ (∃ z : Str, x = .str z ∧ z.length ≤ 19 ∧ ∀ c ∈ z.cps.toList, c < 16 ^ 8)
/-- a plain value, or a tuple or list of such -/
def RepV (K : PySem.W.Frag) (H : Hp) (x : V) : Prop := ScR x ∨ ∃ a xs, x = .ref a ∧ (SqT K H a xs ∨ SqL K H a xs) ∧ (∀ y ∈ xs, ScR y) ∧ xs.length ≤ 1000
theorem sc_repr {prog : Program} {w : World} {x : V} {v : Value} (r : RelV x v) (h : ScR x) : ∃ t, ReprIs prog w v t ∧ t.length ≤ 200 := by
  have hsl : sizeLine = 16777216 := sizeLine_eq
  rcases h with rfl | ⟨b, rfl⟩ | ⟨i, rfl, h1, h2⟩ | ⟨z, rfl, h1, h2⟩
  · cases r
    exact ⟨_, ReprIs.none, by decide +kernel⟩
  · cases r
    exact ⟨_, ReprIs.bool b, by cases b <;> decide +kernel⟩
  · obtain ⟨t, rfl⟩ := r
    exact ⟨_, ReprIs.int t h1, h2⟩
  · obtain ⟨t, rfl⟩ := r
    have := PySem.StrLaws.reprText_len z h2
    exact ⟨_, ReprIs.str z t (by omega), by omega⟩
theorem sc_all {prog : Program} {w : World} : ∀ {xs : List V} {its : List Value}, Vals xs its → (∀ y ∈ xs, ScR y) → ∃ ts, ReprAll prog w its ts ∧ piled ts ≤ 202 * xs.length
  | [], _, r, _ => by
    cases r
    exact ⟨[], .nil, Nat.zero_le _⟩
  | x :: xs, _, r, h => by
    cases r with
    | cons r1 r2 =>
      obtain ⟨t, h1, h2⟩ := sc_repr r1 (h x List.mem_cons_self)
      obtain ⟨ts, h3, h4⟩ := sc_all r2 fun y hy => h y (List.mem_cons_of_mem _ hy)
      refine ⟨t :: ts, .cons h1 h3, ?_⟩
      rw [piled_cons, List.length_cons]; omega
theorem reprAll_at {prog : Program} {w : World} : ∀ {its : List Value} {ts : List Str}, ReprAll prog w its ts → ∀ (i : Nat) (y : Value), its[i]? = some y → ∃ t, ts[i]? = some t ∧ ReprIs prog w y t
  | _, _, .nil, i, y, h => by cases h
  | _, _, .cons h1 h2, 0, y, h => by cases h; exact ⟨_, rfl, h1⟩
  | _, _, .cons h1 h2, i + 1, y, h => reprAll_at h2 i y h
theorem listText_len : ∀ ts : List Str, (listText ts).length ≤ piled ts + 2
  | [] => by decide +kernel
  | t :: r => by
    have h := textFrom_length_pos r 1 (("[" : Str) ++ (if (0 : Nat) > 0 then ", " else "" : String) ++ t) (Nat.succ_pos 0)
    have e : ((("[" : Str) ++ (if (0 : Nat) > 0 then ", " else "" : String) ++ t)).length = 1 + t.length := by
      rw [strLen_append, strLen_append]; rfl
    have hX : (listText (t :: r)).length = (textFrom 0 "[" (t :: r)).length + 1 := by
      show (textFrom 0 "[" (t :: r) ++ "]").length = _
      rw [strLen_append]; rfl
    have hY : (textFrom 0 "[" (t :: r)).length = (textFrom 1 (("[" : Str) ++ (if (0 : Nat) > 0 then ", " else "" : String) ++ t) r).length := rfl
    rw [hX, hY, h, e, piled_cons]; omega
/-- {x!r}: some text -/
def tFmtRV (K : PySem.W.Frag) (te : TE) : TE := fun σ H Q => te σ H fun x H1 => RepV K H1 x ∧ ∀ m : Str, m.length ≤ 300000 → Q (.str m) H1
theorem pe_fmtRV {X : Cx} {e : Expr} {te : TE} {pos : Pos} {k : Nat} (hr : Room k X.A) (he : PE X e te) : PE X (.FormattedValue e 114 none pos) (tFmtRV X.K te) := by
  refine ⟨fun pins s σ H Q I h => ?_⟩
  refine wpAny_FormattedValue_repr (thn (he.run pins s σ H _ I h) fun v s1 hv => ?_)
  obtain ⟨x, H1, I1, r1, hx, q⟩ := hv
  have hu := hr.units
  have hsl : sizeLine = 16777216 := sizeLine_eq
  have fin : ∀ (m : Str) (u : Tok) (s2 : Shared), m.length ≤ 300000 → Inv X pins σ H1 s2 → wpAny (model X.prog X.w) X.A (formatField (.str m u) Str.empty) (EP X pins σ Q) X.xe s2 := fun m u s2 hm I2 =>
    wpAny_formatField_str ⟨.str m, H1, I2, ⟨_, rfl⟩, q m hm⟩ ⟨.str m, H1, I2.tok _, ⟨_, rfl⟩, q m hm⟩ (by omega)
  rcases hx with hx | ⟨a, xs, rfl, hs, hsc, hl⟩
  · rcases hx with rfl | ⟨b, rfl⟩ | ⟨i, rfl, h1, h2⟩ | ⟨z, rfl, h1, h2⟩
    · cases r1
      exact pyReprObj_none (fin _ _ _ (by decide +kernel) (I1.tok _))
    · cases r1
      exact pyReprObj_bool (fin _ _ _ (by cases b <;> decide +kernel) (I1.tok _))
    · obtain ⟨t, rfl⟩ := r1
      exact pyReprObj_int h1 (fin _ _ _ (Nat.le_trans h2 (by decide)) (I1.tok _))
    · obtain ⟨t, rfl⟩ := r1
      have := PySem.StrLaws.reprText_len z h2
      exact pyReprObj_str (fin _ _ _ (by omega) (I1.tok _)) (by omega)
  · cases r1
    rcases hs with ht | ht
    · obtain ⟨its, rv, ⟨o, ho, hcl, n, hd⟩, _⟩ := I1.tuple ht
      obtain ⟨ts, hT, hp⟩ := sc_all (prog := X.prog) (w := X.w) rv hsc
      have htx := fmt_text ts
      refine rj_repr_tuple (ts := ts) (by omega) ho hcl hd hT (by omega) fun m u tk hm => ?_
      exact fin _ _ _ (by omega) (I1.tok _)
    · obtain ⟨its, rv, p, _⟩ := I1.list ht
      obtain ⟨ts, hT, hp⟩ := sc_all (prog := X.prog) (w := X.w) rv hsc
      have htx := listText_len ts
      obtain ⟨o, ho, hcl, n, hd⟩ := p.isList
      cases its with
      | nil => exact wpAny_pyReprObj_list_empty ⟨o, ho, hcl⟩ (by omega) ho hd (fin _ _ _ (by decide +kernel) (I1.tok _))
      | cons y ys =>
        refine rj_repr_list ⟨o, ho, hcl⟩ (by omega) ho hd (by rw [hT.length_eq]; rfl) (fun i z hz => reprAll_at hT i z (by simpa using hz)) (fun m h' u tk hm hk => ?_) (by omega)
        exact fin _ _ _ (by omega) (I1.kept (t' := tk) hk)
end RJ
end

section
set_option maxRecDepth 100000
set_option maxHeartbeats 2000000
namespace PySem
open PySem.Spec PyProof.Rows Sem Builtin Builtin.List
/-- some text for x, of at most L signs, whatever repr is under way -/
def RjSome (prog : Program) (w : World) (h0 : Heap) (x : Value) (L : Nat) : Prop :=
  ∀ (b : Nat), b + L ≤ sizeLine → ∀ (A : Around) (E : Value → Shared → Prop) (s : Shared) (Q : Str → Shared → Prop), A.units + 8 < cLine → (∀ c o, h0.get? c = some o → s.heap.get? c = some o) →
    (∀ (t : Str) h' tk, t.length ≤ L → (∀ c o, s.heap.get? c = some o → h'.get? c = some o) → Q t { s with heap := h', toks := tk }) → wpAny (model prog w) A (pyReprUnder b x) Q E s
theorem RjSome.of {prog : Program} {w : World} {h0 : Heap} {x : Value} {t : Str} {L : Nat} (h : ReprIs prog w x t) (hL : t.length ≤ L) : RjSome prog w h0 x L :=
  fun b hb A E s Q _ _ q => h b (by omega) A E s Q fun tk => q t s.heap tk hL fun _ _ e => e
section
variable {prog : Program} {w : World} {A : Around} {R : Result → Shared → Prop} {E : Value → Shared → Prop} {s : Shared}
theorem rj_loopS {a P : Addr} (hne : a ≠ P) {items : Array Value} {h0 : Heap} {L b : Nat} (hu : A.units + 12 < cLine) (hPf : h0.get? P = none) (hT : ∀ (i : Nat) (x : Value), items[i]? = some x → RjSome prog w h0 x L) (hsz : b + items.size * (L + 2) + 8 ≤ sizeLine) :
    ∀ (k i : Nat) (s : Shared) (oa : Obj) (na : Nat) (acc : Array Value) (c : Nat) (done : List (Str × Tok)), items.size = i + k → (∀ c o, h0.get? c = some o → s.heap.get? c = some o) → s.heap.get? a = some oa → oa.data = .seq items na →
      s.heap.get? P = some { cls := .type "list", dict := none, data := .seq acc c, slots := #[] } → acc.toList = strValues done → done.length = i → piled (done.map (·.1)) ≤ i * (L + 2) →
      (∀ (m : Str) h' u tk, m.length ≤ items.size * (L + 2) + 2 → (∀ b o, b ≠ P → s.heap.get? b = some o → h'.get? b = some o) → R (.ok (.ret (.str m u))) { s with heap := h', toks := tk }) →
      codeAny (model prog w) A (.builtin "list.__repr__.loop" ⟨[.ref a, rawInt i, .ref P, rawInt ((b + piled (done.map (·.1)) : Nat) : Int)], []⟩) R s := by
  intro k
  induction k with
  | zero =>
    intro i s oa na acc c done hk hk0 ha hda hP hacc hdl hpl hR
    have hin : items[(i : Int).toNat]? = none := by simp; omega
    have hll := RJ.listText_len (done.map (·.1))
    have hi : i * (L + 2) = items.size * (L + 2) := by rw [hk]; rfl
    refine codeAny_builtin F.entry_list_repr_loop (show wpAny _ _ («list.__repr__.loop» ⟨[.ref a, .int i 0, .ref P, .int ((b + piled (done.map (·.1)) : Nat) : Int) 0], []⟩) _ _ s by
      rw [repr_loop_tree]
      refine wpAny_bind (wpAny_listItems ha hda ?_)
      simp only [hin]
      exact wpAny_bind (wpAny_listItems hP rfl (by rw [hacc, repr_fold]; exact wpAny_bind (wpAny_pure (wpAny_bind (wpAny_mkStr (wpAny_pure (hR _ s.heap _ _ (by show (listText (done.map (·.1))).length ≤ _; omega) fun _ _ _ e => e)) (by show (listText (done.map (·.1))).length ≤ _; omega)))))))
  | succ k ih =>
    intro i s oa na acc c done hk hk0 ha hda hP hacc hdl hpl hR
    have hlt : i < items.size := by omega
    have hsome : items[(i : Int).toNat]? = some items[i] := by simp [hlt]
    have hm : (i + 1) * (L + 2) ≤ items.size * (L + 2) := Nat.mul_le_mul_right _ hlt
    rw [Nat.succ_mul] at hm
    have hrep := hT i items[i] (by simp [hlt])
    have hasz : acc.size ≤ sizeLine := by
      have e1 : acc.toList.length = acc.size := by simp
      have e2 : (strValues done).length = done.length := by simp [strValues]
      have e3 : i ≤ items.size * (L + 2) := Nat.le_trans (Nat.le_of_lt hlt) (Nat.le_mul_of_pos_right _ (by omega))
      rw [hacc] at e1; omega
    refine codeAny_builtin F.entry_list_repr_loop (show wpAny _ _ («list.__repr__.loop» ⟨[.ref a, .int i 0, .ref P, .int ((b + piled (done.map (·.1)) : Nat) : Int) 0], []⟩) _ _ s by
      rw [repr_loop_tree]
      refine wpAny_bind (wpAny_listItems ha hda ?_)
      simp only [hsome]
      rw [Int.toNat_natCast]
      refine wpAny_bind (wpAny_holding (hrep (b + piled (done.map (·.1)) + 1) (by omega) _ _ _ _ (by rw [units_under_list_loop]; omega) hk0 fun t h' tk ht hkp => ?_))
      refine wpAny_bind (wpAny_mkStr (wpAny_bind (show wpAny _ _ (updateSeq P _) _ _ _ from wpAny_updateSeq (hkp _ _ hP) rfl (wpAny_pure ⟨F.quiet_list_repr_loop _, ?_⟩) hasz)) (by omega))
      have e1 : ((i : Int) + 1) = ((i + 1 : Nat) : Int) := by omega
      have e2 : b + piled (done.map (·.1)) + (t.length + 2) = b + piled ((done ++ [(t, tk)]).map (·.1)) := by
        rw [List.map_append, piled_append]
        show _ = b + (_ + piled [t])
        rw [piled_cons, piled_nil]; omega
      have e3 : piled ((done ++ [(t, tk)]).map (·.1)) = piled (done.map (·.1)) + (t.length + 2) := by omega
      rw [e1, e2]
      refine ih (i + 1) _ oa na (acc.push (.str t tk)) _ (done ++ [(t, tk)]) (by omega) (fun c o e => (Heap.get?_update_other _ _ (fun h : P = c => by rw [← h, hPf] at e; cases e)).trans (hkp _ _ (hk0 _ _ e))) ((Heap.get?_update_other _ _ (fun h : P = a => hne h.symm)).trans (hkp _ _ ha)) hda (Heap.get?_update_self _ (hkp _ _ hP) rfl) (by simp [hacc, strValues]) (by simp [hdl]) (by rw [e3, Nat.succ_mul]; omega) fun m h'' u tk' hm' hh => ?_
      exact hR m h'' u tk' hm' fun d o hb e => hh d o hb ((Heap.get?_update_other _ _ (fun h : P = d => hb h.symm)).trans (hkp _ _ e)))
/-- a list of plain values within another one -/
theorem RjSome.list {h0 : Heap} {a : Addr} {oa : Obj} {x : Value} {l : List Value} {na : Nat} {ts : List Str} (ha : h0.get? a = some oa) (hc : oa.cls = .type "list") (hda : oa.data = .seq (x :: l).toArray na) (hlen : ts.length = (x :: l).toArray.size)
    (hT : ∀ (i : Nat) (y : Value), (x :: l).toArray[i]? = some y → ∃ t, ts[i]? = some t ∧ ReprIs prog w y t) : RjSome prog w h0 (.ref a) ((listText ts).length + 5) := fun b hb A E s Q hu hk q => by
  have hTy : s.TypeIs (.ref a) "list" := ⟨oa, hk _ _ ha, hc⟩
  refine wpAny_pyReprUnder_ref (by omega) (wpAny_pyReprObjUnder_twin (twin := "list.__repr__.under") hTy F.slot_list_repr.toG rfl (by omega) (call_twin_plain F.plain_list_repr_under F.entry_list_repr_under F.check_list_repr_under hTy F.slot_list_repr.toG (F.args_list_repr_1 _) ?_))
  refine rj_list_head (b := b) (hk _ _ ha) hda ?_ ?_
  · refine wpAny_bind (m := newList []) (wpAny_newObj_type (wpAny_pure ⟨F.quiet_list_repr_loop _, ?_⟩))
    refine codeAny_list_repr_start (P := s.heap.objs.size) (b := b) (Nat.ne_of_lt (Heap.lt_size (hk _ _ ha))) hlen hT (Heap.get?_push_of_some _ (hk _ _ ha)) hda (Heap.get?_push_size _ rfl) (fun h' u tk hk' => ?_) (by omega)
    exact ⟨⟨_, _, rfl⟩, _, _, rfl, q _ h' tk (Nat.le_add_right _ _) fun c o e => hk' c o (Nat.ne_of_lt (Heap.lt_size e)) (Heap.get?_push_of_some _ e)⟩
  · refine wpAny_bind (wpAny_rule (wpAny_bind (wpAny_mkStr (wpAny_pure ?_) (by decide +kernel))))
    exact ⟨⟨_, _, rfl⟩, _, _, rfl, q _ s.heap _ (Nat.le_trans rj_lway (Nat.le_add_left _ _)) fun _ _ e => e⟩
/-- repr of a list, its items of any such kind -/
theorem rj_repr_listS {Q : Value → Shared → Prop} {a : Addr} {oa : Obj} {x : Value} {l : List Value} {na L : Nat} (hTy : s.TypeIs (.ref a) "list") (hu : A.units + 40 < cLine) (ha : s.heap.get? a = some oa) (hda : oa.data = .seq (x :: l).toArray na)
    (hT : ∀ (i : Nat) (y : Value), (x :: l).toArray[i]? = some y → RjSome prog w s.heap y L)
    (hQ : ∀ (m : Str) h' u tk, m.length ≤ (x :: l).toArray.size * (L + 2) + 8 → (∀ b o, s.heap.get? b = some o → h'.get? b = some o) → Q (.str m u) { s with heap := h', toks := tk })
    (hsz : (x :: l).toArray.size * (L + 2) + 8 ≤ sizeLine) : wpAny (model prog w) A (pyReprObj (.ref a)) Q E s := by
  unfold pyReprObj
  refine wpAny_bind (wpAny_cRoomFor (by omega) (wpAny_bind (wpAny_specialOf (name := Str.ofString "__repr__") hTy F.slot_list_repr.lookup ?_)))
  refine wpAny_bind (m := callSpecialIfBound? (.ref a) (Str.ofString "__repr__")) (wpAny_callSpecialIfBound?_slot (name := Str.ofString "__repr__") hTy F.slot_list_repr (wpAny_call (codeAny_call_builtin F.slot_list_repr.plain F.entry_list_repr (F.slot_list_repr.check _ _ _ _ _ _ _ _ hTy (F.args_list_repr_1 _) ?_))))
  refine rj_list_head (A := A.in1) ha hda ?_ ?_
  · refine wpAny_bind (m := newList []) (wpAny_newObj_type (wpAny_pure ⟨F.quiet_list_repr_loop _, ?_⟩))
    refine rj_loopS (h0 := s.heap) (P := s.heap.objs.size) (b := 0) (L := L) (Nat.ne_of_lt (Heap.lt_size ha)) (by omega) (Heap.get?_none_of_le (Nat.le_refl _)) hT (by omega) _ 0 _ oa na #[] _ [] (by rw [Nat.zero_add]) (fun c o e => Heap.get?_push_of_some _ e) (Heap.get?_push_of_some _ ha) hda (Heap.get?_push_size _ rfl) rfl rfl (Nat.zero_le _) fun m h' u tk hm hk' => ?_
    exact wpAny_bind (wpAny_isInstance (T := "str") (b := true) rfl isSubtype_str_str (wpAny_pure (hQ _ h' u tk (by omega) fun b o e => hk' b o (Nat.ne_of_lt (Heap.lt_size e)) (Heap.get?_push_of_some _ e))))
  · refine wpAny_bind (wpAny_rule (wpAny_bind (wpAny_mkStr (wpAny_pure ?_) (by decide +kernel))))
    exact wpAny_bind (wpAny_isInstance (T := "str") (b := true) rfl isSubtype_str_str (wpAny_pure (hQ _ s.heap _ _ (Nat.le_trans rj_lway (by omega)) fun _ _ e => e)))
end
end PySem
end

section
set_option maxRecDepth 100000
set_option maxHeartbeats 2000000
namespace RJ
open PySem PySem.Spec PyProof.Rows L2
/-! ### defs that are called while no repr is under way -/
structure FnG (P : Program) (w : World) (K : PySem.W.Frag) (mg : Str → Option Value) (base : Heap) (k : Nat) (f : Addr) (fd : FuncData) (ps : List Str) (sp : Sp) : Prop where
  ln : ∀ vs H Q E, sp vs H Q E → vs.length = ps.length
  go : ∀ (A : Around) (outer : List Env) (s : Shared) (H : Hp) (args : Args) (us : List Value) (vs : List V) (Q : VK) (E : XK), A.guards = some [] → Room k A → Env0 P w K mg base A outer s H → BindsTo s fd args (ps.zip us) → Vals vs us → sp vs H Q E →
    codeAny (model P w) A (.call (.ref f) args) (CR C8.CX0 outer P w H s Q E) s
structure CalG (P : Program) (w : World) (K : PySem.W.Frag) (mg : Str → Option Value) (base : Heap) (k : Nat) (x : Str) (sp : Sp) : Prop where
  ex : ∃ (f : Addr) (fd : FuncData) (ps : List Str), FnG P w K mg base k f fd ps sp ∧ mg x = some (.ref f) ∧ PySem.W.keepIn K (.ref f) = true ∧ Binds K fd ps []
section
variable {P : Program} {w : World} {K : PySem.W.Frag} {mg : Str → Option Value} {base : Heap}
theorem fnG0 {x qual : Str} {st : Stmt} {f : Addr} {fd : FuncData} {N ps : List Str} {k : Nat} {sp : Sp} (F : C8.Fun K x qual st f fd) (S : FnScope N ps (C8.fnScope st)) (len : ∀ vs H Q E, sp vs H Q E → vs.length = ps.length)
    (hb : ∀ (cdv : Value) (A : Around) (outer : List Env) (s : Shared) (H : Hp) (vs : List V) (Q : VK) (E : XK), (A.deeper (envOfC qual (C8.fnScope st) s.heap.objs.size f cdv)).guards = some [] → Room k (A.deeper (envOfC qual (C8.fnScope st) s.heap.objs.size f cdv)) → sp vs H Q E →
      ∃ t, PSs (cxOf C8.CX0 P w K mg base N qual (C8.fnScope st) f cdv A outer s H E).nox (C8.fnBody st) t ∧ t { nx := fun _ H' => Q .non H', rt := Q } (start N vs) H) : FnG P w K mg base (k + 1) f fd ps sp := by
  obtain ⟨oc, od, dV, kV, doc, pm, an, cdv, ct, osl, rfl, lk, hcd⟩ := F.ex
  refine ⟨len, fun A outer s H args us vs Q E hg hr e0 hbn r hsp => LamX.run_ofS lk hcd S hr e0 hbn r (len _ _ _ _ hsp) fun hr' => ?_⟩
  obtain ⟨t, h, q⟩ := hb cdv A outer s H vs Q E hg hr' hsp
  exact ⟨t, h.nox, q⟩
theorem FnG.of {k : Nat} {f : Addr} {fd : FuncData} {ps : List Str} {sp : Sp} (F : FnOk P w K mg base C8.CX0 k f fd ps sp) : FnG P w K mg base k f fd ps sp :=
  ⟨F.len, fun A outer s H args us vs Q E _ => F.run A outer s H args us vs Q E⟩
end
section
variable {X : Cx} {k j : Nat} {x : Str} {sp : Sp} {p pos : Pos} {e : Expr} {es : List Expr} {t : TA}
theorem run_fnG {f : Addr} {fd : FuncData} {ps : List Str} {pins : List (Addr × Obj)} {σ : L2.St} {H : Hp} {s : Shared} {Q : VK} {us : List Value} {vs : List V} (F : FnG X.prog X.w X.K X.mg X.base k f fd ps sp) (gd : X.A.guards = some []) (hr : Room k X.A) (hb : Binds X.K fd ps [])
    (I : Inv X pins σ H s) (r : Vals vs us) (h : sp vs H Q C8.E0) : wpAny (model X.prog X.w) X.A (call (.ref f) us) (EP X pins σ Q) X.xe s := by
  have b := hb s us I.kIn (by rw [List.append_nil]; exact r.length.symm.trans (F.ln _ _ _ _ h))
  rw [List.append_nil] at b
  refine wpAny_call (codeAny_mono (F.go X.A X.stack s H ⟨us, []⟩ us vs Q C8.E0 gd hr I.env0 b r h) fun r' s' hq => ?_)
  match r', hq with
  | .ok (.ret u), hq => exact I.after hq
  | .ok .next, hq => exact hq.elim
  | .ok .brk, hq => exact hq.elim
  | .ok .cont, hq => exact hq.elim
  | .error e, hq => exact hq.elim
theorem pe_cg (c : CalG X.prog X.w X.K X.mg X.base k x sp) (gd : X.A.guards = some []) (hr : Room j X.A) (hk : k ≤ j) (hg : Gl X x) (ha : PA X (e :: es) t)
    (hdb : (x == ("__debug__" : Str)) = false := by decide) (he : starEach (e :: es) X.env = (false, eval e X.env) :: starEach es X.env := by rfl) (hpl : (backTo pos (starEach es X.env)).any (·.1) = false := by rfl) :
    PE X (.Call (.Name x p) (e :: es) [] pos) (tCallS sp (fun _ => C8.E0) t) := by
  obtain ⟨f, fd, ps, F, hm, kp, b⟩ := c.ex
  refine ⟨fun pins s σ H Q I h => wpAny_Call_Name_kw (ld_glob I hg hm (PySem.W.callWith_K (h₀ := X.base) I.ok.mod.kin kp (thn (ha.run pos pins s σ H _ I h) fun us s1 ⟨vs, H1, I1, r, q⟩ => ⟨I1.kIn, run_fnG F gd (hr.mono hk) b I1 r q⟩) he hpl) hdb)⟩
/-- repr(x), x a plain value or data, no repr under way -/
def rReprG (K : PySem.W.Frag) : List V → Hp → VK → Prop := fun vs H Q => ∃ (x : V) (d : PyData), vs = [x] ∧ Dp K H x d ∧ d.showable = true ∧ d.hasDict = false ∧ d.depth ≤ 60 ∧ d.shown.length ≤ 1000000 ∧ Q (.str d.shown) H
theorem call_reprG (gd : X.A.guards = some []) (hu : X.A.units + 64 < cLine) : CallR X (.builtin "repr") (rReprG X.K) := by
  intro pins s σ H vs us Q I r h
  obtain ⟨x, d, rfl, hd, hs, hnd, hdep, hl, q⟩ := h
  obtain ⟨u, rfl, ru⟩ := vals1 r
  have hsl : sizeLine = 16777216 := sizeLine_eq
  have hsl2 : d.shown.length ≤ sizeLine := by omega
  cases hd with
  | non => cases ru; exact PySem.P.repr_of_none ⟨.str _, H, I.tok _, ⟨_, rfl⟩, q⟩
  | bl b => cases ru; exact PySem.P.repr_of_bool ⟨.str _, H, I.tok _, ⟨_, rfl⟩, q⟩
  | int i => obtain ⟨t, rfl⟩ := ru; exact PySem.P.repr_of_int (by simpa [PyData.showable] using hs) ⟨.str _, H, I.tok _, ⟨_, rfl⟩, q⟩
  | str z => obtain ⟨t, rfl⟩ := ru; exact PySem.P.repr_of_str ⟨.str _, H, I.tok _, ⟨_, rfl⟩, q⟩ hsl2
  | lst h1 h2 =>
    obtain ⟨as, hrd⟩ := Dp.reads I _ _ _ (.lst h1 h2) ru
    cases ru
    exact repr_of_reads' hrd hs (fun z => by rw [hnd] at z; cases z) gd (by omega) (fun _ _ e => e) (fun h' v tk hk => ⟨.str _, H, I.kept (t' := tk) hk, ⟨_, rfl⟩, q⟩) hsl2
  | tup h1 h2 =>
    obtain ⟨as, hrd⟩ := Dp.reads I _ _ _ (.tup h1 h2) ru
    cases ru
    exact repr_of_reads' hrd hs (fun z => by rw [hnd] at z; cases z) gd (by omega) (fun _ _ e => e) (fun h' v tk hk => ⟨.str _, H, I.kept (t' := tk) hk, ⟨_, rfl⟩, q⟩) hsl2
theorem call_reprGK {K : PySem.W.Frag} (hK : X.K = K) (gd : X.A.guards = some []) (hu : X.A.units + 64 < cLine) : CallR X (.builtin "repr") (rReprG K) := by
  subst hK; exact call_reprG gd hu
end
/-! ### the end of a law whose promise asks that -/
theorem law_callG {P : Program} {w : World} {K : PySem.W.Frag} {mg mb : Str → Option Value} {k : Nat} {fa a : Addr} {fd : FuncData} {x : Str} {sp : Sp} {s1 : Shared} {us : List Value} {zs : List Int}
    (kx : K.In s1.heap) (hG : s1.heap.Ns mainGlobals mg) (hB : s1.heap.Ns builtinsNs mb) (hB2 : ∀ y : Str, y ≠ "__name__" → mb y = bootBuiltins y) (hlm : s1.heap.NoLimit) (hgn : s1.gens = #[]) (hda : s1.heap.get? a = some { cls := .type "list", data := .seq us.toArray }) (hin : IntsAre us zs) (hzl : zs.length ≤ sizeLine)
    (hr : Room k callerA) (F : ∀ base : Heap, K.In base → base.Ns mainGlobals mg → FnG P w K mg base k fa fd [x] sp) (hbd : ∀ (s : Shared) (u : Value), BindsTo s fd ⟨[u], []⟩ [(x, u)]) (hsp : ∀ H : Hp, Only H → SqL K H a (zs.map V.int) → sp [.ref a] H (fun v _ => v = .bl true) fun _ _ _ => False) :
    codeAny (model P w) callerA (.call (.ref fa) ⟨[.ref a], []⟩) (fun r s' => r = .ok (.ret (.bool true)) ∧ OldK s1.heap s'.heap ∧ s'.os = s1.os ∧ AllBare s'.gens) s1 := by
  have rv := vals_ints hin
  have ln := hin.length
  have main : ∀ H : Hp, Only H → SqL K H a (zs.map V.int) → HOk P w H s1.heap → (∀ b u, H b = some u → b = a) → (K.lookup a = none ∨ H a = none) →
      codeAny (model P w) callerA (.call (.ref fa) ⟨[.ref a], []⟩) (fun r s' => r = .ok (.ret (.bool true)) ∧ OldK s1.heap s'.heap ∧ s'.os = s1.os ∧ AllBare s'.gens) s1 := by
    intro H hO hS hok hA hK
    have free : ∀ b, b ≠ a → H b = none := fun b hb => by
      cases e : H b with
      | none => rfl
      | some u => exact absurd (hA b u e) hb
    have up : ∀ {b : Addr} {o : Obj}, s1.heap.get? b = some o → H b = none → (hidT s1.heap H).get? b = some o := hidT_get
    have ns : ∀ {b : Addr} {m : Str → Option Value}, s1.heap.Ns b m → (hidT s1.heap H).Ns b m := by
      rintro b m ⟨o, es, ep, e, d, r⟩
      refine ⟨o, es, ep, up e (free b fun z => ?_), d, r⟩
      rw [z, hda] at e
      obtain rfl := Option.some.inj e
      exact nomatch (show Data.seq us.toArray _ = Data.dict es ep from d)
    have hKb : K.In (hidT s1.heap H) := fun b o e => up (kx b o e) (by
      by_cases z : b = a
      · rcases hK with h | h
        · rw [z, h] at e; cases e
        · rw [z]; exact h
      · exact free b z)
    obtain ⟨mc, l1, l2⟩ := hlm
    have env : Env0 P w K mg (hidT s1.heap H) callerA [] s1 H := ⟨rfl, ⟨hKb, ns hG, ⟨mb, ns hB, hB2⟩, ⟨mc, ns l1, l2⟩⟩, fun b o e => of_hidT e, Nat.le_of_eq (hidT_size _ _), trivial, fun b hb => absurd (show b ∈ ([] : List Addr) from hb) List.not_mem_nil, hok, AllBare.of_eq hgn⟩
    refine codeAny_mono ((F _ hKb (ns hG)).go callerA [] s1 H ⟨[.ref a], []⟩ [.ref a] [.ref a] _ _ rfl hr env (hbd s1 (.ref a)) (.cons rfl .nil) (hsp H hO hS)) fun r s' h => ?_
    match r, h with
    | .ok (.ret u), ⟨v, H', os, bare, un, hok', rr, qv⟩ =>
      obtain rfl : v = .bl true := qv
      obtain rfl : u = Value.bool true := rr
      refine ⟨rfl, OldK.of_keep fun b o e => ?_, os, bare⟩
      cases c : H b with
      | none => exact un.keep b o e c (fun z => absurd (show b ∈ ([] : List Addr) from z) List.not_mem_nil) List.not_mem_nil
      | some u =>
        rcases hO b with z | ⟨ob, xs, z⟩
        · rw [c] at z; cases z
        · have g1 := (hok b _ z).1
          have g2 := (hok' b _ (un.frzs b ob _ z)).1
          rw [e] at g1
          rw [Option.some.inj g1]; exact g2
    | .ok .next, h => exact h.elim
    | .ok .brk, h => exact h.elim
    | .ok .cont, h => exact h.elim
    | .error e, h => exact h.elim
  cases hk : K.lookup a with
  | some o =>
    have e := (kx a o hk).symm.trans hda
    obtain rfl := Option.some.inj e
    exact main (fun _ => none) (fun _ => .inl rfl) (.inr ⟨_, us.toArray, _, hk, rfl, rfl, rfl, by rw [List.size_toArray, ln]; exact hzl, by simpa using rv⟩) (fun b u z => nomatch z) (fun b u z => nomatch z) (.inr rfl)
  | none =>
    obtain ⟨H0, hH0⟩ : ∃ H0 : Hp, ∀ b, H0 b = if b = a then some (.frz { cls := .type "list", data := .seq us.toArray } (.lst (zs.map V.int))) else none := ⟨_, fun _ => rfl⟩
    have at0 : H0 a = some (.frz { cls := .type "list", data := .seq us.toArray } (.lst (zs.map V.int))) := by rw [hH0, if_pos rfl]
    refine main H0 (fun b => ?_) (.inl (.inr ⟨_, at0⟩)) (fun b u z => ?_) (fun b u z => ?_) (.inl hk)
    · by_cases hb : b = a
      · rw [hb]; exact .inr ⟨_, _, at0⟩
      · exact .inl (by rw [hH0, if_neg hb])
    · rw [hH0] at z
      split at z
      · rename_i hb
        obtain rfl := Option.some.inj z
        rw [hb]
        exact ⟨hda, by rw [List.length_map]; exact hzl, us, _, rv, hda⟩
      · cases z
    · rw [hH0] at z
      split at z
      · assumption
      · cases z
theorem walkGd {l : PySem.W.OpenLaw} {n k : Nat} {q : Program} {loose : List Str} {XP : (Str → Option Value) → Heap → Prop} {YP : World → Heap → Prop} {d : DefRec} {K : Params → PySem.W.Frag} {sp : World → Sp} {x : Str}
    (hn : l.most = some n) (hn2 : n ≤ sizeLine) (hdf : d.params.defaults = []) (hr : Room k callerA) (hY : ∀ (w : World) (h : Heap), YP w h → (K w.params).In h)
    (F : ∀ (w : World) (mg : Str → Option Value) (fa : Addr) (h : Heap), (K w.params).In h → h.Ns mainGlobals mg → mg d.name = some (.ref fa) → ∃ fd : FuncData, (∀ (s : Shared) (u : Value), BindsTo s fd ⟨[u], []⟩ [(x, u)]) ∧ ∀ base : Heap, (K w.params).In base → base.Ns mainGlobals mg → FnG l.prog w (K w.params) mg base k fa fd [x] (sp w))
    (hsp : ∀ (w : World) (H : Hp) (a : Addr) (ns : List Int), ns.length ≤ n → Only H → SqL (K w.params) H a (ns.map V.int) → sp w [.ref a] H (fun v _ => v = .bl true) fun _ _ _ => False) :
    PySem.W.WalkO q loose XP YP l.row.toRowW d [] (fun f vs => PySem.call f vs) :=
  Att.attach_call hn hdf fun w _ s1 mg mb fa o pm cd doc a us zs G Y _ _ _ hmg hobj hints hlen hg => by
    obtain ⟨fd, hb, hF⟩ := F w mg fa _ (hY w _ Y) G.T.g hmg
    exact law_callG (hY w _ Y) G.T.g G.T.b G.T.builtins G.T.nolimit hg hobj hints (Nat.le_trans hlen hn2) hr hF hb fun H hO hS => hsp w H a zs hlen hO hS
/-! ### data that stands -/
mutual
inductive DpH (H : Hp) : V → PyData → Prop
  | non : DpH H .non .none
  | bl (b : Bool) : DpH H (.bl b) (.bool b)
  | int (i : Int) : DpH H (.int i) (.int i)
  | str (x : Str) : DpH H (.str x) (.str x)
  | lst {a : Addr} {xs : List V} {ds : List PyData} : H a = some (.lst xs) → DpHs H xs ds → DpH H (.ref a) (.list ds)
  | tup {a : Addr} {xs : List V} {ds : List PyData} : H a = some (.tup xs) → DpHs H xs ds → DpH H (.ref a) (.tuple ds)
inductive DpHs (H : Hp) : List V → List PyData → Prop
  | nil : DpHs H [] []
  | cons {v : V} {vs : List V} {d : PyData} {ds : List PyData} : DpH H v d → DpHs H vs ds → DpHs H (v :: vs) (d :: ds)
end
mutual
theorem DpH.same {H H' : Hp} (s : Same H H') : ∀ (d : PyData) (x : V), DpH H x d → DpH H' x d
  | .none, _, h => by cases h; exact .non
  | .bool _, _, h => by cases h; exact .bl _
  | .int _, _, h => by cases h; exact .int _
  | .str _, _, h => by cases h; exact .str _
  | .list ds, _, h => by
    cases h with
    | lst e t => exact .lst (s _ _ e) (DpHs.same s ds _ t)
  | .tuple ds, _, h => by
    cases h with
    | tup e t => exact .tup (s _ _ e) (DpHs.same s ds _ t)
  | .dict _, _, h => nomatch h
theorem DpHs.same {H H' : Hp} (s : Same H H') : ∀ (ds : List PyData) (xs : List V), DpHs H xs ds → DpHs H' xs ds
  | [], _, h => by cases h; exact .nil
  | d :: ds, _, h => by
    cases h with
    | cons h1 h2 => exact .cons (DpH.same s d _ h1) (DpHs.same s ds _ h2)
end
mutual
theorem DpH.dp {K : PySem.W.Frag} {H : Hp} : ∀ (d : PyData) (x : V), DpH H x d → Dp K H x d
  | .none, _, h => by cases h; exact .non
  | .bool _, _, h => by cases h; exact .bl _
  | .int _, _, h => by cases h; exact .int _
  | .str _, _, h => by cases h; exact .str _
  | .list ds, _, h => by
    cases h with
    | lst e t => exact .lst (SqL.of e) (DpHs.dp ds _ t)
  | .tuple ds, _, h => by
    cases h with
    | tup e t => exact .tup (SqT.of e) (DpHs.dp ds _ t)
  | .dict _, _, h => nomatch h
theorem DpHs.dp {K : PySem.W.Frag} {H : Hp} : ∀ (ds : List PyData) (xs : List V), DpHs H xs ds → DpAll K H xs ds
  | [], _, h => by cases h; exact .nil
  | d :: ds, _, h => by
    cases h with
    | cons h1 h2 => exact .cons (DpH.dp d _ h1) (DpHs.dp ds _ h2)
end
/-- a list of plain values and lists of such -/
def NestV (K : PySem.W.Frag) (H : Hp) (x : V) : Prop := ∃ a xs, x = .ref a ∧ SqL K H a xs ∧ xs ≠ [] ∧ xs.length ≤ 10 ∧ ∀ y ∈ xs, ScR y ∨ ∃ b ys, y = .ref b ∧ SqL K H b ys ∧ ys ≠ [] ∧ ys.length ≤ 10 ∧ ∀ z ∈ ys, ScR z
def tFmtRN (K : PySem.W.Frag) (te : TE) : TE := fun σ H Q => te σ H fun x H1 => (RepV K H1 x ∨ NestV K H1 x) ∧ ∀ m : Str, m.length ≤ 300000 → Q (.str m) H1
theorem pe_fmtRN {X : Cx} {e : Expr} {te : TE} {pos : Pos} {k : Nat} (hr : Room k X.A) (he : PE X e te) : PE X (.FormattedValue e 114 none pos) (tFmtRN X.K te) := by
  refine ⟨fun pins s σ H Q I h => wpAny_FormattedValue_repr (thn (he.run pins s σ H _ I h) fun v s1 ⟨x, H1, I1, r1, hx, q⟩ => ?_)⟩
  have hu := hr.un
  have hsl : sizeLine = 16777216 := sizeLine_eq
  have fin : ∀ (m : Str) (u : Tok) (s2 : Shared), m.length ≤ 300000 → Inv X pins σ H1 s2 → wpAny (model X.prog X.w) X.A (formatField (.str m u) Str.empty) (EP X pins σ Q) X.xe s2 := fun m u s2 hm I2 =>
    wpAny_formatField_str ⟨.str m, H1, I2, ⟨_, rfl⟩, q m hm⟩ ⟨.str m, H1, I2.tok _, ⟨_, rfl⟩, q m hm⟩ (by omega)
  rcases hx with (hx | ⟨a, xs, rfl, hs, hsc, hl⟩) | ⟨a, xs, rfl, hs, hne, hl, hit⟩
  · rcases hx with rfl | ⟨b, rfl⟩ | ⟨i, rfl, h1, h2⟩ | ⟨z, rfl, h1, h2⟩
    · cases r1; exact pyReprObj_none (fin _ _ _ (by decide +kernel) (I1.tok _))
    · cases r1; exact pyReprObj_bool (fin _ _ _ (by cases b <;> decide +kernel) (I1.tok _))
    · obtain ⟨t, rfl⟩ := r1; exact pyReprObj_int h1 (fin _ _ _ (Nat.le_trans h2 (by decide)) (I1.tok _))
    · obtain ⟨t, rfl⟩ := r1
      have := PySem.StrLaws.reprText_len z h2
      exact pyReprObj_str (fin _ _ _ (by omega) (I1.tok _)) (by omega)
  · cases r1
    rcases hs with ht | ht
    · obtain ⟨its, rv, ⟨o, ho, hcl, n, hd⟩, _⟩ := I1.tuple ht
      obtain ⟨ts, hT, hp⟩ := sc_all (prog := X.prog) (w := X.w) rv hsc
      have htx := fmt_text ts
      exact rj_repr_tuple (ts := ts) (by omega) ho hcl hd hT (by omega) fun m u tk hm => fin _ _ _ (by omega) (I1.tok _)
    · obtain ⟨its, rv, p, _⟩ := I1.list ht
      obtain ⟨ts, hT, hp⟩ := sc_all (prog := X.prog) (w := X.w) rv hsc
      have htx := listText_len ts
      obtain ⟨o, ho, hcl, n, hd⟩ := p.isList
      match its, hT, rv, hd with
      | [], _, _, hd => exact wpAny_pyReprObj_list_empty ⟨o, ho, hcl⟩ (by omega) ho hd (fin _ _ _ (by decide +kernel) (I1.tok _))
      | y :: ys, hT, rv, hd => exact rj_repr_list ⟨o, ho, hcl⟩ (by omega) ho hd (by rw [hT.length_eq]; rfl) (fun i z hz => reprAll_at hT i z (by simpa using hz)) (fun m h' u tk hm hk => fin _ _ _ (by omega) (I1.kept (t' := tk) hk)) (by omega)
  · cases r1
    obtain ⟨its, rv, p, _⟩ := I1.list hs
    obtain ⟨o, ho, hcl, n, hd⟩ := p.isList
    have hlen := rv.length
    match its, rv, hd, hlen with
    | [], rv, _, _ => cases rv; exact absurd rfl hne
    | y :: ys, rv, hd, hlen =>
      have hs10 : (y :: ys).toArray.size ≤ 10 := by rw [List.size_toArray]; omega
      have hm : (y :: ys).toArray.size * (2200 + 2) ≤ 10 * (2200 + 2) := Nat.mul_le_mul_right _ hs10
      refine rj_repr_listS (L := 2200) ⟨o, ho, hcl⟩ (by omega) ho hd (fun i z hz => ?_) (fun m h' u tk hm' hk => fin _ _ _ (by omega) (I1.kept (t' := tk) hk)) (by omega)
      have hz' : (y :: ys)[i]? = some z := by simpa using hz
      have hi : i < xs.length := by have := (List.getElem?_eq_some_iff.mp hz').1; omega
      obtain ⟨u2, hu2, ru2⟩ := rv.get (List.getElem?_eq_getElem hi)
      rw [hz'] at hu2
      obtain rfl := Option.some.inj hu2
      rcases hit _ (List.getElem_mem hi) with hsc | ⟨b, zs, eb, hb, hbn, hbl, hbs⟩
      · obtain ⟨t, h1, h2⟩ := sc_repr (prog := X.prog) (w := X.w) ru2 hsc
        exact RjSome.of h1 (by omega)
      · rw [eb] at ru2
        cases ru2
        obtain ⟨its2, rv2, p2, _⟩ := I1.list hb
        obtain ⟨o2, ho2, hcl2, n2, hd2⟩ := p2.isList
        obtain ⟨ts, hT, hp⟩ := sc_all (prog := X.prog) (w := X.w) rv2 hbs
        have htx := listText_len ts
        match its2, hT, rv2, hd2 with
        | [], _, rv2, _ => cases rv2; exact absurd rfl hbn
        | y2 :: ys2, hT, rv2, hd2 =>
          have g := RjSome.list (prog := X.prog) (w := X.w) ho2 hcl2 hd2 (by rw [hT.length_eq]; rfl) fun i z hz => reprAll_at hT i z (by simpa using hz)
          exact fun b hb A E s Q hu hk q => g b (by omega) A E s Q hu hk fun t h' tk ht => q t h' tk (by omega)
end RJ
end

section
set_option maxRecDepth 100000
set_option maxHeartbeats 2000000
namespace RJ
open PySem PySem.Spec PyProof.Rows L2
/-! ### == of two objects of an own class by its own __eq__, either answer -/
def rOwn (C : Addr) (sp : Sp) : R2 := fun x y H Q => ∃ (a b dx dy : Addr) (fs gs : List (Str × V)), x = .ref a ∧ y = .ref b ∧ H a = some (.ins C dx fs) ∧ H b = some (.ins C dy gs) ∧ sp [.ref a, .ref b] H (fun v H' => ∃ k, v = .bl k ∧ Q (.bl k) H') C8.E0
theorem op_own {X : Cx} {C : Addr} {sp : Sp} {k j : Nat} (c : C8.Met X.prog X.w X.K X.mg X.base k C "__eq__" sp []) (hr : Room j X.A) (hk : k ≤ j) : OpR X (compareOp .Eq) (rOwn C sp) := by
  obtain ⟨f, fd, ps, ds, hc, hm, F, hbd, d⟩ := c.ex
  cases d
  intro pins s σ H x y v u Q I rx ry hq
  obtain ⟨a, b, dx, dy, fs, gs, rfl, rfl, ha, hb', hsp⟩ := hq
  cases rx
  cases ry
  show wpAny (model X.prog X.w) X.A (richCompare .Eq (.ref a) (.ref b)) (EP X pins σ Q) X.xe s
  have sb : Sub X k X.A := ⟨hr.mono hk, rfl⟩
  obtain ⟨mA, J, _⟩ := ins_get I.hok ha
  obtain ⟨mB, J', _⟩ := ins_get I.hok hb'
  obtain ⟨od, J, _⟩ := J.look
  obtain ⟨od', J', _⟩ := J'.look
  obtain ⟨m, hF⟩ := I.fr
  refine PySem.W.cmp_K (op := .Eq) (tb := .ref C) sb.room.units0 hF I.ok.mod.kin J J'.type (by simp [PySem.W.notFirst]) hm.at_ hm.fn ?_
  have e0 : Env0 X.prog X.w X.K X.mg X.base X.A X.stack s H := by
    have e := I.env0
    exact ⟨e.frames, e.mod, e.bs, e.bsz, e.funs, e.frf, e.hok, e.bare⟩
  have hl := F.len _ _ _ _ hsp
  have r2 : Vals [V.ref a, V.ref b] [Value.ref a, Value.ref b] := .cons rfl (.cons rfl .nil)
  refine wpAny_call (codeAny_mono (F.run X.A X.stack s H ⟨[.ref a, .ref b], []⟩ [.ref a, .ref b] [.ref a, .ref b] _ C8.E0 sb.room e0 (by
    have := hbd s [.ref a, .ref b] I.kIn (by simpa using hl)
    simpa using this) r2 hsp) fun r s' hq => ?_)
  cases r with
  | error e => exact C8.pass0 (X := X) (E := C8.E0) pins σ H s e s' I hq
  | ok fl =>
    cases fl with
    | ret w =>
      obtain ⟨z, H', I', rz, kk, ez, q⟩ := I.after hq
      subst ez
      cases rz
      exact ⟨.bl kk, H', I', rfl, q⟩
    | next => exact False.elim hq
    | brk => exact False.elim hq
    | cont => exact False.elim hq
end RJ
end

section
set_option maxRecDepth 100000
set_option maxHeartbeats 2000000
namespace RJ
open PySem PySem.Spec PyProof.Rows L2
/-! ### sorted(text), fewer than 64 signs -/
theorem strsAre_of : ∀ {vs : List Value} {xs : List Str}, AreOf .str vs xs → StrsAre vs xs
  | _, _, .nil => .nil
  | _, _, .cons ⟨u, h⟩ r => by rw [h]; exact .cons _ u (strsAre_of r)
def rSortStr : List V → Hp → VK → Prop := fun vs H Q => ∃ (x : Str), vs = [V.str x] ∧ x.length < 64 ∧
  ∀ (ys : List Str) (p : Addr), ys.Perm (PyProof.Rows.signs x) → sortedS ys = true → H p = none → Q (.ref p) (upd H p (.lst (ys.map V.str)))
theorem cr_sortedStr {X : Cx} (hc : X.calm = true) : CallR X (.builtin "sorted") rSortStr := by
  intro pins s σ H vs us Q I r h
  obtain ⟨x, rfl, h64, q⟩ := h
  cases r with
  | cons rx rr =>
  cases rr
  obtain ⟨t, rfl⟩ := rx
  have hx64 : x.cps.size < 64 := h64
  refine Calls.call_function_entry kind_sorted plain_sorted entry_sorted (args_sorted1 _) ?_
  unfold Builtin.«sorted»
  refine wpAny_bind (m := checkCount "sorted" 1 1 _) (wpAny_pure ?_)
  refine wpAny_bind (wpAny_collect_str (A := X.A.in1) (I.ok.hd hc) x t (fun s1 acc k1 g1 d1 o1 hacc => ?_) (by rw [sizeLine_eq]; omega))
  have hvl : acc.toList.length = x.cps.size := by rw [Array.length_toList]; exact hacc.1
  have hS : StrsAre acc.toList (signs x) := strsAre_of (areOf_signs hvl fun j v hv => hacc.2 j v (by rw [← Array.getElem?_toList]; exact hv))
  refine wpAny_bind (wpAny_newList ?_ (by rw [hvl, sizeLine_eq]; omega))
  have hoL : (s1.heap.push (seqObj "list" acc.toList.toArray 0)).get? s1.heap.objs.size = some (seqObj "list" acc.toList.toArray 0) := Heap.get?_push_size _ rfl
  refine wpAny_bind (wpAny_holding (wpAny_call_entry slot_list_sort ⟨_, hoL, rfl⟩ entry_list_sort (list_sort_treeK strKind_oneLt hoL hS.keysOf (fun v₁ v₂ rest e => keyKind_strs (by rw [← e]; exact hS)) (by rw [hvl]; exact hx64) fun st' a1 a2 => ⟨_, rfl, ?_⟩) (args_list_sort _)))
  obtain ⟨ys, h1, h2, h3⟩ := sorted_out_str hS a1 a2
  obtain ⟨c, hcL⟩ := sortedHeap_at (vs := acc.toList) (out := (arrOf st').map (·.2)) hoL
  have hn : H s1.heap.objs.size = none := (I.hok.kept k1).fresh (Nat.le_refl _)
  have hp : s.heap.get? s1.heap.objs.size = none := by
    cases e : s.heap.get? s1.heap.objs.size with
    | none => rfl
    | some u => exact absurd (Heap.lt_size (k1 _ _ e)) (Nat.lt_irrefl _)
  have hlen : (ys.map V.str).length ≤ sizeLine := by rw [List.length_map, h2.length_eq, signs_length, sizeLine_eq]; omega
  have k : ∀ b u, s.heap.get? b = some u → (sortedHeap (s1.heap.push (seqObj "list" acc.toList.toArray 0)) s1.heap.objs.size acc.toList ((arrOf st').map (·.2))).get? b = some u := fun b u e => by
    have q := k1 b u e
    have hlt := Heap.lt_size q
    rw [sortedHeap_old (Nat.ne_of_lt hlt) (by rw [size_push']; exact Nat.lt_succ_of_lt hlt)]
    exact Heap.get?_push_of_some _ q
  have J : Inv X pins σ (upd H s1.heap.objs.size (.lst (ys.map V.str))) { s with heap := sortedHeap (s1.heap.push (seqObj "list" acc.toList.toArray 0)) s1.heap.objs.size acc.toList ((arrOf st').map (·.2)), gens := s1.gens, drawn := s1.drawn, toks := s1.toks } :=
    I.call (ch := []) (Un.laidN k hp hn) (I.hok.laidN k hn ⟨hlen, ((arrOf st').map (·.2)).toList, c, vals_of_strs h1, hcL⟩) (by rw [g1]; exact I.bare) (fun _ z => nomatch z)
  refine wpAny_pure ⟨_, rfl, ?_⟩
  have e : ({ s1 with heap := sortedHeap (s1.heap.push (seqObj "list" acc.toList.toArray 0)) s1.heap.objs.size acc.toList ((arrOf st').map (·.2)) } : Shared) = { s with heap := sortedHeap (s1.heap.push (seqObj "list" acc.toList.toArray 0)) s1.heap.objs.size acc.toList ((arrOf st').map (·.2)), gens := s1.gens, drawn := s1.drawn, toks := s1.toks } := by
    cases s1
    cases s
    cases o1
    rfl
  show EP X pins σ Q (.ref s1.heap.objs.size) _
  rw [e]
  exact ⟨.ref _, _, J, rfl, q ys _ h2 h3 hn⟩
end RJ
end

section
set_option maxRecDepth 100000
set_option maxHeartbeats 4000000
namespace RJ
open PySem PySem.Spec PyProof.Rows L2
/-! ### a walk over an own object whose __iter__ gives a tuple's iterator -/
/-- a def whose promise may speak of how many places the heap had -/
structure FnS (P : Program) (w : World) (K : PySem.W.Frag) (mg : Str → Option Value) (base : Heap) (k : Nat) (f : Addr) (fd : FuncData) (ps : List Str) (sp : Nat → Sp) : Prop where
  ln : ∀ n vs H Q E, sp n vs H Q E → vs.length = ps.length
  go : ∀ (A : Around) (outer : List Env) (s : Shared) (H : Hp) (args : Args) (us : List Value) (vs : List V) (Q : VK) (E : XK), Room k A → Env0 P w K mg base A outer s H → BindsTo s fd args (ps.zip us) → Vals vs us → sp s.heap.objs.size vs H Q E →
    codeAny (model P w) A (.call (.ref f) args) (CR C8.CX0 outer P w H s Q E) s
structure MetS (P : Program) (w : World) (K : PySem.W.Frag) (mg : Str → Option Value) (base : Heap) (k : Nat) (C : Addr) (m : Str) (sp : Nat → Sp) : Prop where
  ex : ∃ (f : Addr) (fd : FuncData) (ps : List Str), Cls K C ∧ Meth K C m f ∧ FnS P w K mg base k f fd ps sp ∧ Binds K fd ps []
section
variable {P : Program} {w : World} {K : PySem.W.Frag} {mg : Str → Option Value} {base : Heap}
theorem fnS0 {x qual : Str} {st : Stmt} {f : Addr} {fd : FuncData} {N ps : List Str} {k : Nat} {sp : Nat → Sp} (F : C8.Fun K x qual st f fd) (S : FnScope N ps (C8.fnScope st)) (len : ∀ n vs H Q E, sp n vs H Q E → vs.length = ps.length)
    (hb : ∀ (cdv : Value) (A : Around) (outer : List Env) (s : Shared) (H : Hp) (vs : List V) (Q : VK) (E : XK), Room k (A.deeper (envOfC qual (C8.fnScope st) s.heap.objs.size f cdv)) → sp s.heap.objs.size vs H Q E →
      ∃ t, PSs (cxOf C8.CX0 P w K mg base N qual (C8.fnScope st) f cdv A outer s H E).nox (C8.fnBody st) t ∧ t { nx := fun _ H' => Q .non H', rt := Q } (start N vs) H) : FnS P w K mg base (k + 1) f fd ps sp := by
  obtain ⟨oc, od, dV, kV, doc, pm, an, cdv, ct, osl, rfl, lk, hcd⟩ := F.ex
  refine ⟨len, fun A outer s H args us vs Q E hr e0 hbn r hsp => LamX.run_ofS lk hcd S hr e0 hbn r (len _ _ _ _ _ hsp) fun hr' => ?_⟩
  obtain ⟨t, h, q⟩ := hb cdv A outer s H vs Q E hr' hsp
  exact ⟨t, h.nox, q⟩
end
/-- a tuple's iterator at its begin -/
def TupS (it t : Addr) : HO := .ext fun h => h.IsTupleIter it t 0
theorem tupS_ok {P : Program} {w : World} {H : Hp} {h : Heap} {it t : Addr} (e : h.IsTupleIter it t 0) : ObjOk P w H h it (TupS it t) := by
  refine ⟨e, ?_, fun h1 h2 q k => ?_⟩
  · obtain ⟨o, ho, _⟩ := e
    exact ⟨o, ho⟩
  · obtain ⟨o, ho, r⟩ := q
    exact ⟨o, k _ ho, r⟩
def rIterN (n0 : Nat) : List V → Hp → VK → Prop := fun xs H Q => ∃ (l : Addr) (zs : List V), xs = [.ref l] ∧ H l = some (.tup zs) ∧ ∀ it, H it = none → n0 ≤ it → Q (.ref it) (upd H it (TupS it l))
theorem call_iterN {X : Cx} {n0 : Nat} (hn0 : n0 ≤ X.s_0.heap.objs.size) : CallR X (.builtin "iter") (rIterN n0) := by
  intro pins s σ H xs us Q I r h
  obtain ⟨l, zs, rfl, hq, q⟩ := h
  obtain rfl := Vals.ref1 r
  obtain ⟨its, rv, pl, hz⟩ := I.tuple (SqT.of hq)
  refine rj_call_iterT pl ?_
  exact ⟨.ref s.heap.objs.size, _, I.laid (t' := s.toks) (fun b u e => Heap.get?_push_of_some _ e) (Nat.le_refl _) (tupS_ok ⟨_, Heap.get?_push_size _ rfl, rfl, rfl⟩), rfl, q _ (I.hok.fresh (Nat.le_refl _)) (Nat.le_trans hn0 I.sz)⟩
def iIterS (K : PySem.W.Frag) (C : Addr) (sp : Nat → Sp) (ta : TE) : TI := fun σ H R => ta σ H fun x H1 => ∃ (a dx : Addr) (fs : List (Str × V)), x = .ref a ∧ H1 a = some (.ins C dx fs) ∧ ∀ n0, sp n0 [.ref a] H1 (fun v H2 => ∃ (it pa : Addr), v = .ref it ∧ H1 it = none ∧ n0 ≤ it ∧ H2 = upd H1 it (TupS it pa) ∧ R (Itt K pa) H1) C8.E0
theorem pi_iterS {X : Cx} {tg e : Expr} {ta : TE} {k j : Nat} {C : Addr} {sp : Nat → Sp} (c : MetS X.prog X.w X.K X.mg X.base k C "__iter__" sp) (hr : Room j X.A) (hk : k + 2 ≤ j) (he : PE X e ta) : PI X tg e (iIterS X.K C sp ta) := by
  obtain ⟨f, fd, ps, hc, hmt, F, b⟩ := c.ex
  refine ⟨fun pins s σ H R I h => ?_⟩
  refine thn (he.run pins s σ H _ I h) fun v s1 ⟨x, H1, I1, r1, q1⟩ => ?_
  obtain ⟨a, dx, fs, ex, ea, q⟩ := q1
  subst ex
  cases r1
  obtain ⟨mA, J, _⟩ := ins_get I1.hok ea
  obtain ⟨od, J, _⟩ := J.look
  obtain ⟨m, hF⟩ := I1.fr
  refine PySem.W.owit_iter hF I1.ok.mod.kin J hmt.at_ hmt.fn ?_
  have rm : Room k X.A := hr.mono (by omega)
  have e0 : Env0 X.prog X.w X.K X.mg X.base X.A X.stack s1 H1 := by
    have e := I1.env0
    exact ⟨e.frames, e.mod, e.bs, e.bsz, e.funs, e.frf, e.hok, e.bare⟩
  have hq := q s1.heap.objs.size
  have hl := F.ln _ _ _ _ _ hq
  have r2 : Vals [V.ref a] [Value.ref a] := .cons rfl .nil
  refine wpAny_call (codeAny_mono (F.go X.A X.stack s1 H1 ⟨[.ref a], []⟩ [.ref a] [.ref a] _ C8.E0 rm e0 (by
    have := b s1 [.ref a] I1.kIn (by simpa using hl)
    simpa using this) r2 hq) fun r s' hq' => ?_)
  cases r with
  | error e => exact hq'.elim
  | ok fl =>
    cases fl with
    | next => exact False.elim hq'
    | brk => exact False.elim hq'
    | cont => exact False.elim hq'
    | ret u =>
      obtain ⟨v, H', os, bare, un, hok, rv, it, pa, ev, hn1, hle, eH, hR⟩ := hq'
      subst ev
      subst eH
      cases rv
      obtain ⟨hh, g, d, t, os'⟩ := s'
      obtain rfl : os' = s1.os := os
      have hok2 : HOk X.prog X.w H1 hh := fun b u e => (hok b u (by rw [upd_ne (ne_of_none e hn1)]; exact e)).stay (fun c v _ q => q) (fun c q => by
        by_cases z : c = it
        · rw [z, upd_same] at q; cases q
        · rw [upd_ne z] at q; exact q) fun c ys q => by
        by_cases z : c = it
        · rw [z, upd_same] at q; cases q
        · rw [upd_ne z] at q; exact q
      have I3 : Inv X pins σ H1 { heap := hh, gens := g, drawn := d, toks := t, os := s1.os } := I1.call (h' := hh) (g' := g) (d' := d) (t' := t) (ch := [])
        ⟨fun b o e n f x => un.keep b o e n f x, fun b o e n f x => un.slot b o e n f x, fun b o e n x => n, fun b o e x => un.there b o e x, fun b xs e => e, fun b o u e => e, fun b ps e => ⟨#[], by rw [e]; simp⟩⟩ hok2 bare (fun b z => absurd z (by simp))
      have hit : hh.IsTupleIter it pa 0 := (hok it _ upd_same).1
      have hT : ({ heap := hh, gens := g, drawn := d, toks := t, os := s1.os } : Shared).TypeIs (.ref it) "tuple_iterator" := by
        obtain ⟨o, ho, hc, _⟩ := hit
        exact ⟨o, ho, hc⟩
      unfold PySem.W.OwitIt
      refine wpAny_specialOf (name := Str.ofString "__next__") hT PySem.F.slot_tuple_iterator_next.lookup ?_
      refine ⟨it, [it], _, _, H1, rfl, I3, turn_tuple pa it, hit, fun c hc => ?_, hR⟩
      rw [List.mem_singleton.mp hc]
      exact I1.fpOk hle hn1
end RJ
end

section
set_option maxRecDepth 100000
set_option maxHeartbeats 4000000
namespace RJ
open PySem PySem.Spec PyProof.Rows L2
/-- *a, b = a list -/
def gStar1 (K : PySem.W.Frag) (ga gb : TG) : TG := fun v σ H Q => ∃ a xs x, v = .ref a ∧ SqL K H a (xs ++ [x]) ∧ ∀ L, H L = none → ga (.ref L) σ (upd H L (.lst xs)) fun σ1 H1 => gb x σ1 H1 Q
theorem pg_star1 {X : Cx} {t b : Expr} {p pos : Pos} {k : Nat} {ga gb : TG} (hc : X.calm = true) (ha : PG X t ga) (hb : PG X b gb) (he : assignEach [.Starred t p, b] X.env = [(true, assign t X.env), (false, assign b X.env)] := by rfl) : PG X (.Tuple [.Starred t p, b] k pos) (gStar1 X.K ga gb) := by
  refine ⟨fun pins s σ H v u Q I r hw => ?_⟩
  obtain ⟨a, xs, x, e1, hq, hw⟩ := hw
  subst e1
  cases r
  obtain ⟨its, rv, pl, hz⟩ := I.list hq
  rw [PyProof.Rows.assign_Tuple, he]
  refine wpAny_bind (wpAny_standAt ?_)
  unfold unpack
  refine wpAny_bind (wpAny_holding ?_)
  show wpAny _ _ (unpackItems (.ref a) 2 (some 0)) _ _ _
  unfold unpackItems
  refine wpAny_bind ?_
  unfold notIterableAtAll
  refine wpAny_bind (wpAny_specialOf pl.isList.typeIs PySem.F.slot_list_iter.lookup ?_)
  refine wpAny_pure ?_
  simp only [Bool.false_eq_true, if_false]
  refine wpAny_bind (wpAny_holding (wpAny_pyIter_list pl.isList ?_))
  refine wpAny_bind (wpAny_holding (wpAny_pure ?_))
  rw [if_neg (by simp)]
  have hlt : a < s.heap.objs.size := by obtain ⟨o, ho, _⟩ := pl.isList; exact Heap.lt_size ho
  have hl := rv.length
  have hsz : its.toArray.size ≤ sizeLine := by rw [List.size_toArray, ← hl]; exact hz
  refine wpAny_bind (wpAny_holding (wpAny_collect_iter (T := "list_iterator") (.inr (.inr (.inl rfl))) (Walks.list (A := X.A.in1) (I.ok.hd hc) s.heap.objs.size a (Nat.ne_of_lt hlt) its.toArray).toS (fun i s' st => st.1.typeIs) ⟨⟨_, Heap.get?_push_size _ rfl, rfl, rfl⟩, pl.isList.push _⟩ (fun b hb => ?_) (by simp) (fun s' acc hm hacc => ?_) hsz))
  · rcases List.mem_cons.mp hb with rfl | hb
    · show _ < (s.heap.push _).objs.size
      rw [Heap.size_push]; exact Nat.lt_succ_self _
    · rw [List.mem_singleton.mp hb]
      show _ < (s.heap.push _).objs.size
      rw [Heap.size_push]; exact Nat.lt_succ_of_lt hlt
  have hacc2 : acc.toList = its := by
    refine List.ext_getElem? fun j => ?_
    by_cases hj : j < acc.size
    · have e1 : acc[j]? = some acc[j] := Array.getElem?_eq_getElem hj
      have e2 : its.toArray[j]? = some acc[j] := hacc.2 j _ e1
      rw [Array.getElem?_toList, e1]
      rw [List.getElem?_toArray] at e2
      exact e2.symm
    · have h1 : acc.size = its.length := hacc.1.trans (List.size_toArray ..)
      rw [List.getElem?_eq_none (by rw [Array.length_toList]; omega), List.getElem?_eq_none (by omega)]
  rw [hacc2]
  have hil : its.length = xs.length + 1 := by rw [← hl, List.length_append]; rfl
  rw [if_neg (by omega)]
  have I0 : Inv X pins σ H { s with heap := s.heap.push { cls := .type "list_iterator", data := .fields #[.ref a, .int 0 0] } } := I.kept (t' := s.toks) fun b o e => Heap.get?_push_of_some _ e
  have hm2 := Moved.eq_with hm
  have I1 : Inv X pins σ H s' := by
    rw [hm2]
    refine I.kept (h' := s'.heap) (t' := s'.toks) fun b o e => hm.heap b o (fun hb => ?_) (Heap.get?_push_of_some _ e)
    rw [List.mem_singleton.mp hb] at e
    exact absurd (Heap.lt_size e) (Nat.lt_irrefl _)
  have hfr : H s'.heap.objs.size = none := I1.hok.fresh (Nat.le_refl _)
  have etk : its.take (its.length - 1) ++ its.drop (its.length - 1) = its := List.take_append_drop _ _
  obtain ⟨us, ux, eus, r1, r2⟩ : ∃ us ux, its = us ++ [ux] ∧ Vals xs us ∧ RelV x ux := by
    have gen : ∀ {xs : List V} {its : List Value}, Vals (xs ++ [x]) its → ∃ us ux, its = us ++ [ux] ∧ Vals xs us ∧ RelV x ux := by
      intro xs
      induction xs with
      | nil => intro its r; cases r with | cons h t => cases t; exact ⟨[], _, rfl, .nil, h⟩
      | cons y ys ih => intro its r; cases r with | cons h t => obtain ⟨us, ux, e, r1, r2⟩ := ih t; exact ⟨_ :: us, ux, by rw [e]; rfl, .cons h r1, r2⟩
    exact gen rv
  have hul : us.length = xs.length := r1.length.symm
  have e1 : its.take (its.length - (2 - 1 - 0)) = us := by
    rw [show its.length - (2 - 1 - 0) = us.length by omega, eus, List.take_left]
  have e2 : its.drop (its.length - (2 - 1 - 0)) = [ux] := by
    rw [show its.length - (2 - 1 - 0) = us.length by omega, eus, List.drop_left]
  rw [e1, e2]
  have hxz : xs.length ≤ sizeLine := by rw [List.length_append] at hz; exact Nat.le_trans (Nat.le_add_right _ _) hz
  refine wpAny_bind (wpAny_newObj_type ?_ (by show us.toArray.size ≤ sizeLine; rw [List.size_toArray, hul]; exact hxz))
  refine wpAny_pure ?_
  have I2 := I1.lnew (its := us) (t' := s'.toks) r1 hxz
  show wpAny _ _ (assignInOrder [assign t X.env, assign b X.env] [.ref s'.heap.objs.size, ux]) _ _ _
  refine assignInOrder_cons (thn (ha.run pins _ σ _ (.ref s'.heap.objs.size) _ _ I2 rfl (hw _ hfr)) fun _ s3 ⟨σ1, H3, I3, q3⟩ => ?_)
  refine assignInOrder_cons (thn (hb.run pins s3 σ1 H3 _ _ _ I3 r2 q3) fun _ s4 q4 => ?_)
  exact wpAny_pure q4
end RJ
end

section
set_option maxRecDepth 100000
set_option maxHeartbeats 4000000
namespace RJ
open PySem PySem.Spec PyProof.Rows L2
/-! ### a text with replaced signs, sorted and joined: a token is out behind the written separator -/
section
variable {X : Cx} {e : Expr} {te : TE} {t : TA} {es : List Expr} {x id : Str} {p pos p2 : Pos}
theorem pet_slice {lo hi : Option Expr} {tl th : TO} {r : V → Option Int → Option Int → Hp → VK → Prop} (hr : SlR X r) (he : PET X e te) (hl : PO X lo tl) (hu : PO X hi th) : PET X (.Subscript e (.Slice lo hi none p2) pos) (tSl r te tl th) := by
  intro pins s σ H Q h0 I h
  refine Subscript_ (thn (he pins s σ H _ h0 I h) fun v s1 ⟨x, H1, I1, r1, q1⟩ => ?_)
  refine wpAny_Slice (thn (hl.run pins s1 σ H1 _ I1 q1) fun vl s2 ⟨l, H2, I2, pl, q2⟩ => thn (hu.run pins s2 σ H2 _ I2 q2) fun vu s3 ⟨u, H3, I3, pu, q3⟩ => ?_)
  rw [evalPart_none]
  refine wpAny_pure ?_
  have I4 : Inv X pins σ H3 { s3 with heap := s3.heap.push { cls := .type "slice", data := .fields #[vl, vu, .none] } } := I3.kept (t' := s3.toks) fun b ob q => Heap.get?_push_of_some _ q
  obtain ⟨T, id, hT, ht, hg⟩ := hr pins { s3 with heap := s3.heap.push { cls := .type "slice", data := .fields #[vl, vu, .none] } } σ H3 x v vl vu l u s3.heap.objs.size Q I4 r1 (Heap.IsSliceOf.new ..) pl pu q3
  show wpAny (model X.prog X.w) X.A (subscriptTail e (.Slice lo hi none p2) v (.ref s3.heap.objs.size)) (EP X pins σ Q) X.xe { s3 with heap := s3.heap.push { cls := .type "slice", data := .fields #[vl, vu, .none] } }
  exact tail_any (ops := [.ref s3.heap.objs.size, v]) ht hT hg (by with_unfolding_all rfl)
theorem pet_callB {r : List V → Hp → VK → Prop} {id : String} (hc : CallR X (.builtin id) r) (hg : Gl X x) (hm : X.mg x = none) (hv : bootBuiltins x = some (.builtin id)) (ha : PAT X (e :: es) t) (hn : x ≠ "__name__" := by decide) (hdb : (x == ("__debug__" : Str)) = false := by decide)
    (he : starEach (e :: es) X.env = (false, eval e X.env) :: starEach es X.env := by rfl) (hpl : (backTo pos (starEach es X.env)).any (·.1) = false := by rfl) : PET X (.Call (.Name x p) (e :: es) [] pos) (tCB r t) := by
  intro pins s σ H Q h0 I h
  refine wpAny_Call_Name_kw (ld_blt I hg hm hv ?_ hn hdb)
  exact PyProof.Rows.callWith_builtin1 (thn (ha pos pins s σ H _ h0 I h) fun us s1 ⟨vs, H1, I1, r1, q1⟩ => hc pins s1 σ H1 vs us Q I1 r1 q1) he hpl
theorem pe_joinT {a : Str} {j : Nat} {cp apos : Pos} (he : PET X e te) (hs : starEach [e] X.env = [(false, eval e X.env)] := by rfl) (hbase : attributeBase (.Constant (.str a) j cp) "join" X.env (eval (.Constant (.str a) j cp) X.env) = eval (.Constant (.str a) j cp) X.env := by rfl) (hline : (apos.endLine == pos.line) = true := by rfl) :
    PE X (.Call (.Attribute (.Constant (.str a) j cp) "join" apos) [e] [] pos) (tM1 (fun x xs H Q => ∃ a p, ∃ ys : List Str, x = .str a ∧ xs = [.ref p] ∧ (SqL X.K H p (ys.map V.str) ∨ SqT X.K H p (ys.map V.str)) ∧
      (ys.map (·.length)).sum + ys.length * a.length ≤ 16777216 ∧ Q (.str (Txt.join a ys)) H) (tC (.str a)) te) := by
  refine ⟨fun pins s σ H Q I h => ?_⟩
  refine PySem.Call_method1 hbase hs hline (Calls.Constant_str ?_)
  obtain ⟨_, q1⟩ := h
  refine ⟨"str", _, F.plainAttrs_str, F.slot_str_join, F.type_str_join, typeIs_str _ _ _, (fun _ e => nomatch e), Calls.callWith_builtin rfl (Calls.evalArgs_plain (Calls.spliced_cons ?_))⟩
  exact thn (he pins _ σ H _ (Nat.le_add_left 1 s.toks) (I.tok (s.toks + 1)) q1) fun u s2 ⟨y, H2, I2, r2, q2⟩ => Calls.spliced_nil (mt_join pins s2 σ H2 _ [y] _ [u] Q I2 (show RelV (.str a) (.str a s.toks) from ⟨s.toks, rfl⟩) (.cons r2 .nil) q2)
end
end RJ
end

section
set_option maxRecDepth 100000
namespace RJ
open PySem PySem.Spec PyProof.Rows L2
def top (i : Nat) : Stmt := PySem.Challenge.pw_rankedjoins_k03_lists_as_texts.main.body.getD i (.Pass ⟨0, 0, 0, 0⟩)
/-- what the top leaves of the built-in names and of the module's constants -/
structure Txt (K : PySem.W.Frag) (mg : Str → Option Value) : Prop where
  b_isinstance : mg "isinstance" = none
  b_len : mg "len" = none
  b_min : mg "min" = none
  b_all : mg "all" = none
  b_abs : mg "abs" = none
  b_int : mg "int" = none
  b_bool : mg "bool" = none
  b_str : mg "str" = none
  b_tuple : mg "tuple" = none
  b_list : mg "list" = none
  b_zip : mg "zip" = none
  b_enumerate : mg "enumerate" = none
  b_range : mg "range" = none
  b_sorted : mg "sorted" = none
  b_iter : mg "iter" = none
  c_MOST_LETTERS : ∃ u, mg "MOST_LETTERS" = some u ∧ RelV (.int 30) u
  c_MOST_JOINS : ∃ u, mg "MOST_JOINS" = some u ∧ RelV (.int 60) u
  c_MOST_SIGNS_OF_PIECE : ∃ u, mg "MOST_SIGNS_OF_PIECE" = some u ∧ RelV (.int 40) u
  c_MOST_DIGITS : ∃ u, mg "MOST_DIGITS" = some u ∧ RelV (.int 4) u
theorem hu64_of {A : Around} {k : Nat} (hr : Room k A) : A.units + 64 < cLine := hr.units
/-! ### heaps -/
theorem Same.new {H H' : Hp} {p : Addr} {o : HO} (s : Same H H') (h : H' p = none) : Same H (upd H' p o) := fun b u e => by
  have := s b u e
  rw [upd_ne (ne_of_none this h)]; exact this
theorem Same.put {H H' : Hp} {p : Addr} {o : HO} (s : Same H H') (h : H p = none) : Same H (upd H' p o) := fun b u e => by
  rw [upd_ne (ne_of_none e h)]; exact s b u e
theorem same_new {H : Hp} {p : Addr} {o : HO} (h : H p = none) : Same H (upd H p o) := Same.new (Same.refl H) h
/-! ### values -/
/-- a row of pieces -/
def iv (l : List Nat) : List V := l.map fun (n : Nat) => V.int (n : Int)
theorem iv_len (l : List Nat) : (iv l).length = l.length := by rw [iv, List.length_map]
theorem iv_get {l : List Nat} {i : Nat} {v : V} (h : (iv l)[i]? = some v) : ∃ n : Nat, l[i]? = some n ∧ v = V.int (n : Int) := by
  rw [iv, List.getElem?_map] at h
  cases e : l[i]? with
  | none => rw [e] at h; cases h
  | some n => rw [e] at h; exact ⟨n, rfl, (Option.some.inj h).symm⟩
theorem iv_at {l : List Nat} {i n : Nat} (h : l[i]? = some n) : (iv l)[i]? = some (V.int (n : Int)) := by
  rw [iv, List.getElem?_map, h]; rfl
theorem iv_snoc (l : List Nat) (n : Nat) : iv l ++ [V.int (n : Int)] = iv (l ++ [n]) := by rw [iv, iv, List.map_append]; rfl
/-- a list or a tuple at p -/
def SeqAt (b : Bool) (H : Hp) (p : Addr) (xs : List V) : Prop := H p = some (match b with | true => .lst xs | false => .tup xs)
theorem SeqAt.same {b : Bool} {H H' : Hp} {p : Addr} {xs : List V} (h : SeqAt b H p xs) (s : Same H H') : SeqAt b H' p xs := s _ _ h
/-- a row at p: a list or a tuple -/
abbrev RowAt (b : Bool) (H : Hp) (p : Addr) (l : List Nat) : Prop := SeqAt b H p (iv l)
abbrev S (l : List Nat) : Str := SX.S l
theorem S_len (l : List Nat) : (S l).length = l.length := SX.S_len l
end RJ
end

section
set_option maxRecDepth 100000
set_option maxHeartbeats 2000000
namespace RJ
open PySem PySem.Spec PyProof.Rows L2
abbrev s_is_integer : Stmt := top 10
abbrev N_is_integer : List Str := ["value"]
theorem sc_is_integer : FnScope N_is_integer ["value"] (C8.fnScope s_is_integer) := C8.fnScope_by (by decide +kernel)
abbrev s_is_number_below : Stmt := top 11
abbrev N_is_number_below : List Str := ["value", "end"]
theorem sc_is_number_below : FnScope N_is_number_below ["value", "end"] (C8.fnScope s_is_number_below) := C8.fnScope_by (by decide +kernel)
abbrev s_is_sign : Stmt := top 12
abbrev N_is_sign : List Str := ["sign"]
theorem sc_is_sign : FnScope N_is_sign ["sign"] (C8.fnScope s_is_sign) := C8.fnScope_by (by decide +kernel)
abbrev s_is_alphabet : Stmt := top 13
abbrev N_is_alphabet : List Str := ["text", "ascending", "first", "second", "sign"]
theorem sc_is_alphabet : FnScope N_is_alphabet ["text"] (C8.fnScope s_is_alphabet) := C8.fnScope_by (by decide +kernel)
/-- is the value an integer that is no bool -/
def isIntV : V → Bool
  | .int _ => true
  | _ => false
/-- values whose kind isinstance knows -/
inductive Kind (H : Hp) : V → Prop
  | int (i : Int) : Kind H (.int i)
  | bl (b : Bool) : Kind H (.bl b)
  | non : Kind H .non
  | str (x : Str) : Kind H (.str x)
  | lst {a : Addr} {xs : List V} (e : H a = some (.lst xs)) : Kind H (.ref a)
  | tup {a : Addr} {xs : List V} (e : H a = some (.tup xs)) : Kind H (.ref a)
theorem Kind.isi {K : PySem.W.Frag} {H : Hp} {x : V} (k : Kind H x) : ∃ t, TyX K H x t ∧ ∃ b, PySem.W.kitOne K t (.type "bool") = some b ∧ ∃ c, PySem.W.kitOne K t (.type "int") = some c ∧ (c && !b) = isIntV x := by
  cases k with
  | int i => exact ⟨_, .base (.int i), false, kit_ty (by decide +kernel), true, kit_ty (by decide +kernel), rfl⟩
  | bl b => exact ⟨_, .base (.bl b), true, kit_ty (by decide +kernel), true, kit_ty (by decide +kernel), rfl⟩
  | non => exact ⟨_, .base .non, false, kit_ty (by decide +kernel), false, kit_ty (by decide +kernel), rfl⟩
  | str x => exact ⟨_, .base (.str x), false, kit_ty (by decide +kernel), false, kit_ty (by decide +kernel), rfl⟩
  | lst e => exact ⟨_, .base (.lst e), false, kit_ty (by decide +kernel), false, kit_ty (by decide +kernel), rfl⟩
  | tup e => exact ⟨_, .base (.tup e), false, kit_ty (by decide +kernel), false, kit_ty (by decide +kernel), rfl⟩
def numBelow (x : V) (n : Int) : Bool := match x with
  | .int i => decide (0 ≤ i) && decide (i < n)
  | _ => false
def sp_is_integer : Sp := fun vs H Q _ => ∃ x, vs = [x] ∧ Kind H x ∧ Q (.bl (isIntV x)) H
def sp_is_number_below : Sp := fun vs H Q _ => ∃ x n, vs = [x, .int n] ∧ Kind H x ∧ Q (.bl (numBelow x n)) H
def sp_is_sign : Sp := fun vs H Q _ => ∃ c, vs = [.str (S [c])] ∧ Q (.bl (decide (32 ≤ c ∧ c ≤ 126))) H
section
variable {P : Program} {w : World} {K : PySem.W.Frag} {mg : Str → Option Value} {base : Heap}
theorem ok_is_integer {f : Addr} {fd : FuncData} (F : C8.Fun K "is_integer" "is_integer" s_is_integer f fd) (T : Txt K mg) : FnOk P w K mg base C8.CX0 1 f fd ["value"] sp_is_integer := by
  refine C8.fn0 F sc_is_integer (fun vs H Q E h => ?_) (fun cdv A outer s H vs Q E hr h => ?_)
  · obtain ⟨x, rfl, _⟩ := h; rfl
  · obtain ⟨x, rfl, k, q⟩ := h
    refine ⟨_, (pss_one (ps_ret (pe_and (pe_callB call_isi (by rfl) T.b_isinstance (by decide +kernel) (pa_cons (pv 0) (pa_cons (pe_bltn (v := .ty "int") (u := .type "int") rfl T.b_int (by decide +kernel) rfl) pa_nil))) (pe_one (pe_not (pe_callB call_isi (by rfl) T.b_isinstance (by decide +kernel) (pa_cons (pv 0) (pa_cons (pe_bltn (v := .ty "bool") (u := .type "bool") rfl T.b_bool (by decide +kernel) rfl) pa_nil)))))))), ?_⟩
    obtain ⟨t, ty, b, hb, c, hc, e⟩ := k.isi (K := K)
    refine ⟨_, rfl, x, .ty "int", t, .type "int", c, rfl, .ty _, ty, hc, c, rfl, ?_⟩
    cases c with
    | false => 
      have e' : false = isIntV x := e
      refine iteF ?_
      rw [e']; exact q
    | true =>
      refine iteT ⟨_, rfl, x, .ty "bool", t, .type "bool", b, rfl, .ty _, ty, hb, b, rfl, ?_⟩
      have e' : (!b) = isIntV x := by rw [← e]; simp
      show Q (.bl (!b)) H
      rw [e']; exact q
end
end RJ
end

section
set_option maxRecDepth 100000
set_option maxHeartbeats 2000000
namespace RJ
open PySem PySem.Spec PyProof.Rows L2
theorem walkG {n : Nat} {G : Hp → Prop} {PX : Nat → List V → Prop} : Walk (ItG n G PX) n G (fun i H v H' => ∃ T xs, v = .ref T ∧ H T = none ∧ H' = upd H T (.tup xs) ∧ PX i xs) :=
  ⟨fun _ _ hi h => ⟨h, hi⟩, fun _ h => ⟨h, Nat.le_refl _⟩, fun _ _ _ _ _ _ y => y⟩
theorem cutS_from (l : List Nat) (k : Nat) : cutS (S l) (some (k : Int)) none = S (l.drop k) := by
  show (⟨(((S l).cps.toList.drop (HT.sIx (S l).length 0 (some (k : Int)))).take (HT.sIx (S l).length (S l).length none - HT.sIx (S l).length 0 (some (k : Int)))).toArray⟩ : Str) = ⟨(l.drop k).toArray⟩
  rw [HT.sIx_nat, HT.sIx_none, S_len]
  have e : (l.drop (min k l.length)).take (l.length - min k l.length) = l.drop k := by
    by_cases h : k ≤ l.length
    · rw [Nat.min_eq_left h, List.take_of_length_le (by rw [List.length_drop]; omega)]
    · rw [Nat.min_eq_right (by omega), List.drop_eq_nil_of_le (by omega : l.length ≤ k), List.drop_length, List.take_nil]
  exact congrArg (fun z : List Nat => (⟨z.toArray⟩ : Str)) e
theorem S_get (l : List Nat) (i : Nat) : (S l).cps[i]? = l[i]? := by
  show l.toArray[i]? = l[i]?
  rw [List.getElem?_toArray]
theorem S_size (l : List Nat) : (S l).cps.size = l.length := List.size_toArray
theorem str1 (c : Nat) : (⟨#[c]⟩ : Str) = S [c] := rfl
/-- the source that a text is -/
theorem src_text (H : Hp) (l : List Nat) : SrcV H (.str (S l)) l.length (fun _ => True) (fun i v => ∃ c, (S l).cps[i]? = some c ∧ v = .str ⟨#[c]⟩) :=
  .inl ⟨S l, rfl, (S_size l).symm, rfl, rfl⟩
abbrev s_check_alphabet : Stmt := top 14
abbrev N_check_alphabet : List Str := ["text"]
theorem sc_check_alphabet : FnScope N_check_alphabet ["text"] (C8.fnScope s_check_alphabet) := C8.fnScope_by (by decide +kernel)
/-- neighbors ascend -/
def ascL (l : List Nat) : List Bool := (l.zip (l.drop 1)).map fun p => decide (p.1 < p.2)
def alOk (l : List Nat) : Bool := decide (1 ≤ l.length ∧ l.length ≤ 30) && ((ascL l).all id && (l.map fun c => decide (32 ≤ c ∧ c ≤ 126)).all id)
def sp_is_alphabet : Sp := fun vs H Q _ => ∃ l : List Nat, vs = [.str (S l)] ∧ l.length ≤ 1000 ∧ ∀ H', Same H H' → Q (.bl (alOk l)) H'
def sp_check_alphabet : Sp := fun vs H Q _ => ∃ l : List Nat, vs = [.str (S l)] ∧ l.length ≤ 1000 ∧ alOk l = true ∧ ∀ H', Same H H' → Q .non H'
theorem small_le {n : Nat} (h : n ≤ 1000) : n ≤ sizeLine := Nat.le_of_lt (small1000 h)
theorem map_take_succ {α β : Type} {f : α → β} {l : List α} {i : Nat} {x : α} (h : l[i]? = some x) : (l.take (i + 1)).map f = (l.take i).map f ++ [f x] := by
  rw [List.take_add_one, h, List.map_append]; rfl
theorem lt_cps (a b : Nat) : decide ((S [a]).cps.toList < (S [b]).cps.toList) = decide (a < b) := by
  apply decide_eq_decide.mpr
  show ([a] < [b]) ↔ a < b
  rw [List.cons_lt_cons_iff]
  constructor
  · rintro (h | ⟨_, h⟩)
    · exact h
    · exact absurd h (by simp)
  · exact .inl
section
variable {P : Program} {w : World} {K : PySem.W.Frag} {mg : Str → Option Value} {base : Heap}
theorem ok_is_number_below {f : Addr} {fd : FuncData} (F : C8.Fun K "is_number_below" "is_number_below" s_is_number_below f fd) (T : Txt K mg) (c_is_integer : C8.Cal P w K mg base 1 "is_integer" sp_is_integer []) : FnOk P w K mg base C8.CX0 2 f fd ["value", "end"] sp_is_number_below := by
  refine C8.fn0 F sc_is_number_below (fun vs H Q E h => ?_) (fun cdv A outer s H vs Q E hr h => ?_)
  · obtain ⟨x, n, rfl, _⟩ := h; rfl
  · obtain ⟨x, n, rfl, k, q⟩ := h
    refine ⟨_, (pss_one (ps_ret (pe_and (C8.pe_c c_is_integer hr (by first | decide | omega) (by rfl) (pa_cons (pv 0) pa_nil)) (pe_one (pe_chain op_le op_lt pe_int (pv 0) (pv 1)))))), ?_⟩
    refine ⟨_, rfl, x, rfl, k, _, rfl, ?_⟩
    cases k with
    | int i =>
      refine iteT ⟨_, rfl, _, _, rfl, rfl, _, rfl, ?_⟩
      have q' : Q (.bl (decide (0 ≤ i) && decide (i < n))) H := q
      by_cases c : 0 ≤ i
      · rw [decide_eq_true c] at q' ⊢
        exact iteT ⟨_, rfl, _, _, rfl, rfl, q'⟩
      · rw [decide_eq_false c] at q' ⊢
        exact iteF q'
    | bl b => exact iteF q
    | non => exact iteF q
    | str x => exact iteF q
    | lst e => exact iteF q
    | tup e => exact iteF q
theorem ok_is_sign {f : Addr} {fd : FuncData} (F : C8.Fun K "is_sign" "is_sign" s_is_sign f fd) (T : Txt K mg) : FnOk P w K mg base C8.CX0 1 f fd ["sign"] sp_is_sign := by
  refine C8.fn0 F sc_is_sign (fun vs H Q E h => ?_) (fun cdv A outer s H vs Q E hr h => ?_)
  · obtain ⟨c, rfl, _⟩ := h; rfl
  · obtain ⟨c, rfl, q⟩ := h
    refine ⟨_, (pss_one (ps_ret (pe_chain op_le_str op_le_str pe_str (pv 0) pe_str))), ?_⟩
    refine ⟨_, rfl, S [32], S [c], rfl, rfl, _, rfl, ?_⟩
    rw [lt_cps]
    by_cases h1 : c < 32
    · rw [decide_eq_true h1]
      refine iteF ?_
      rw [decide_eq_false (by omega)] at q; exact q
    · rw [decide_eq_false h1]
      refine iteT ⟨S [c], S [126], rfl, rfl, ?_⟩
      rw [lt_cps]
      have e : (!decide (126 < c)) = decide (32 ≤ c ∧ c ≤ 126) := by
        by_cases h2 : 126 < c
        · rw [decide_eq_true h2, decide_eq_false (by omega)]; rfl
        · rw [decide_eq_false h2, decide_eq_true (by omega)]; rfl
      rw [e]; exact q
theorem ok_is_alphabet {f : Addr} {fd : FuncData} (F : C8.Fun K "is_alphabet" "is_alphabet" s_is_alphabet f fd) (T : Txt K mg) (c_is_sign : C8.Cal P w K mg base 1 "is_sign" sp_is_sign []) : FnOk P w K mg base C8.CX0 2 f fd ["text"] sp_is_alphabet := by
  refine C8.fn0 F sc_is_alphabet (fun vs H Q E h => ?_) (fun cdv A outer s H vs Q E hr h => ?_)
  · obtain ⟨l, rfl, _⟩ := h; rfl
  · obtain ⟨l, rfl, hl, q⟩ := h
    refine ⟨_, (pss_cons (ps_set (i := 1) sc_is_alphabet.nd rfl (Or.inl rfl) (pe_callB (cr_all rfl) (by rfl) T.b_all (by decide +kernel) (pa_cons (pe_lc (own := [("first", 2), ("second", 3)]) (g := gTup K 2 (gCons (gName 2) (gCons (gName 3) (gNil)))) (tt := tYes) rfl sc_is_alphabet.nd (pi_zipT2 rfl T.b_zip (pa_cons (pv 0) (pa_cons (pe_slice sl_str (pv 0) (po_some pe_int) po_none) pa_nil))) (blkOk_by (N := N_is_alphabet) (sc := C8.fnScope s_is_alphabet) (by decide +kernel)) (fun _ _ _ _ _ => (pg_tup rfl (pgs_cons (pg_name (i := 2) sc_is_alphabet.nd rfl (Or.inl rfl)) (pgs_cons (pg_name (i := 3) sc_is_alphabet.nd rfl (Or.inl rfl)) pgs_nil)))) (fun _ _ _ _ _ => pts_nil) (fun _ _ _ _ _ => (pe_cmpR op_lt_str (pv 2) (pv 3) (nomark _)))) pa_nil)))
      (pss_one (ps_ret (pe_and (pe_chain op_le op_le pe_int (pe_callB call_len_str (by rfl) T.b_len PySem.boot_len (pa_cons (pv 0) pa_nil)) (C8.pe_gc rfl T.c_MOST_LETTERS)) (pe_and (pv 1) (pe_one (pe_callB (cr_all rfl) (by rfl) T.b_all (by decide +kernel) (pa_cons (pe_lc (own := [("sign", 4)]) (g := gName 4) (tt := tYes) rfl sc_is_alphabet.nd (pi_str (pv 0)) (blkOk_by (N := N_is_alphabet) (sc := C8.fnScope s_is_alphabet) (by decide +kernel)) (fun _ _ _ _ _ => (pg_name (i := 4) sc_is_alphabet.nd rfl (Or.inl rfl))) (fun _ _ _ _ _ => pts_nil) (fun _ _ _ _ _ => (C8.pe_c c_is_sign hr (by first | decide | omega) (by rfl) (pa_cons (pv 4) pa_nil)))) pa_nil)))))))), ?_⟩
    refine ⟨_, rfl, _, rfl, 1, rfl, S l, rfl, by rw [S_len]; exact small_le hl, ?_⟩
    have e1 : cutS (S l) (some 1) none = S (l.drop 1) := cutS_from l 1
    rw [e1]
    refine ⟨_, _, _, _, _, _, _, _, rfl, src_text H l, src_text H (l.drop 1), fun D hD => lc_it walkG (fun i H' => Same H H' ∧ H' D = some (.lst (((ascL l).take i).map V.bl))) ⟨same_new hD, upd_same⟩ (fun _ _ _ _ => ⟨trivial, trivial⟩) ?_ ?_⟩
    · rintro i x H1 H2 hi ⟨s1, hd⟩ ⟨Tt, xs, rfl, hT, rfl, v1, v2, ⟨c1, h1, rfl⟩, ⟨c2, h2, rfl⟩, rfl⟩
      refine ⟨Tt, _, rfl, SqT.of upd_same, rfl, _, _, rfl, _, _, rfl, rfl, rfl, _, rfl, _, rfl, S [c1], S [c2], rfl, rfl, ?_⟩
      rw [S_get] at h1 h2
      have hz : (l.zip (l.drop 1))[i]? = some (c1, c2) := by
        rw [List.getElem?_zip_eq_some]; exact ⟨h1, h2⟩
      have hb : (ascL l)[i]? = some (decide (c1 < c2)) := by rw [ascL, List.getElem?_map, hz]; rfl
      have hne : D ≠ Tt := ne_of_none hd hT
      refine ⟨_, (upd_ne hne).trans hd, ?_, ?_, ?_⟩
      · rw [List.length_map, List.length_take]
        exact small1000 (by have := List.length_drop (i := 1) (l := l); omega)
      · exact Same.put (Same.new s1 hT) hD
      · rw [upd_same, lt_cps, map_take_succ hb]
    · rintro H1 ⟨s1, hd⟩
      have hn : min l.length (l.drop 1).length = (ascL l).length := by rw [ascL, List.length_map, List.length_zip]
      rw [hn, List.take_length] at hd
      refine ⟨D, _, rfl, SqL.of hd, ?_⟩
      have q2 := q
      refine ⟨_, rfl, S l, rfl, by rw [S_len]; exact small_le hl, 1, _, rfl, rfl, _, rfl, ?_⟩
      rw [S_len]
      by_cases c1 : 1 ≤ l.length ∧ l.length ≤ 30
      · rw [decide_eq_true (by omega : (1 : Int) ≤ (l.length : Int))]
        refine iteT ⟨_, _, rfl, rfl, _, rfl, ?_⟩
        rw [decide_eq_true (by omega : (l.length : Int) ≤ 30)]
        refine iteT ⟨_, rfl, _, rfl, ?_⟩
        have q3 : ∀ H', Same H H' → Q (.bl ((ascL l).all id && (l.map fun c => decide (32 ≤ c ∧ c ≤ 126)).all id)) H' := fun H' sm => by
          have := q H' sm
          rw [alOk, decide_eq_true c1] at this
          exact this
        cases hb : (ascL l).all id with
        | false =>
          rw [hb] at q3
          exact iteF (q3 _ s1)
        | true =>
          rw [hb] at q3
          refine iteT ?_
          refine ⟨_, rfl, S l, rfl, fun D2 hD2 => lc_it walk_str (fun i H' => Same H H' ∧ H' D2 = some (.lst (((l.map fun c => decide (32 ≤ c ∧ c ≤ 126)).take i).map V.bl))) ⟨Same.new s1 hD2, upd_same⟩ (fun _ _ _ _ => trivial) ?_ ?_⟩
          · rintro i x H2 H3 hi ⟨s2, hd2⟩ ⟨rfl, c, hc, rfl⟩
            rw [S_get] at hc
            refine ⟨rfl, _, rfl, c, rfl, ?_⟩
            have hb2 : (l.map fun c => decide (32 ≤ c ∧ c ≤ 126))[i]? = some (decide (32 ≤ c ∧ c ≤ 126)) := by rw [List.getElem?_map, hc]; rfl
            refine ⟨_, hd2, ?_, Same.put s2 (s1.free hD2), ?_⟩
            · rw [List.length_map, List.length_take, List.length_map]
              exact small1000 (by omega)
            · rw [upd_same, map_take_succ hb2]
          · rintro H2 ⟨s2, hd2⟩
            have hn2 : (S l).cps.size = (l.map fun c => decide (32 ≤ c ∧ c ≤ 126)).length := by rw [S_size, List.length_map]
            rw [hn2, List.take_length] at hd2
            exact ⟨D2, _, rfl, SqL.of hd2, q3 H2 s2⟩
      · have q3 : ∀ H', Same H H' → Q (.bl false) H' := fun H' sm => by
          have := q H' sm
          rw [alOk, decide_eq_false c1] at this
          exact this
        by_cases c2 : 1 ≤ l.length
        · rw [decide_eq_true (by omega : (1 : Int) ≤ (l.length : Int))]
          refine iteT ⟨_, _, rfl, rfl, _, rfl, ?_⟩
          rw [decide_eq_false (by omega : ¬ (l.length : Int) ≤ 30)]
          exact iteF (q3 _ s1)
        · rw [decide_eq_false (by omega : ¬ (1 : Int) ≤ (l.length : Int))]
          exact iteF ⟨_, rfl, iteF (q3 _ s1)⟩
theorem ok_check_alphabet {f : Addr} {fd : FuncData} (F : C8.Fun K "check_alphabet" "check_alphabet" s_check_alphabet f fd) (T : Txt K mg) (c_is_alphabet : C8.Cal P w K mg base 2 "is_alphabet" sp_is_alphabet []) : FnOk P w K mg base C8.CX0 3 f fd ["text"] sp_check_alphabet := by
  refine C8.fn0 F sc_check_alphabet (fun vs H Q E h => ?_) (fun cdv A outer s H vs Q E hr h => ?_)
  · obtain ⟨l, rfl, _⟩ := h; rfl
  · obtain ⟨l, rfl, hl, hok, q⟩ := h
    refine ⟨_, (pss_one (ps_if (pt_not (pt_val (C8.pe_c c_is_alphabet hr (by first | decide | omega) (by rfl) (pa_cons (pv 0) pa_nil)))) (pss_one ps_never) pss_nil)), ?_⟩
    refine ⟨_, rfl, l, rfl, hl, fun H' s1 => ⟨_, rfl, ?_⟩⟩
    rw [hok]
    exact iteF (q H' s1)
end
end RJ
end

section
set_option maxRecDepth 100000
set_option maxHeartbeats 2000000
namespace RJ
open PySem PySem.Spec PyProof.Rows L2
abbrev s_letter_row : Stmt := top 17
abbrev N_letter_row : List Str := ["alphabet", "text", "row", "at", "sign", "piece"]
theorem sc_letter_row : FnScope N_letter_row ["alphabet", "text"] (C8.fnScope s_letter_row) := C8.fnScope_by (by decide +kernel)
abbrev s_join_neighbors : Stmt := top 18
abbrev N_join_neighbors : List Str := ["row", "pair", "piece", "left", "right", "joined", "following"]
theorem sc_join_neighbors : FnScope N_join_neighbors ["row", "pair", "piece"] (C8.fnScope s_join_neighbors) := C8.fnScope_by (by decide +kernel)
abbrev s_lowest_join : Stmt := top 19
abbrev N_lowest_join : List Str := ["ranks", "row", "pair"]
theorem sc_lowest_join : FnScope N_lowest_join ["ranks", "row"] (C8.fnScope s_lowest_join) := C8.fnScope_by (by decide +kernel)
abbrev s_join_down : Stmt := top 20
abbrev N_join_down : List Str := ["ranks", "letters", "row", "lowest", "rank", "pair"]
theorem sc_join_down : FnScope N_join_down ["ranks", "letters", "row"] (C8.fnScope s_join_down) := C8.fnScope_by (by decide +kernel)
/-- a list or a tuple walked -/
def ItSeq (K : PySem.W.Frag) (b : Bool) (a : Addr) : It := match b with | true => Itl K a | false => Itt K a
def iSeq (K : PySem.W.Frag) (tl : TE) : TI := fun σ H R => tl σ H fun x H1 => ∃ b a xs, x = .ref a ∧ SeqAt b H1 a xs ∧ R (ItSeq K b a) H1
theorem walk_seq {K : PySem.W.Frag} {b : Bool} {a : Addr} {xs : List V} : Walk (ItSeq K b a) xs.length (fun H => SeqAt b H a xs) (YAt xs) := by
  cases b with
  | true => exact walk_list.mono (fun H h => SqL.of h) fun _ _ _ _ _ _ y => y
  | false => exact walk_tup.mono (fun H h => SqT.of h) fun _ _ _ _ _ _ y => y
theorem pi_seq {X : Cx} {tg l : Expr} {tl : TE} (hl : PE X l tl) : PI X tg l (iSeq X.K tl) := by
  refine ⟨fun pins s σ H R I h => ?_⟩
  refine thn (hl.run pins s σ H _ I h) fun v s1 ⟨x, H1, I1, r1, q1⟩ => ?_
  obtain ⟨b, a, xs, e, hq, q⟩ := q1
  subst e
  cases r1
  cases b with
  | true =>
    obtain ⟨its, rv, p, hz⟩ := I1.list (SqL.of hq)
    refine wpAny_pyIter_list p.isList ?_
    refine ⟨s1.heap.objs.size, [s1.heap.objs.size], _, _, H1, rfl, I1.kept (t' := s1.toks) fun b o e => Heap.get?_push_of_some _ e, turn_list a _, ⟨_, Heap.get?_push_size _ rfl, rfl, rfl⟩, fun b hb => ?_, q⟩
    have e : b = s1.heap.objs.size := by simpa using hb
    subst e
    exact I1.fpOk (Nat.le_refl _) (I1.hok.fresh (Nat.le_refl _))
  | false =>
    obtain ⟨its, rv, p, hz⟩ := I1.tuple (SqT.of hq)
    refine wpAny_pyIter_tuple (show s1.heap.IsTuple a its.toArray from p) ?_
    refine ⟨s1.heap.objs.size, [s1.heap.objs.size], _, _, H1, rfl, I1.kept (t' := s1.toks) fun b o e => Heap.get?_push_of_some _ e, turn_tuple a _, ⟨_, Heap.get?_push_size _ rfl, rfl, rfl⟩, fun b hb => ?_, q⟩
    have e : b = s1.heap.objs.size := by simpa using hb
    subst e
    exact I1.fpOk (Nat.le_refl _) (I1.hok.fresh (Nat.le_refl _))
/-- a slice of a list or a tuple -/
def rSlSeq (K : PySem.W.Frag) : V → Option Int → Option Int → Hp → VK → Prop := fun x lo hi H Q => rSlL K x lo hi H Q ∨ rSlA K x lo hi H Q
theorem sl_seq {X : Cx} : SlR X (rSlSeq X.K) := SlR.or sl_list sl_tupA
/-! ### signs and their places -/
theorem at_one (al : List Nat) (c i : Nat) : PySem.StrLaws.At (S al) ⟨#[c]⟩ (S al).length i ↔ al[i]? = some c := by
  have h := PySem.StrLaws.subAt_one (S al) c i
  exact h
theorem find_sign {al : List Nat} {c : Nat} (h : c ∈ al) : ∃ r, Builtin.Str.occurrences (S al) ⟨#[c]⟩ 0 (S al).length 1 = al.idxOf c :: r := by
  rcases PySem.StrLaws.occ_head (S al) ⟨#[c]⟩ 1 (Nat.le_refl _) with ⟨_, hn⟩ | ⟨i, r, e, hi, hn⟩
  · obtain ⟨i, hi⟩ := List.mem_iff_getElem?.mp h
    exact absurd ((at_one al c i).mpr hi) (hn i)
  · refine ⟨r, ?_⟩
    rw [e]
    have hi' := (at_one al c i).mp hi
    obtain ⟨hil, hie⟩ := List.getElem?_eq_some_iff.mp hi'
    have key : al.idxOf c = i := by
      have h1 : al.idxOf c < al.length := List.idxOf_lt_length_iff.mpr h
      have h2 : al[al.idxOf c] = c := List.getElem_idxOf h1
      rcases Nat.lt_trichotomy (al.idxOf c) i with q | q | q
      · exact absurd ((at_one al c _).mpr (by rw [List.getElem?_eq_getElem h1, h2])) (hn _ q)
      · exact q
      · exact absurd hie (by
          have := List.not_of_lt_findIdx (p := (· == c)) (xs := al) (i := i) (by exact q)
          intro z
          simp [z] at this)
    rw [key]
def sp_letter_row : Sp := fun vs H Q _ => ∃ al t : List Nat, vs = [.str (S al), .str (S t)] ∧ (∀ c ∈ t, c ∈ al) ∧ t.length ≤ 1000 ∧ ∀ H' p, Same H H' → H p = none → H' p = some (.lst (iv (lets al t))) → Q (.ref p) H'
def sp_join_neighbors : Sp := fun vs H Q _ => ∃ (b : Bool) (a p : Addr) (row : List Nat) (l r m : Nat), vs = [.ref a, .ref p, .int (m : Int)] ∧ RowAt b H a row ∧ H p = some (.tup [.int (l : Int), .int (r : Int)]) ∧ m ≠ l ∧ row.length ≤ 1000 ∧
  ∀ H' q, Same H H' → H q = none → H' q = some (.lst (iv (pass l r m row))) → Q (.ref q) H'
/-- the pass as the program does it -/
def stepJ (l r m : Nat) (acc : List Nat) (x : Nat) : List Nat := if acc.getLast? = some l ∧ x = r then acc.dropLast ++ [m] else acc ++ [x]
theorem pass_m {l r m : Nat} (hm : m ≠ l) (t : List Nat) : pass l r m (m :: t) = m :: pass l r m t := by
  cases t with
  | nil => rfl
  | cons c t => rw [pass, if_neg fun q => hm q.1]
theorem stepJ_pass {l r m : Nat} (hm : m ≠ l) : ∀ (t : List Nat) (acc : List Nat) (a : Nat), t.foldl (stepJ l r m) (acc ++ [a]) = acc ++ pass l r m (a :: t)
  | [], acc, a => rfl
  | b :: t, acc, a => by
    rw [List.foldl_cons, pass]
    have hl : (acc ++ [a]).getLast? = some a := by rw [List.getLast?_append]; rfl
    by_cases c : a = l ∧ b = r
    · rw [if_pos c, stepJ, if_pos ⟨by rw [hl, c.1], c.2⟩, List.dropLast_concat, stepJ_pass hm t acc m, pass_m hm]
    · rw [if_neg c, stepJ, if_neg fun q => c ⟨Option.some.inj (hl.symm.trans q.1), q.2⟩, stepJ_pass hm t (acc ++ [a]) b, List.append_assoc]; rfl
theorem stepJ_all {l r m : Nat} (hm : m ≠ l) (row : List Nat) : row.foldl (stepJ l r m) [] = pass l r m row := by
  cases row with
  | nil => rfl
  | cons a t => exact stepJ_pass hm t [] a
theorem foldl_take_succ {α β : Type} {f : β → α → β} {l : List α} {i : Nat} {x : α} (h : l[i]? = some x) (b : β) : (l.take (i + 1)).foldl f b = f ((l.take i).foldl f b) x := by
  rw [List.take_add_one, h, List.foldl_append]; rfl
theorem stepJ_len (l r m : Nat) (acc : List Nat) (x : Nat) : (stepJ l r m acc x).length ≤ acc.length + 1 := by
  unfold stepJ
  split
  · rw [List.length_append, List.length_dropLast]; simp only [List.length_cons, List.length_nil]; omega
  · rw [List.length_append]; exact Nat.le_refl _
theorem foldJ_len (l r m : Nat) : ∀ (row acc : List Nat), (row.foldl (stepJ l r m) acc).length ≤ acc.length + row.length
  | [], acc => Nat.le_refl _
  | x :: row, acc => by
    rw [List.foldl_cons]
    have h1 := foldJ_len l r m row (stepJ l r m acc x)
    have h2 := stepJ_len l r m acc x
    rw [List.length_cons]; omega
theorem atI_neg1 {xs : List V} {v : V} (h : xs.getLast? = some v) : atI xs (-1) = some v := by
  obtain ⟨ys, rfl⟩ := List.getLast?_eq_some_iff.mp h
  exact atI_last ys v
theorem iv_last {l : List Nat} {n : Nat} (h : l.getLast? = some n) : (iv l).getLast? = some (V.int (n : Int)) := by
  obtain ⟨ys, rfl⟩ := List.getLast?_eq_some_iff.mp h
  rw [← iv_snoc, List.getLast?_append]; rfl
theorem ixN_neg1 {n : Nat} (h : 0 < n) : ixN n (-1) = some (n - 1) := by
  unfold ixN
  rw [if_neg (by omega), if_pos (by omega)]
  exact congrArg some (by omega)
theorem iv_set_last {l : List Nat} (m : Nat) (h : l ≠ []) : (iv l).set (l.length - 1) (V.int (m : Int)) = iv (l.dropLast ++ [m]) := by
  obtain ⟨ys, y, rfl⟩ : ∃ ys y, l = ys ++ [y] := ⟨l.dropLast, l.getLast h, (List.dropLast_concat_getLast h).symm⟩
  rw [List.dropLast_concat, ← iv_snoc, ← iv_snoc]
  have e : (ys ++ [y]).length - 1 = (iv ys).length := by rw [iv_len, List.length_append]; simp
  rw [e, List.set_append_right _ _ (Nat.le_refl _), Nat.sub_self]; rfl
theorem nat_eq_int (a b : Nat) : decide ((V.int (a : Int)) = V.int (b : Int)) = decide (a = b) := by
  apply decide_eq_decide.mpr
  constructor
  · intro h; injection h with h; omega
  · intro h; rw [h]
section
variable {P : Program} {w : World} {K : PySem.W.Frag} {mg : Str → Option Value} {base : Heap}
theorem ok_letter_row {f : Addr} {fd : FuncData} (F : C8.Fun K "letter_row" "letter_row" s_letter_row f fd) (T : Txt K mg) : FnOk P w K mg base C8.CX0 1 f fd ["alphabet", "text"] sp_letter_row := by
  refine C8.fn0 F sc_letter_row (fun vs H Q E h => ?_) (fun cdv A outer s H vs Q E hr h => ?_)
  · obtain ⟨al, t, rfl, _⟩ := h; rfl
  · obtain ⟨al, t, rfl, hm, hl, q⟩ := h
    refine ⟨_, (pss_cons (ps_set (i := 2) sc_letter_row.nd rfl (Or.inl rfl) (pe_lst pa_nil))
      (pss_cons (ps_for PassesOwn.never rfl (pi_enumG rfl T.b_enumerate (pa_cons (pv 1) pa_nil)) (pg_tup rfl (pgs_cons (pg_name (i := 3) sc_letter_row.nd rfl (Or.inl rfl)) (pgs_cons (pg_name (i := 4) sc_letter_row.nd rfl (Or.inl rfl)) pgs_nil))) (pss_cons (ps_set (i := 5) sc_letter_row.nd rfl (Or.inl rfl) (pe_bm PySem.F.plainAttrs_str PySem.F.slot_str_find PySem.F.type_str_find mt_find (pv 0) (pa_cons (pv 4) pa_nil)))
      (pss_cons (ps_if (pt_cmpR op_lt (pv 5) pe_int (nomark _)) (pss_one ps_never) pss_nil)
      (pss_one (ps_expr (pe_bm PySem.F.plainAttrs_list PySem.F.slot_list_append PySem.F.type_list_append mt_append (pv 2) (pa_cons (pv 5) pa_nil)))))))
      (pss_one (ps_ret (pv 2))))), ?_⟩
    refine ⟨by show (0 : Nat) ≤ sizeLine; exact Nat.zero_le _, fun p hp => ?_⟩
    refine ⟨_, rfl, _, _, _, _, rfl, src_text _ t, for_it walkG (fun i σ H' => ∃ v3 v4 v5 : Option V, σ = [some (.str (S al)), some (.str (S t)), some (.ref p), v3, v4, v5] ∧ Same H H' ∧ H' p = some (.lst (iv (lets al (t.take i))))) ⟨none, none, none, rfl, same_new hp, upd_same⟩ (fun _ _ _ _ _ => trivial) ?_ ?_⟩
    · rintro i x σ H1 H2 hi ⟨v3, v4, v5, rfl, s1, hd⟩ ⟨Tt, xs, rfl, hT, rfl, v, ⟨c, hc, rfl⟩, rfl⟩
      rw [S_get] at hc
      obtain ⟨r, hfind⟩ := find_sign (hm c (List.mem_of_getElem? hc))
      refine ⟨Tt, _, rfl, SqT.of upd_same, rfl, _, _, rfl, _, _, rfl, rfl, ?_⟩
      refine ⟨_, rfl, rfl, _, rfl, S al, ⟨#[c]⟩, rfl, rfl, ?_⟩
      have hf : Txt.find (S al) ⟨#[c]⟩ = (al.idxOf c : Int) := by unfold Txt.find; rw [hfind]
      rw [hf]
      refine ⟨_, rfl, _, _, rfl, rfl, _, rfl, ?_⟩
      rw [decide_eq_false (by omega : ¬ (al.idxOf c : Int) < 0)]
      refine iteF ?_
      have hne : p ≠ Tt := ne_of_none hd hT
      have hd2 : upd H1 Tt (.tup [.int (i : Int), .str ⟨#[c]⟩]) p = some (.lst (iv (lets al (t.take i)))) := (upd_ne hne).trans hd
      refine ⟨_, rfl, .inl ⟨rfl, _, SqL.of hd2⟩, _, rfl, p, _, _, rfl, rfl, hd2, ?_, ?_⟩
      · rw [iv_len, lets, List.length_map, List.length_take]
        exact small1000 (by omega)
      · refine ⟨_, _, _, rfl, Same.put (Same.new s1 hT) hp, ?_⟩
        rw [upd_same, iv_snoc, lets, lets, map_take_succ hc]
    · rintro σ H1 ⟨v3, v4, v5, rfl, s1, hd⟩
      rw [List.take_length] at hd
      exact ⟨_, rfl, q H1 p s1 hp hd⟩
theorem ok_join_neighbors {f : Addr} {fd : FuncData} (F : C8.Fun K "join_neighbors" "join_neighbors" s_join_neighbors f fd) (T : Txt K mg) : FnOk P w K mg base C8.CX0 1 f fd ["row", "pair", "piece"] sp_join_neighbors := by
  refine C8.fn0 F sc_join_neighbors (fun vs H Q E h => ?_) (fun cdv A outer s H vs Q E hr h => ?_)
  · obtain ⟨b, a, p, row, l, r, m, rfl, _⟩ := h; rfl
  · obtain ⟨b, a, p, row, l, r, m, rfl, hrow, hpair, hm, hl, q⟩ := h
    refine ⟨_, (pss_cons (ps_asg (pv 1) (pg_tup rfl (pgs_cons (pg_name (i := 3) sc_join_neighbors.nd rfl (Or.inl rfl)) (pgs_cons (pg_name (i := 4) sc_join_neighbors.nd rfl (Or.inl rfl)) pgs_nil))))
      (pss_cons (ps_set (i := 5) sc_join_neighbors.nd rfl (Or.inl rfl) (pe_lst pa_nil))
      (pss_cons (ps_for PassesOwn.never rfl (pi_seq (pv 0)) (pg_name (i := 6) sc_join_neighbors.nd rfl (Or.inl rfl)) (pss_one (ps_if (PW.pt (pw_and (pt_truth (pv 5) (fun _ => rfl)) (pw_and (pt_cmpR op_eq (pe_ix ix_list (pv 5) (pe_un un_neg pe_int) (fun _ _ => rfl)) (pv 3) (nomark _)) (pw_and1 (pt_cmpR op_eq (pv 6) (pv 4) (nomark _)))))) (pss_one (ps_asg (pv 2) (pg_sub (pv 5) (pe_un un_neg pe_int) set_list))) (pss_one (ps_expr (pe_bm PySem.F.plainAttrs_list PySem.F.slot_list_append PySem.F.type_list_append mt_append (pv 5) (pa_cons (pv 6) pa_nil)))))))
      (pss_one (ps_ret (pv 5)))))), ?_⟩
    refine ⟨_, rfl, p, _, rfl, SqT.of hpair, rfl, _, _, rfl, _, _, rfl, rfl, ?_⟩
    refine ⟨by show (0 : Nat) ≤ sizeLine; exact Nat.zero_le _, fun J hJ => ?_⟩
    refine ⟨_, rfl, b, a, iv row, rfl, hrow.same (same_new hJ), for_it walk_seq (fun i σ H' => ∃ v6 : Option V, σ = [some (.ref a), some (.ref p), some (.int (m : Int)), some (.int (l : Int)), some (.int (r : Int)), some (.ref J), v6] ∧ Same H H' ∧ H' J = some (.lst (iv ((row.take i).foldl (stepJ l r m) []))))
        ⟨none, rfl, same_new hJ, upd_same⟩ (fun _ _ _ _ ⟨_, _, s1, _⟩ => hrow.same s1) ?_ ?_⟩
    · rintro i x σ H1 H2 hi ⟨v6, rfl, s1, hd⟩ ⟨rfl, hx⟩
      obtain ⟨n, hn, rfl⟩ := iv_get hx
      have hfold := foldl_take_succ (f := stepJ l r m) hn []
      have hlen : ((row.take i).foldl (stepJ l r m) []).length < sizeLine := small1000 (by
        have h1 := foldJ_len l r m (row.take i) []
        rw [List.length_take] at h1
        simp only [List.length_nil] at h1; omega)
      generalize hacc : (row.take i).foldl (stepJ l r m) [] = acc at hd hfold hlen
      refine ⟨_, rfl, _, .inl ⟨_, SqL.of hd, rfl⟩, ?_⟩
      have fin : ∀ (acc' : List Nat), acc' = stepJ l r m acc n → ∃ v6 : Option V, [some (V.ref a), some (.ref p), some (.int (m : Int)), some (.int (l : Int)), some (.int (r : Int)), some (.ref J), some (.int (n : Int))] = [some (V.ref a), some (.ref p), some (.int (m : Int)), some (.int (l : Int)), some (.int (r : Int)), some (.ref J), v6] ∧ Same H (upd H2 J (.lst (iv acc'))) ∧ (upd H2 J (.lst (iv acc'))) J = some (.lst (iv ((row.take (i + 1)).foldl (stepJ l r m) []))) := fun acc' e =>
        ⟨_, rfl, Same.put s1 hJ, by rw [upd_same, hfold, e]⟩
      cases hq : acc.getLast? with
      | none =>
        have e : acc = [] := List.getLast?_eq_none_iff.mp hq
        have hc : ¬ (acc.getLast? = some l ∧ n = r) := by rw [hq]; rintro ⟨q, _⟩; cases q
        have e2 : (!(iv acc).isEmpty) = false := by rw [e]; rfl
        rw [e2]
        refine iteF (iteF ?_)
        refine ⟨_, rfl, .inl ⟨rfl, _, SqL.of hd⟩, _, rfl, J, _, _, rfl, rfl, hd, by rw [iv_len]; exact hlen, ?_⟩
        rw [iv_snoc]
        exact fin _ (by rw [stepJ, if_neg hc])
      | some z =>
        have e2 : (!(iv acc).isEmpty) = true := by
          obtain ⟨ys, e⟩ := List.getLast?_eq_some_iff.mp hq
          rw [e, ← iv_snoc]; simp
        rw [e2]
        refine iteT ⟨_, rfl, _, rfl, J, iv acc, _, _, rfl, rfl, SqL.of hd, atI_neg1 (iv_last hq), _, rfl, rfl, _, rfl, ?_⟩
        rw [nat_eq_int]
        by_cases c1 : z = l
        · rw [decide_eq_true c1]
          refine iteT ⟨_, rfl, _, rfl, rfl, _, rfl, ?_⟩
          rw [nat_eq_int]
          by_cases c2 : n = r
          · rw [decide_eq_true c2]
            have hne : acc ≠ [] := by intro e; rw [e] at hq; cases hq
            have hpos : 0 < acc.length := List.length_pos_iff.mpr hne
            refine iteT ⟨_, rfl, _, rfl, _, rfl, J, iv acc, _, acc.length - 1, rfl, rfl, hd, by rw [iv_len]; exact ixN_neg1 hpos, ?_⟩
            rw [iv_set_last m hne]
            exact fin _ (by rw [stepJ, if_pos ⟨by rw [hq, c1], c2⟩])
          · rw [decide_eq_false c2]
            have hc : ¬ (acc.getLast? = some l ∧ n = r) := fun q => c2 q.2
            refine iteF ?_
            refine ⟨_, rfl, .inl ⟨rfl, _, SqL.of hd⟩, _, rfl, J, _, _, rfl, rfl, hd, by rw [iv_len]; exact hlen, ?_⟩
            rw [iv_snoc]
            exact fin _ (by rw [stepJ, if_neg hc])
        · rw [decide_eq_false c1]
          have hc : ¬ (acc.getLast? = some l ∧ n = r) := by rw [hq]; rintro ⟨q, _⟩; exact c1 (Option.some.inj q)
          refine iteF (iteF ?_)
          refine ⟨_, rfl, .inl ⟨rfl, _, SqL.of hd⟩, _, rfl, J, _, _, rfl, rfl, hd, by rw [iv_len]; exact hlen, ?_⟩
          rw [iv_snoc]
          exact fin _ (by rw [stepJ, if_neg hc])
    · rintro σ H1 ⟨v6, rfl, s1, hd⟩
      rw [iv_len, List.take_length, stepJ_all hm] at hd
      exact ⟨_, rfl, q H1 J s1 hJ hd⟩
end
end RJ
end

section
set_option maxRecDepth 100000
set_option maxHeartbeats 2000000
namespace RJ
open PySem PySem.Spec PyProof.Rows L2
open PySem.W (minD AlikeAll alike alikeAll dataLt)
/-! ### the dict of ranks -/
def pkey (p : Nat × Nat) : List Key := [.inl (p.1 : Int), .inl (p.2 : Int)]
theorem pkey_inj {p q : Nat × Nat} (h : pkey p = pkey q) : p = q := by
  obtain ⟨a, b⟩ := p
  obtain ⟨c, d⟩ := q
  have h' : ([.inl (a : Int), .inl (b : Int)] : List Key) = [.inl (c : Int), .inl (d : Int)] := h
  injection h' with h1 h2
  injection h2 with h2 h3
  injection h1 with h1
  injection h2 with h2
  have e1 : a = c := by omega
  have e2 : b = d := by omega
  rw [e1, e2]
def kvsF : Nat → List (Nat × Nat) → List (List Key × V)
  | _, [] => []
  | k, p :: ps => (pkey p, V.int (k : Int)) :: kvsF (k + 1) ps
theorem kvsF_len : ∀ (k : Nat) (ps : List (Nat × Nat)), (kvsF k ps).length = ps.length
  | _, [] => rfl
  | k, p :: ps => congrArg (· + 1) (kvsF_len (k + 1) ps)
theorem kvsF_snoc : ∀ (k : Nat) (ps : List (Nat × Nat)) (p : Nat × Nat), kvsF k (ps ++ [p]) = kvsF k ps ++ [(pkey p, V.int ((k + ps.length : Nat) : Int))]
  | k, [], p => rfl
  | k, q :: ps, p => by
    show (pkey q, V.int (k : Int)) :: kvsF (k + 1) (ps ++ [p]) = (pkey q, V.int (k : Int)) :: (kvsF (k + 1) ps ++ _)
    rw [kvsF_snoc (k + 1) ps p, show k + 1 + ps.length = k + (q :: ps).length by rw [List.length_cons]; omega]
theorem idxOf_ne {p q : Nat × Nat} (ps : List (Nat × Nat)) (h : ¬ q = p) : (q :: ps).idxOf p = ps.idxOf p + 1 := by
  rw [List.idxOf_cons]
  have : (q == p) = false := beq_eq_false_iff_ne.mpr h
  rw [this]; rfl
theorem kvsF_get (p : Nat × Nat) : ∀ (k : Nat) (ps : List (Nat × Nat)), valV (kvsF k ps) (pkey p) = if p ∈ ps then some (V.int ((k + ps.idxOf p : Nat) : Int)) else none
  | k, [] => by rw [if_neg List.not_mem_nil]; exact valV_nil
  | k, q :: ps => by
    show valV ((pkey q, V.int (k : Int)) :: kvsF (k + 1) ps) (pkey p) = _
    by_cases h : q = p
    · subst h
      rw [valV_pos (p := (pkey q, V.int (k : Int))) rfl, if_pos (List.mem_cons_self ..), List.idxOf_cons_self]; rfl
    · rw [valV_neg (p := (pkey q, V.int (k : Int))) fun z => h (pkey_inj z), kvsF_get p (k + 1) ps]
      by_cases hm : p ∈ ps
      · have e : List.idxOf p (q :: ps) = ps.idxOf p + 1 := idxOf_ne _ h
        rw [if_pos hm, if_pos (List.mem_cons_of_mem _ hm), e, show k + 1 + ps.idxOf p = k + (ps.idxOf p + 1) by omega]
      · rw [if_neg hm, if_neg fun z => by
          rcases List.mem_cons.mp z with e | e
          · exact h e.symm
          · exact hm e]
theorem idxOf_get {p : Nat × Nat} {ps : List (Nat × Nat)} (h : p ∈ ps) : ps[ps.idxOf p]? = some p := by
  have h1 : ps.idxOf p < ps.length := List.idxOf_lt_length_iff.mpr h
  rw [List.getElem?_eq_getElem h1, List.getElem_idxOf h1]
theorem idxOf_le {p : Nat × Nat} : ∀ {ps : List (Nat × Nat)} {j : Nat}, ps[j]? = some p → ps.idxOf p ≤ j
  | [], j, h => by cases h
  | q :: ps, j, h => by
    by_cases e : q = p
    · subst e; rw [List.idxOf_cons_self]; exact Nat.zero_le _
    · cases j with
      | zero => exact absurd (Option.some.inj h) e
      | succ j =>
        rw [idxOf_ne _ e]
        exact Nat.succ_le_succ (idxOf_le h)
/-! ### tuples stay -/
def SameT (H H' : Hp) : Prop := ∀ b xs, H b = some (.tup xs) → H' b = some (.tup xs)
theorem Same.t {H H' : Hp} (s : Same H H') : SameT H H' := fun b xs e => s b _ e
theorem SameT.put {H : Hp} {p : Addr} {o : HO} {xs : List V} (h : H p = some (.lst xs)) : SameT H (upd H p o) := fun b ys e => by
  rw [upd_ne (ne_of e h (by intro z; cases z))]; exact e
/-- a rank and its pair, as a tuple -/
def TripAt (H : Hp) (v : V) (x : Nat × (Nat × Nat)) : Prop := ∃ t q, v = .ref t ∧ H t = some (.tup [.int (x.1 : Int), .ref q]) ∧ H q = some (.tup [.int (x.2.1 : Int), .int (x.2.2 : Int)])
theorem TripAt.same {H H' : Hp} {v : V} {x : Nat × (Nat × Nat)} (h : TripAt H v x) (s : SameT H H') : TripAt H' v x := by
  obtain ⟨t, q, e, h1, h2⟩ := h
  exact ⟨t, q, e, s _ _ h1, s _ _ h2⟩
theorem Paired.snoc {α β : Type} {F : α → β → Prop} {x : α} {y : β} (r : F x y) : ∀ {xs : List α} {ys : List β}, Paired F xs ys → Paired F (xs ++ [x]) (ys ++ [y])
  | _, _, .nil => .cons r .nil
  | _, _, .cons a t => .cons a (Paired.snoc r t)
theorem Paired.at {α β : Type} {F : α → β → Prop} : ∀ {xs : List α} {ys : List β} {i : Nat} {x : α}, Paired F xs ys → xs[i]? = some x → ∃ y, ys[i]? = some y ∧ F x y
  | _, _, _, _, .nil, e => by simp at e
  | _, _, 0, _, .cons r _, e => by simp at e; subst e; exact ⟨_, rfl, r⟩
  | _, _, i + 1, x, .cons _ t, e => by
    obtain ⟨y, h1, h2⟩ := Paired.at (i := i) (x := x) t (by simpa using e)
    exact ⟨y, by simpa using h1, h2⟩
theorem Paired.at2 {α β : Type} {F : α → β → Prop} : ∀ {xs : List α} {ys : List β} {i : Nat} {y : β}, Paired F xs ys → ys[i]? = some y → ∃ x, xs[i]? = some x ∧ F x y
  | _, _, _, _, .nil, e => by simp at e
  | _, _, 0, _, .cons r _, e => by simp at e; subst e; exact ⟨_, rfl, r⟩
  | _, _, i + 1, y, .cons _ t, e => by
    obtain ⟨x, h1, h2⟩ := Paired.at2 (i := i) (y := y) t (by simpa using e)
    exact ⟨x, by simpa using h1, h2⟩
def tripD (x : Nat × (Nat × Nat)) : PyData := .tuple [.int (x.1 : Int), .tuple [.int (x.2.1 : Int), .int (x.2.2 : Int)]]
theorem tripD_inj {x y : Nat × (Nat × Nat)} (h : tripD x = tripD y) : x = y := by
  obtain ⟨a, b, c⟩ := x
  obtain ⟨a', b', c'⟩ := y
  injection h with h
  injection h with h1 h
  injection h with h2 h3
  injection h2 with h2
  injection h2 with h4 h5
  injection h5 with h5 h6
  injection h1 with h1
  injection h4 with h4
  injection h5 with h5
  have e1 : a = a' := by exact Int.ofNat.inj h1
  have e2 : b = b' := by exact Int.ofNat.inj h4
  have e3 : c = c' := by exact Int.ofNat.inj h5
  rw [e1, e2, e3]
theorem trips_dp {K : PySem.W.Frag} {H : Hp} : ∀ {xs : List V} {ts : List (Nat × (Nat × Nat))}, Paired (TripAt H) xs ts → DpAll K H xs (ts.map tripD)
  | _, _, .nil => .nil
  | _, _, .cons ⟨t, q, e, h1, h2⟩ r => by
    subst e
    exact .cons (.tup (SqT.of h1) (.cons (.int _) (.cons (.tup (SqT.of h2) (.cons (.int _) (.cons (.int _) .nil))) .nil))) (trips_dp r)
theorem trips_alike (ts : List (Nat × (Nat × Nat))) : AlikeAll (ts.map tripD) := by
  refine ⟨fun x hx y hy => ?_, fun x hx e => ?_⟩
  · obtain ⟨a, _, rfl⟩ := List.mem_map.mp hx
    obtain ⟨b, _, rfl⟩ := List.mem_map.mp hy
    simp [tripD, alike, alikeAll]
  · obtain ⟨a, _, rfl⟩ := List.mem_map.mp hx
    cases e
theorem trips_depth : ∀ ts : List (Nat × (Nat × Nat)), PyData.depthAll (ts.map tripD) ≤ 60
  | [] => by simp [PyData.depthAll]
  | t :: ts => by
    have ih := trips_depth ts
    rw [List.map_cons, PyData.depthAll]
    refine Nat.max_le.mpr ⟨?_, ih⟩
    simp [tripD, PyData.depth, PyData.depthAll]
def rkD : PyData → Int
  | .tuple (.int r :: _) => r
  | _ => 0
theorem trip_lt {x y : Nat × (Nat × Nat)} : (dataLt (tripD x) (tripD y) = true → rkD (tripD x) ≤ rkD (tripD y)) ∧ (dataLt (tripD x) (tripD y) = false → rkD (tripD y) ≤ rkD (tripD x)) := by
  have h := PySem.W.dataLt_pair (x := .int (x.1 : Int)) (y := .tuple [.int (x.2.1 : Int), .int (x.2.2 : Int)]) (x' := .int (y.1 : Int)) (y' := .tuple [.int (y.2.1 : Int), .int (y.2.2 : Int)]) (by simp [alike]) (by simp [alike, alikeAll])
  have h' : dataLt (tripD x) (tripD y) = _ := h
  show (dataLt (tripD x) (tripD y) = true → (x.1 : Int) ≤ (y.1 : Int)) ∧ (dataLt (tripD x) (tripD y) = false → (y.1 : Int) ≤ (x.1 : Int))
  rw [h']
  by_cases e : (x.1 : Int) = (y.1 : Int)
  · exact ⟨fun _ => Int.le_of_eq e, fun _ => Int.le_of_eq e.symm⟩
  · have e2 : PyData.eqv (.int (x.1 : Int)) (.int (y.1 : Int)) = false := by
      rw [PyData.eqv]; exact beq_eq_false_iff_ne.mpr e
    rw [e2, if_neg Bool.false_ne_true, PySem.W.dataLt_int]
    refine ⟨fun z => ?_, fun z => ?_⟩
    · have := of_decide_eq_true z; omega
    · have := of_decide_eq_false z; omega
theorem slSeq_from1 {K : PySem.W.Frag} {b : Bool} {a : Addr} {xs : List V} {H : Hp} {Q : VK} (h : SeqAt b H a xs) (k : ∀ H1 q, Same H H1 → SeqAt b H1 q (xs.drop 1) → Q (.ref q) H1) : rSlSeq K (.ref a) (some 1) none H Q := by
  have ecut : cutV xs (some 1) none = xs.drop 1 := by
    unfold cutV
    rw [show (some (1 : Int)) = some ((1 : Nat) : Int) from rfl, HT.sIx_nat, HT.sIx_none]
    by_cases hl : 1 ≤ xs.length
    · rw [Nat.min_eq_left hl, List.take_of_length_le (by rw [List.length_drop]; exact Nat.le_refl _)]
    · have : xs = [] := List.eq_nil_of_length_eq_zero (by omega)
      subst this; rfl
  cases b with
  | true => exact .inl ⟨a, xs, rfl, SqL.of h, fun p hp => k _ p (same_new hp) (by rw [ecut]; exact upd_same)⟩
  | false =>
    refine .inr ⟨a, xs, rfl, SqT.of h, fun hw => k _ a (Same.refl H) ?_, fun _ p hp => k _ p (same_new hp) (by rw [ecut]; exact upd_same)⟩
    have hz := hw.1
    rw [show (some (1 : Int)) = some ((1 : Nat) : Int) from rfl, HT.sIx_nat] at hz
    have : xs = [] := List.eq_nil_of_length_eq_zero (by omega)
    subst this
    exact h
theorem src_seq {b : Bool} {H : Hp} {a : Addr} {xs : List V} (h : SeqAt b H a xs) : SrcV H (.ref a) xs.length (fun H => SeqAt b H a xs) (fun i v => xs[i]? = some v) := by
  cases b with
  | true => exact .inr (.inr ⟨a, xs, rfl, h, rfl, rfl, rfl⟩)
  | false => exact .inr (.inl ⟨a, xs, rfl, h, rfl, rfl, rfl⟩)
/-- the joins that are there, by places -/
def found (ps : List (Nat × Nat)) (row : List Nat) : List (Nat × (Nat × Nat)) := ((adjs row).filter fun p => decide (p ∈ ps)).map fun p => (ps.idxOf p, p)
def foundTo (ps : List (Nat × Nat)) (l : List (Nat × Nat)) : List (Nat × (Nat × Nat)) := (l.filter fun p => decide (p ∈ ps)).map fun p => (ps.idxOf p, p)
theorem foundTo_snoc (ps l : List (Nat × Nat)) (p : Nat × Nat) : foundTo ps (l ++ [p]) = if p ∈ ps then foundTo ps l ++ [(ps.idxOf p, p)] else foundTo ps l := by
  unfold foundTo
  rw [List.filter_append, List.map_append]
  by_cases h : p ∈ ps
  · rw [if_pos h, List.filter_cons_of_pos (by simpa using h)]; rfl
  · rw [if_neg h, List.filter_cons_of_neg (by simpa using h)]
    exact List.append_nil _
theorem foundTo_len (ps l : List (Nat × Nat)) : (foundTo ps l).length ≤ l.length := by
  unfold foundTo
  rw [List.length_map]; exact List.length_filter_le _ _
/-- what lowest holds -/
def LowAt (H : Hp) (ps : List (Nat × Nat)) (row : List Nat) (v : V) : Prop :=
  (v = .non ∧ ∀ p ∈ ps, p ∉ adjs row) ∨ ∃ (p : Nat × Nat) (r : Nat) (t q : Addr), v = .ref t ∧ H t = some (.tup [.int (r : Int), .ref q]) ∧ H q = some (.tup [.int (p.1 : Int), .int (p.2 : Int)]) ∧ ps[r]? = some p ∧ p ∈ adjs row ∧ ∀ (j : Nat) q, j < r → ps[j]? = some q → q ∉ adjs row
def sp_lowest_join : Sp := fun vs H Q _ => ∃ (d a : Addr) (b : Bool) (ps : List (Nat × Nat)) (row : List Nat), vs = [.ref d, .ref a] ∧ H d = some (.dT (kvsF 0 ps)) ∧ RowAt b H a row ∧ row.length ≤ 1000 ∧
  ∀ H' v, Same H H' → LowAt H' ps row v → Q v H'
section
variable {P : Program} {w : World} {K : PySem.W.Frag} {mg : Str → Option Value} {base : Heap}
theorem ok_lowest_join {f : Addr} {fd : FuncData} (F : C8.Fun K "lowest_join" "lowest_join" s_lowest_join f fd) (T : Txt K mg) : FnOk P w K mg base C8.CX0 1 f fd ["ranks", "row"] sp_lowest_join := by
  refine C8.fn0 F sc_lowest_join (fun vs H Q E h => ?_) (fun cdv A outer s H vs Q E hr h => ?_)
  · obtain ⟨d, a, b, ps, row, rfl, _⟩ := h; rfl
  · obtain ⟨d, a, b, ps, row, rfl, hd, hrow, hl, q⟩ := h
    have q0 : (∀ p ∈ ps, p ∉ adjs row) → ∀ H', Same H H' → Q .non H' := fun hno H' s1 => q H' .non s1 (.inl ⟨rfl, hno⟩)
    have q1 : ∀ (p : Nat × Nat) (r : Nat), ps[r]? = some p → p ∈ adjs row → (∀ (j : Nat) q, j < r → ps[j]? = some q → q ∉ adjs row) → ∀ H' t q, Same H H' → H' t = some (.tup [.int (r : Int), .ref q]) → H' q = some (.tup [.int (p.1 : Int), .int (p.2 : Int)]) → Q (.ref t) H' :=
      fun p r hp ha hlo H' t q' s1 h1 h2 => q H' (.ref t) s1 (.inr ⟨p, r, t, q', rfl, h1, h2, hp, ha, hlo⟩)
    have hu := hu_of hr
    have hu64 := hu64_of hr
    refine ⟨_, (pss_one (ps_ret (pe_callBK (cr_minD rfl hu64) (by rfl) T.b_min (by decide +kernel) (pa_cons (pe_lc (own := [("pair", 2)]) (g := gName 2)  rfl sc_lowest_join.nd (pi_zipN rfl T.b_zip (pa_cons (pv 1) (pa_cons (pe_slice sl_seq (pv 1) (po_some pe_int) po_none) pa_nil))) (blkOk_by (N := N_lowest_join) (sc := C8.fnScope s_lowest_join) (by decide +kernel)) (fun _ _ _ _ _ => (pg_name (i := 2) sc_lowest_join.nd rfl (Or.inl rfl))) (fun _ _ _ _ _ => pts_one (pt_cmp (pc_din hu (pv 2) (pv 0)))) (fun _ _ _ _ _ => (pe_tup (pa_cons (pe_dget hu (pv 0) (pv 2) (fun _ _ => rfl)) (pa_cons (pv 2) pa_nil))))) pa_nil) (pk_cons pe_non pk_nil)))), ?_⟩
    refine ⟨_, rfl, _, rfl, 1, rfl, slSeq_from1 hrow fun H1 qa s1 hq => ?_⟩
    have hrow1 := hrow.same s1
    refine ⟨_, _, _, _, _, _, _, _, rfl, src_seq hrow1, src_seq hq, fun D hD => ?_⟩
    have hD0 : H D = none := s1.free hD
    have hn : min (iv row).length ((iv row).drop 1).length = (adjs row).length := by
      unfold adjs
      rw [List.length_zip, iv_len, List.length_drop, iv_len, List.length_tail]
    rw [hn]
    refine lc_it walkG (fun i H' => Same H1 H' ∧ ∃ xs, H' D = some (.lst xs) ∧ Paired (TripAt H') xs (foundTo ps ((adjs row).take i))) ⟨same_new hD, [], upd_same, .nil⟩ (fun i H' _ ⟨s2, _⟩ => ⟨hrow1.same s2, hq.same s2⟩) ?_ ?_
    · rintro i x H2 H3 hi ⟨s2, xs, hxs, hP⟩ ⟨Tt, ys, rfl, hT, rfl, v1, v2, h1, h2, rfl⟩
      obtain ⟨n1, hn1, rfl⟩ := iv_get h1
      have h2' : (iv row)[i + 1]? = some v2 := by rw [List.getElem?_drop] at h2; rw [Nat.add_comm]; exact h2
      obtain ⟨n2, hn2, rfl⟩ := iv_get h2'
      have hadj : (adjs row)[i]? = some (n1, n2) := by
        unfold adjs
        rw [List.getElem?_zip_eq_some]; exact ⟨hn1, by rw [List.getElem?_tail]; exact hn2⟩
      have hne : D ≠ Tt := ne_of_none hxs hT
      have hd3 : upd H2 Tt (.tup [.int (n1 : Int), .int (n2 : Int)]) d = some (.dT (kvsF 0 ps)) := (Same.new s2 hT) _ _ (s1 _ _ hd)
      have hg : DGet (upd H2 Tt (.tup [.int (n1 : Int), .int (n2 : Int)])) d (.ref Tt) (if (n1, n2) ∈ ps then some (V.int ((0 + ps.idxOf (n1, n2) : Nat) : Int)) else none) := by
        rw [← kvsF_get]
        exact DGet.t (k := pkey (n1, n2)) hd3 upd_same
      have hxs3 : upd H2 Tt (.tup [.int (n1 : Int), .int (n2 : Int)]) D = some (.lst xs) := (upd_ne hne).trans hxs
      have htk : (adjs row).take (i + 1) = (adjs row).take i ++ [(n1, n2)] := take_succ_of hadj
      have hlen : xs.length < sizeLine := small1000 (by
        have e1 := hP.length
        have e2 := foundTo_len ps ((adjs row).take i)
        rw [List.length_take] at e2
        have e3 : (adjs row).length ≤ row.length := by unfold adjs; rw [List.length_zip]; exact Nat.min_le_left _ _
        omega)
      refine ⟨rfl, _, rfl, _, rfl, d, _, rfl, hg, _, rfl, ?_⟩
      by_cases hm : (n1, n2) ∈ ps
      · rw [if_pos hm] at hg ⊢
        refine iteT ⟨_, rfl, _, rfl, d, _, rfl, hg, _, rfl, by show 2 ≤ sizeLine; decide, fun p hp => ?_⟩
        have hpD : D ≠ p := ne_of_none hxs3 hp
        have s4 : Same H2 (upd (upd H2 Tt (.tup [.int (n1 : Int), .int (n2 : Int)])) p (.tup [.int ((0 + ps.idxOf (n1, n2) : Nat) : Int), .ref Tt])) := Same.new (same_new hT) hp
        have hxs4 : (upd (upd H2 Tt (.tup [.int (n1 : Int), .int (n2 : Int)])) p (.tup [.int ((0 + ps.idxOf (n1, n2) : Nat) : Int), .ref Tt])) D = some (.lst xs) := (upd_ne hpD).trans hxs3
        refine ⟨xs, hxs4, hlen, Same.put (s2.trans s4) hD, _, upd_same, ?_⟩
        rw [htk, foundTo_snoc, if_pos hm]
        refine Paired.snoc ⟨p, Tt, rfl, SameT.put hxs4 _ _ (by rw [upd_same, Nat.zero_add]), SameT.put hxs4 _ _ ((upd_ne (ne_of_none upd_same hp)).trans upd_same)⟩ ?_
        exact Paired.mapP hP fun v t ht => ht.same fun b ys e => SameT.put hxs4 _ _ (s4 _ _ e)
      · rw [if_neg hm]
        refine iteF ⟨s2.trans (same_new hT), xs, hxs3, ?_⟩
        rw [htk, foundTo_snoc, if_neg hm]
        exact Paired.mapP hP fun v t ht => ht.same fun b ys e => same_new hT _ _ e
    · rintro H2 ⟨s2, xs, hxs, hP⟩
      rw [List.take_length] at hP
      refine ⟨D, xs, _, rfl, rfl, hxs, trips_dp hP, trips_alike _, trips_depth _, fun e => ?_, fun y ys i x e hx hmin => ?_⟩
      · refine q0 (fun p hp hadj => ?_) H2 (s1.trans s2)
        have e' : foundTo ps (adjs row) = [] := List.map_eq_nil_iff.mp e
        have e'' : (adjs row).filter (fun p => decide (p ∈ ps)) = [] := List.map_eq_nil_iff.mp e'
        have : p ∈ (adjs row).filter (fun p => decide (p ∈ ps)) := List.mem_filter.mpr ⟨hadj, by simpa using hp⟩
        rw [e''] at this; cases this
      · obtain ⟨t, ht, t1, q, rfl, h1, h2⟩ := Paired.at hP hx
        have hmem := List.mem_of_getElem? ht
        obtain ⟨p, hp, rfl⟩ := List.mem_map.mp hmem
        obtain ⟨hpa, hpp⟩ := List.mem_filter.mp hp
        have hpp' : p ∈ ps := by simpa using hpp
        have hget : ((foundTo ps (adjs row)).map tripD)[i]? = some (tripD (ps.idxOf p, p)) := by rw [List.getElem?_map, ht]; rfl
        rw [hget] at hmin
        have hmin' := (Option.some.inj hmin).symm
        refine q1 p (ps.idxOf p) (idxOf_get hpp') hpa (fun j q' hj ej hq' => ?_) H2 t1 q (s1.trans s2) h1 h2
        have hle := minD_le (rk := rkD) (Ok := fun d => ∃ x, d = tripD x) (fun x y ⟨a, ha⟩ ⟨b, hb⟩ => by rw [ha, hb]; exact trip_lt.1) (fun x y ⟨a, ha⟩ ⟨b, hb⟩ => by rw [ha, hb]; exact trip_lt.2) ys y
          (fun z hz => by rw [← e] at hz; obtain ⟨a, _, rfl⟩ := List.mem_map.mp hz; exact ⟨a, rfl⟩)
          (tripD (ps.idxOf q', q')) (by
            rw [← e]
            exact List.mem_map.mpr ⟨_, List.mem_map.mpr ⟨q', List.mem_filter.mpr ⟨hq', by simpa using List.mem_of_getElem? ej⟩, rfl⟩, rfl⟩)
        rw [hmin'] at hle
        have hle' : ((ps.idxOf p : Nat) : Int) ≤ ((ps.idxOf q' : Nat) : Int) := hle
        have := idxOf_le ej
        omega
end
end RJ
end

section
set_option maxRecDepth 100000
set_option maxHeartbeats 2000000
namespace RJ
open PySem PySem.Spec PyProof.Rows L2
def sp_join_down : Sp := fun vs H Q _ => ∃ (d a : Addr) (k : Bool) (b : Nat) (ps : List (Nat × Nat)) (row : List Nat), vs = [.ref d, .int (b : Int), .ref a] ∧ H d = some (.dT (kvsF 0 ps)) ∧ WF b ps ∧ RowAt k H a row ∧ row.length ≤ 1000 ∧
  ∀ H' q k', Same H H' → (k = true → k' = true) → RowAt k' H' q (cutL b ps row) → Q (.ref q) H'
section
variable {P : Program} {w : World} {K : PySem.W.Frag} {mg : Str → Option Value} {base : Heap}
theorem ok_join_down {f : Addr} {fd : FuncData} (F : C8.Fun K "join_down" "join_down" s_join_down f fd) (T : Txt K mg) (c_lowest_join : C8.Cal P w K mg base 1 "lowest_join" sp_lowest_join []) (c_join_neighbors : C8.Cal P w K mg base 1 "join_neighbors" sp_join_neighbors []) :
    FnOk P w K mg base C8.CX0 2 f fd ["ranks", "letters", "row"] sp_join_down := by
  refine C8.fn0 F sc_join_down (fun vs H Q E h => ?_) (fun cdv A outer s H vs Q E hr h => ?_)
  · obtain ⟨d, a, k, b, ps, row, rfl, _⟩ := h; rfl
  · obtain ⟨d, a, k, b, ps, row, rfl, hd, hw, hrow, hl, q⟩ := h
    refine ⟨_, (pss_cons (ps_set (i := 3) sc_join_down.nd rfl (Or.inl rfl) (C8.pe_c c_lowest_join hr (by first | decide | omega) (by rfl) (pa_cons (pv 0) (pa_cons (pv 2) pa_nil))))
      (pss_cons (ps_while PassesOwn.never (pt_cmpR op_notN (pv 3) pe_non (nomark _)) (pss_cons (ps_asg (pv 3) (pg_tup rfl (pgs_cons (pg_name (i := 4) sc_join_down.nd rfl (Or.inl rfl)) (pgs_cons (pg_name (i := 5) sc_join_down.nd rfl (Or.inl rfl)) pgs_nil))))
      (pss_cons (ps_set (i := 2) sc_join_down.nd rfl (Or.inl rfl) (C8.pe_c c_join_neighbors hr (by first | decide | omega) (by rfl) (pa_cons (pv 2) (pa_cons (pv 5) (pa_cons (pe_op op_add (pv 1) (pv 4)) pa_nil)))))
      (pss_one (ps_set (i := 3) sc_join_down.nd rfl (Or.inl rfl) (C8.pe_c c_lowest_join hr (by first | decide | omega) (by rfl) (pa_cons (pv 0) (pa_cons (pv 2) pa_nil))))))))
      (pss_one (ps_ret (pv 2))))), ?_⟩
    refine ⟨_, rfl, _, rfl, d, a, k, ps, row, rfl, hd, hrow, hl, fun H1 v s1 lo => ?_⟩
    refine ⟨fun m σ H' => ∃ (v4 v5 : Option V) (a' : Addr) (k' : Bool) (row' : List Nat) (lv : V), σ = [some (V.ref d), some (.int (b : Int)), some (.ref a'), some lv, v4, v5] ∧ Same H H' ∧ (k = true → k' = true) ∧ RowAt k' H' a' row' ∧ cutL b ps row' = cutL b ps row ∧ m = row'.length ∧ row'.length ≤ 1000 ∧ LowAt H' ps row' lv,
        ⟨row.length, none, none, a, k, row, v, rfl, s1, fun h => h, hrow.same s1, rfl, rfl, hl, lo⟩, ?_⟩
    rintro m σ H2 ⟨v4, v5, a', k', row', lv, rfl, s2, hk, hr2, he, rfl, hl2, lo2⟩
    refine ⟨_, rfl, rfl, _, rfl, ?_⟩
    rcases lo2 with ⟨rfl, hno⟩ | ⟨p, r, t, q1, rfl, ht, hq, hp, hadj, hlow⟩
    · refine iteF ⟨_, rfl, q H2 a' k' s2 hk ?_⟩
      rw [← he, cut_done hno]; exact hr2
    · refine iteT ?_
      have hpw := hw r p hp
      refine ⟨fun σ' H' => ∃ m', m' < row'.length ∧ ∃ (v4 v5 : Option V) (a' : Addr) (k' : Bool) (row' : List Nat) (lv : V), σ' = [some (V.ref d), some (.int (b : Int)), some (.ref a'), some lv, v4, v5] ∧ Same H H' ∧ (k = true → k' = true) ∧ RowAt k' H' a' row' ∧ cutL b ps row' = cutL b ps row ∧ m' = row'.length ∧ row'.length ≤ 1000 ∧ LowAt H' ps row' lv, fun σ' H' z => z, ?_⟩
      refine ⟨_, rfl, t, _, rfl, SqT.of ht, rfl, _, _, rfl, _, _, rfl, rfl, ?_⟩
      refine ⟨_, rfl, _, rfl, _, rfl, _, rfl, _, _, rfl, rfl, k', a', q1, row', p.1, p.2, b + r, rfl, hr2, hq, by omega, hl2, fun H3 J s3 hJ hJ3 => ?_⟩
      have hlt := pass_lt (m := b + r) hadj
      refine ⟨_, rfl, _, rfl, d, J, true, ps, pass p.1 p.2 (b + r) row', rfl, s3 _ _ (s2 _ _ hd), hJ3, by omega, fun H4 v s4 lo4 => ?_⟩
      exact ⟨_, hlt, _, _, J, true, _, v, rfl, (s2.trans s3).trans s4, fun _ => rfl, s4 _ _ hJ3, by rw [← he]; exact cut_step hw hp row' hlow, rfl, by omega, lo4⟩
end
end RJ
end

section
set_option maxRecDepth 100000
set_option maxHeartbeats 2000000
namespace RJ
open PySem PySem.Spec PyProof.Rows L2
/-! ### data on the heap -/
def strV (ts : List (List Nat)) : List V := ts.map fun t => V.str (S t)
theorem strV_len (ts : List (List Nat)) : (strV ts).length = ts.length := by rw [strV, List.length_map]
theorem strV_snoc (ts : List (List Nat)) (t : List Nat) : strV ts ++ [V.str (S t)] = strV (ts ++ [t]) := by rw [strV, strV, List.map_append]; rfl
theorem strV_at {ts : List (List Nat)} {i : Nat} (h : i < ts.length) : (strV ts)[i]? = some (V.str (S (ts.getD i []))) := by
  rw [strV, List.getElem?_map, List.getD_eq_getElem?_getD, List.getElem?_eq_getElem h]; rfl
def PairAt (H : Hp) (v : V) (p : Nat × Nat) : Prop := ∃ q, v = .ref q ∧ H q = some (.tup [.int (p.1 : Int), .int (p.2 : Int)])
theorem PairAt.same {H H' : Hp} {v : V} {p : Nat × Nat} (h : PairAt H v p) (s : SameT H H') : PairAt H' v p := by
  obtain ⟨q, e, h1⟩ := h
  exact ⟨q, e, s _ _ h1⟩
abbrev PairsAt (H : Hp) (vs : List V) (ps : List (Nat × Nat)) : Prop := Paired (PairAt H) vs ps
theorem PairsAt.same {H H' : Hp} {vs : List V} {ps : List (Nat × Nat)} (h : PairsAt H vs ps) (s : SameT H H') : PairsAt H' vs ps := Paired.mapP h fun _ _ q => q.same s
theorem S_inj {a b : List Nat} (h : S a = S b) : a = b := SX.S_inj h
theorem S_cat (a b : List Nat) : S a ++ S b = S (a ++ b) := SX.S_cat a b
abbrev s_may_follow : Stmt := top 24
abbrev N_may_follow : List Str := ["alphabet", "texts", "ranks", "pair", "left", "right", "text"]
theorem sc_may_follow : FnScope N_may_follow ["alphabet", "texts", "ranks", "pair"] (C8.fnScope s_may_follow) := C8.fnScope_by (by decide +kernel)
def sp_may_follow : Sp := fun vs H Q _ => ∃ (al : List Nat) (ts : List (List Nat)) (ps : List (Nat × Nat)) (l r : Int) (tx d pr : Addr), vs = [.str (S al), .ref tx, .ref d, .ref pr] ∧ H tx = some (.lst (strV ts)) ∧ H d = some (.dT (kvsF 0 ps)) ∧ H pr = some (.tup [.int l, .int r]) ∧
  WF al.length ps ∧ (∀ t ∈ ts, ∀ c ∈ t, c ∈ al) ∧ (∀ t ∈ ts, t.length ≤ 40) ∧ al.length ≤ 1000 ∧ ts.length ≤ 1000 ∧
  (∀ p : Nat × Nat, l = (p.1 : Int) → r = (p.2 : Int) → okP al ts ps p → ∀ H', Same H H' → Q (.bl true) H') ∧ ((∀ p : Nat × Nat, l = (p.1 : Int) → r = (p.2 : Int) → ¬ okP al ts ps p) → ∀ H', Same H H' → Q (.bl false) H')
theorem numBelow_yes {i n : Nat} (h : i < n) : numBelow (.int (i : Int)) (n : Int) = true := by
  show (decide (0 ≤ (i : Int)) && decide ((i : Int) < (n : Int))) = true
  rw [decide_eq_true (by omega), decide_eq_true (by omega)]; rfl
theorem numBelow_int {l : Int} {n : Nat} (h : numBelow (.int l) (n : Int) = true) : ∃ a : Nat, l = (a : Int) ∧ a < n := by
  unfold numBelow at h
  rw [Bool.and_eq_true, decide_eq_true_eq, decide_eq_true_eq] at h
  exact ⟨l.toNat, by omega, by omega⟩
theorem iv_dp {K : PySem.W.Frag} {H : Hp} : ∀ l : List Nat, DpAll K H (iv l) (l.map fun (n : Nat) => PyData.int (n : Int))
  | [] => .nil
  | n :: l => .cons (.int _) (iv_dp l)
theorem eqv_iv : ∀ a b : List Nat, PyData.eqvAll (a.map fun (n : Nat) => PyData.int (n : Int)) (b.map fun (n : Nat) => PyData.int (n : Int)) = decide (a = b)
  | [], [] => by simp [PyData.eqvAll]
  | [], _ :: _ => by simp [PyData.eqvAll]
  | _ :: _, [] => by simp [PyData.eqvAll]
  | x :: a, y :: b => by
    rw [List.map_cons, List.map_cons, PyData.eqvAll, eqv_iv a b, PyData.eqv]
    by_cases h : x = y
    · subst h; simp
    · have : ((x : Int) == (y : Int)) = false := beq_eq_false_iff_ne.mpr (by omega)
      rw [this]
      simp [h]
theorem shaped_iv (l : List Nat) : SeqAt.shaped (.list (l.map fun (n : Nat) => PyData.int (n : Int))) = true := by
  have h1 : PyData.canLayAll0 (l.map fun (n : Nat) => PyData.int (n : Int)) = true := by
    induction l with
    | nil => simp [PyData.canLayAll0]
    | cons n l ih => rw [List.map_cons, PyData.canLayAll0, ih]; simp [PyData.canLay0]
  have h2 : PyData.depthAll (l.map fun (n : Nat) => PyData.int (n : Int)) = 0 := by
    clear h1
    induction l with
    | nil => simp [PyData.depthAll]
    | cons n l ih => rw [List.map_cons, PyData.depthAll, ih]; simp [PyData.depth]
  unfold SeqAt.shaped
  rw [PyData.canLay0, h1, PyData.depth, h2]; rfl
section
variable {P : Program} {w : World} {K : PySem.W.Frag} {mg : Str → Option Value} {base : Heap}
theorem ok_may_follow {f : Addr} {fd : FuncData} (F : C8.Fun K "may_follow" "may_follow" s_may_follow f fd) (T : Txt K mg) (c_is_number_below : C8.Cal P w K mg base 2 "is_number_below" sp_is_number_below []) (c_join_down : C8.Cal P w K mg base 2 "join_down" sp_join_down []) (c_letter_row : C8.Cal P w K mg base 1 "letter_row" sp_letter_row []) :
    FnOk P w K mg base C8.CX0 3 f fd ["alphabet", "texts", "ranks", "pair"] sp_may_follow := by
  refine C8.fn0 F sc_may_follow (fun vs H Q E h => ?_) (fun cdv A outer s H vs Q E hr h => ?_)
  · obtain ⟨al, ts, ps, l, r, tx, d, pr, rfl, _⟩ := h; rfl
  · obtain ⟨al, ts, ps, l, r, tx, d, pr, rfl, htx, hd, hpr, hw, hin, hsh, hal, hts, qT, qF⟩ := h
    have hu64 := hu64_of hr
    have qF' : (∀ p : Nat × Nat, l = (p.1 : Int) → r = (p.2 : Int) → ¬ okP al ts ps p) → ∀ H', Same H H' → Q (.bl false) H' := qF
    refine ⟨_, (pss_cons (ps_asg (pv 3) (pg_tup rfl (pgs_cons (pg_name (i := 4) sc_may_follow.nd rfl (Or.inl rfl)) (pgs_cons (pg_name (i := 5) sc_may_follow.nd rfl (Or.inl rfl)) pgs_nil))))
      (pss_cons (ps_if (pt_not (PW.pt (pw_and (pt_val (C8.pe_c c_is_number_below hr (by first | decide | omega) (by rfl) (pa_cons (pv 4) (pa_cons (pe_callB call_len_seq (by rfl) T.b_len PySem.boot_len (pa_cons (pv 1) pa_nil)) pa_nil)))) (pw_and1 (pt_val (C8.pe_c c_is_number_below hr (by first | decide | omega) (by rfl) (pa_cons (pv 5) (pa_cons (pe_callB call_len_seq (by rfl) T.b_len PySem.boot_len (pa_cons (pv 1) pa_nil)) pa_nil)))))))) (pss_one (ps_ret pe_bl)) pss_nil)
      (pss_cons (ps_set (i := 6) sc_may_follow.nd rfl (Or.inl rfl) (pe_op op_add_str (pe_ix ix_list (pv 1) (pv 4) (fun _ _ => rfl)) (pe_ix ix_list (pv 1) (pv 5) (fun _ _ => rfl))))
      (pss_cons (ps_if (pt_cmpR op_gt (pe_callB call_len_str (by rfl) T.b_len PySem.boot_len (pa_cons (pv 6) pa_nil)) (C8.pe_gc rfl T.c_MOST_SIGNS_OF_PIECE) (nomark _)) (pss_one (ps_ret pe_bl)) pss_nil)
      (pss_one (ps_ret (pe_cmpR (op_eqD hu64) (C8.pe_c c_join_down hr (by first | decide | omega) (by rfl) (pa_cons (pv 2) (pa_cons (pe_callB call_len_str (by rfl) T.b_len PySem.boot_len (pa_cons (pv 0) pa_nil)) (pa_cons (C8.pe_c c_letter_row hr (by first | decide | omega) (by rfl) (pa_cons (pv 0) (pa_cons (pv 6) pa_nil))) pa_nil)))) (pe_lst (pa_cons (pv 4) (pa_cons (pv 5) pa_nil))) (nomark _)))))))), ?_⟩
    refine ⟨_, rfl, pr, _, rfl, SqT.of hpr, rfl, _, _, rfl, _, _, rfl, rfl, ?_⟩
    refine ⟨_, rfl, _, rfl, tx, _, rfl, .inl (SqL.of htx), _, _, rfl, .int l, _, rfl, ?_⟩
    rw [strV_len]
    cases h1 : numBelow (.int l) (ts.length : Int) with
    | false =>
      refine iteF (iteT (qF' (fun p e1 e2 ok => ?_) H (Same.refl H)))
      rw [e1, numBelow_yes ok.1] at h1; cases h1
    | true =>
      obtain ⟨a, rfl, ha⟩ := numBelow_int h1
      refine iteT ⟨_, rfl, _, rfl, tx, _, rfl, .inl (SqL.of htx), _, _, rfl, .int r, _, rfl, ?_⟩
      rw [strV_len]
      cases h2 : numBelow (.int r) (ts.length : Int) with
      | false =>
        refine iteT (qF' (fun p e1 e2 ok => ?_) H (Same.refl H))
        rw [e2, numBelow_yes ok.2.1] at h2; cases h2
      | true =>
        obtain ⟨b, rfl, hb⟩ := numBelow_int h2
        refine iteF ?_
        have uniq : ¬ okP al ts ps (a, b) → ∀ p : Nat × Nat, (a : Int) = (p.1 : Int) → (b : Int) = (p.2 : Int) → ¬ okP al ts ps p := fun hn p e1 e2 ok => by
          obtain ⟨p1, p2⟩ := p
          have z1 : a = p1 := by have e1' : (a : Int) = (p1 : Int) := e1; omega
          have z2 : b = p2 := by have e2' : (b : Int) = (p2 : Int) := e2; omega
          subst z1 z2
          exact hn ok
        have hla : (ts.getD a []).length ≤ 40 := by
          rcases getD_mem_or (ts := ts) (i := a) with m | m
          · exact hsh _ m
          · rw [m]; exact Nat.zero_le _
        have hlb : (ts.getD b []).length ≤ 40 := by
          rcases getD_mem_or (ts := ts) (i := b) with m | m
          · exact hsh _ m
          · rw [m]; exact Nat.zero_le _
        refine ⟨_, rfl, _, rfl, tx, _, _, _, rfl, rfl, SqL.of htx, atI_nat (strV_at ha), _, rfl, _, rfl, tx, _, _, _, rfl, rfl, SqL.of htx, atI_nat (strV_at hb), S _, S _, rfl, rfl, by rw [S_len, S_len]; exact small_le (by omega), ?_⟩
        rw [S_cat]
        have hlab : (ts.getD a [] ++ ts.getD b []).length ≤ 1000 := by rw [List.length_append]; omega
        refine ⟨_, rfl, S _, rfl, by rw [S_len]; exact small_le hlab, _, _, rfl, rfl, _, rfl, ?_⟩
        rw [S_len]
        by_cases hl : (ts.getD a [] ++ ts.getD b []).length ≤ 40
        · rw [decide_eq_false (by omega : ¬ (40 : Int) < ((ts.getD a [] ++ ts.getD b []).length : Int))]
          refine iteF ?_
          refine ⟨_, rfl, _, rfl, S al, rfl, by rw [S_len]; exact small_le hal, _, rfl, _, rfl, al, _, rfl, fun c hc => ?_, hlab, fun H1 p s1 hp0 hp => ?_⟩
          · rcases List.mem_append.mp hc with z | z
            · rcases getD_mem_or (ts := ts) (i := a) with m | m
              · exact hin _ m c z
              · rw [m] at z; cases z
            · rcases getD_mem_or (ts := ts) (i := b) with m | m
              · exact hin _ m c z
              · rw [m] at z; cases z
          · refine ⟨d, p, true, al.length, ps, _, by rw [S_len]; rfl, s1 _ _ hd, hw, hp, by rw [lets, List.length_map]; exact hlab, fun H2 q k' s2 hk hq => ?_⟩
            have hk' : k' = true := hk rfl
            subst hk'
            refine ⟨_, rfl, _, rfl, by show 2 ≤ sizeLine; decide, fun z hz => ?_⟩
            have hqz : upd H2 z (.lst [.int (a : Int), .int (b : Int)]) q = some (.lst (iv (cutL al.length ps (lets al (ts.getD a [] ++ ts.getD b []))))) := (upd_ne (ne_of_none (show H2 q = _ from hq) hz)).trans hq
            refine ⟨_, _, .lst (SqL.of hqz) (iv_dp _), .lst (SqL.of upd_same) (iv_dp [a, b]), shaped_iv _, shaped_iv [a, b], ?_⟩
            have sF : Same H (upd H2 z (.lst [.int (a : Int), .int (b : Int)])) := Same.new (s1.trans s2) hz
            show Q (.bl (PyData.eqv (.list _) (.list _))) _
            rw [PyData.eqv, eqv_iv]
            by_cases hc : cutL al.length ps (lets al (ts.getD a [] ++ ts.getD b [])) = [a, b]
            · rw [decide_eq_true hc]
              exact qT (a, b) rfl rfl ⟨ha, hb, hl, hc⟩ _ sF
            · rw [decide_eq_false hc]
              exact qF' (uniq fun ok => hc ok.2.2.2) _ sF
        · rw [decide_eq_true (by omega : (40 : Int) < ((ts.getD a [] ++ ts.getD b []).length : Int))]
          exact iteT (qF' (uniq fun ok => hl ok.2.2.1) H (Same.refl H))
end
end RJ
end

section
set_option maxRecDepth 100000
set_option maxHeartbeats 4000000
namespace RJ
open PySem PySem.Spec PyProof.Rows L2
/-! ### the object -/
def f1 (al : List Nat) : List (Str × V) := putF "alphabet" (.str (S al)) []
def f2 (al : List Nat) (t : Addr) : List (Str × V) := putF "pairs" (.ref t) (f1 al)
def f3 (al : List Nat) (t tx : Addr) : List (Str × V) := putF "_texts" (.ref tx) (f2 al t)
def f4 (al : List Nat) (t tx d : Addr) : List (Str × V) := putF "_ranks" (.ref d) (f3 al t tx)
def f5 (al : List Nat) (t tx d e : Addr) : List (Str × V) := putF "_pieces_by_text" (.ref e) (f4 al t tx d)
theorem putF_len (f : Str) (v : V) : ∀ fs : List (Str × V), (putF f v fs).length ≤ fs.length + 1
  | [] => Nat.le_refl _
  | (g, x) :: r => by
    rw [putF]
    split
    · exact Nat.le_succ _
    · have := putF_len f v r
      simp only [List.length_cons]; omega
theorem f_len (al : List Nat) (t tx d : Addr) : (f1 al).length < 1000 ∧ (f2 al t).length < 1000 ∧ (f3 al t tx).length < 1000 ∧ (f4 al t tx d).length < 1000 := by
  have h1 : (f1 al).length ≤ 1 := putF_len _ _ _
  have h2 : (f2 al t).length ≤ (f1 al).length + 1 := putF_len _ _ _
  have h3 : (f3 al t tx).length ≤ (f2 al t).length + 1 := putF_len _ _ _
  have h4 : (f4 al t tx d).length ≤ (f3 al t tx).length + 1 := putF_len _ _ _
  omega
theorem f1_alphabet (al : List Nat)  : (f1 al).lookup ("alphabet" : Str) = some (.str (S al)) := by
  unfold f1
  rw [lookup_putF, if_pos rfl]
theorem f2_pairs (al : List Nat) (t : Addr) : (f2 al t).lookup ("pairs" : Str) = some (.ref t) := by
  unfold f2 f1
  rw [lookup_putF, if_pos rfl]
theorem f2_alphabet (al : List Nat) (t : Addr) : (f2 al t).lookup ("alphabet" : Str) = some (.str (S al)) := by
  unfold f2 f1
  rw [lookup_putF, if_neg (by decide +kernel), lookup_putF, if_pos rfl]
theorem f3_texts (al : List Nat) (t : Addr) (tx : Addr) : (f3 al t tx).lookup ("_texts" : Str) = some (.ref tx) := by
  unfold f3 f2 f1
  rw [lookup_putF, if_pos rfl]
theorem f3_pairs (al : List Nat) (t : Addr) (tx : Addr) : (f3 al t tx).lookup ("pairs" : Str) = some (.ref t) := by
  unfold f3 f2 f1
  rw [lookup_putF, if_neg (by decide +kernel), lookup_putF, if_pos rfl]
theorem f3_alphabet (al : List Nat) (t : Addr) (tx : Addr) : (f3 al t tx).lookup ("alphabet" : Str) = some (.str (S al)) := by
  unfold f3 f2 f1
  rw [lookup_putF, if_neg (by decide +kernel), lookup_putF, if_neg (by decide +kernel), lookup_putF, if_pos rfl]
theorem f4_ranks (al : List Nat) (t : Addr) (tx : Addr) (d : Addr) : (f4 al t tx d).lookup ("_ranks" : Str) = some (.ref d) := by
  unfold f4 f3 f2 f1
  rw [lookup_putF, if_pos rfl]
theorem f4_texts (al : List Nat) (t : Addr) (tx : Addr) (d : Addr) : (f4 al t tx d).lookup ("_texts" : Str) = some (.ref tx) := by
  unfold f4 f3 f2 f1
  rw [lookup_putF, if_neg (by decide +kernel), lookup_putF, if_pos rfl]
theorem f4_pairs (al : List Nat) (t : Addr) (tx : Addr) (d : Addr) : (f4 al t tx d).lookup ("pairs" : Str) = some (.ref t) := by
  unfold f4 f3 f2 f1
  rw [lookup_putF, if_neg (by decide +kernel), lookup_putF, if_neg (by decide +kernel), lookup_putF, if_pos rfl]
theorem f4_alphabet (al : List Nat) (t : Addr) (tx : Addr) (d : Addr) : (f4 al t tx d).lookup ("alphabet" : Str) = some (.str (S al)) := by
  unfold f4 f3 f2 f1
  rw [lookup_putF, if_neg (by decide +kernel), lookup_putF, if_neg (by decide +kernel), lookup_putF, if_neg (by decide +kernel), lookup_putF, if_pos rfl]
theorem f5_pieces_by_text (al : List Nat) (t : Addr) (tx : Addr) (d : Addr) (e : Addr) : (f5 al t tx d e).lookup ("_pieces_by_text" : Str) = some (.ref e) := by
  unfold f5 f4 f3 f2 f1
  rw [lookup_putF, if_pos rfl]
theorem f5_ranks (al : List Nat) (t : Addr) (tx : Addr) (d : Addr) (e : Addr) : (f5 al t tx d e).lookup ("_ranks" : Str) = some (.ref d) := by
  unfold f5 f4 f3 f2 f1
  rw [lookup_putF, if_neg (by decide +kernel), lookup_putF, if_pos rfl]
theorem f5_texts (al : List Nat) (t : Addr) (tx : Addr) (d : Addr) (e : Addr) : (f5 al t tx d e).lookup ("_texts" : Str) = some (.ref tx) := by
  unfold f5 f4 f3 f2 f1
  rw [lookup_putF, if_neg (by decide +kernel), lookup_putF, if_neg (by decide +kernel), lookup_putF, if_pos rfl]
theorem f5_pairs (al : List Nat) (t : Addr) (tx : Addr) (d : Addr) (e : Addr) : (f5 al t tx d e).lookup ("pairs" : Str) = some (.ref t) := by
  unfold f5 f4 f3 f2 f1
  rw [lookup_putF, if_neg (by decide +kernel), lookup_putF, if_neg (by decide +kernel), lookup_putF, if_neg (by decide +kernel), lookup_putF, if_pos rfl]
theorem f5_alphabet (al : List Nat) (t : Addr) (tx : Addr) (d : Addr) (e : Addr) : (f5 al t tx d e).lookup ("alphabet" : Str) = some (.str (S al)) := by
  unfold f5 f4 f3 f2 f1
  rw [lookup_putF, if_neg (by decide +kernel), lookup_putF, if_neg (by decide +kernel), lookup_putF, if_neg (by decide +kernel), lookup_putF, if_neg (by decide +kernel), lookup_putF, if_pos rfl]
theorem f5_no (al : List Nat) (t : Addr) (tx : Addr) (d : Addr) (e : Addr) {m : Str} (h1 : ¬ m = "_pieces_by_text") (h2 : ¬ m = "_ranks") (h3 : ¬ m = "_texts") (h4 : ¬ m = "pairs") (h5 : ¬ m = "alphabet") : (f5 al t tx d e).lookup m = none := by
  unfold f5 f4 f3 f2 f1
  rw [lookup_putF, if_neg h1, lookup_putF, if_neg h2, lookup_putF, if_neg h3, lookup_putF, if_neg h4, lookup_putF, if_neg h5]; rfl
def kvsT : Nat → List (List Nat) → List (Key × V)
  | _, [] => []
  | k, t :: ts => (.inr (S t), V.int (k : Int)) :: kvsT (k + 1) ts
theorem kvsT_snoc : ∀ (k : Nat) (ts : List (List Nat)) (t : List Nat), kvsT k (ts ++ [t]) = kvsT k ts ++ [(.inr (S t), V.int ((k + ts.length : Nat) : Int))]
  | k, [], t => rfl
  | k, u :: ts, t => by
    show (Sum.inr (S u), V.int (k : Int)) :: kvsT (k + 1) (ts ++ [t]) = (Sum.inr (S u), V.int (k : Int)) :: (kvsT (k + 1) ts ++ _)
    rw [kvsT_snoc (k + 1) ts t, show k + 1 + ts.length = k + (u :: ts).length by rw [List.length_cons]; omega]
theorem kvsT_len : ∀ (k : Nat) (ts : List (List Nat)), (kvsT k ts).length = ts.length
  | _, [] => rfl
  | k, p :: ps => congrArg (· + 1) (kvsT_len (k + 1) ps)
theorem kvsT_get (t : List Nat) : ∀ (k : Nat) (ts : List (List Nat)), valV (kvsT k ts) (.inr (S t)) = if t ∈ ts then some (V.int ((k + ts.idxOf t : Nat) : Int)) else none
  | k, [] => by rw [if_neg List.not_mem_nil]; exact valV_nil
  | k, u :: ts => by
    show valV ((Sum.inr (S u), V.int (k : Int)) :: kvsT (k + 1) ts) (.inr (S t)) = _
    by_cases h : u = t
    · subst h
      rw [valV_pos (p := (Sum.inr (S u), V.int (k : Int))) rfl, if_pos (List.mem_cons_self ..), List.idxOf_cons_self]; rfl
    · rw [valV_neg (p := (Sum.inr (S u), V.int (k : Int))) fun z => h (S_inj (Sum.inr.inj z)), kvsT_get t (k + 1) ts]
      have e : List.idxOf t (u :: ts) = ts.idxOf t + 1 := by
        rw [List.idxOf_cons, show (u == t) = false from beq_eq_false_iff_ne.mpr h]; rfl
      by_cases hm : t ∈ ts
      · rw [if_pos hm, if_pos (List.mem_cons_of_mem _ hm), e, show k + 1 + ts.idxOf t = k + (ts.idxOf t + 1) by omega]
      · rw [if_neg hm, if_neg fun z => by
          rcases List.mem_cons.mp z with e | e
          · exact h e.symm
          · exact hm e]
/-- a list of joins at p -/
def JoinsAt (C : Addr) (H : Hp) (p : Addr) (al : List Nat) (ps : List (Nat × Nat)) : Prop := ∃ (dx t tx d e : Addr) (vs : List V), H p = some (.ins C dx (f5 al t tx d e)) ∧ H t = some (.tup vs) ∧ PairsAt H vs ps ∧
  H tx = some (.lst (strV (textsOf al ps))) ∧ H d = some (.dT (kvsF 0 ps)) ∧ H e = some (.dK (kvsT 0 (textsOf al ps)))
theorem JoinsAt.same {C p : Addr} {H H' : Hp} {al : List Nat} {ps : List (Nat × Nat)} (h : JoinsAt C H p al ps) (s : Same H H') : JoinsAt C H' p al ps := by
  obtain ⟨dx, t, tx, d, e, vs, h1, h2, h3, h4, h5, h6⟩ := h
  exact ⟨dx, t, tx, d, e, vs, s _ _ h1, s _ _ h2, h3.same (Same.t s), s _ _ h4, s _ _ h5, s _ _ h6⟩
/-- the class as the top has made it -/
structure JTxt (K : PySem.W.Frag) (C : Addr) : Prop where
  cl : Cls K C
  n1 : NoAttr K C "alphabet"
  n2 : NoAttr K C "pairs"
  n3 : NoAttr K C "_texts"
  n4 : NoAttr K C "_ranks"
  n5 : NoAttr K C "_pieces_by_text"
/-- all but p as it was -/
def SameX (p : Addr) (H H' : Hp) : Prop := ∀ b o, b ≠ p → H b = some o → H' b = some o
theorem Same.x {p : Addr} {H H' : Hp} (s : Same H H') : SameX p H H' := fun b o _ e => s b o e
theorem SameX.then {p : Addr} {H H1 H2 : Hp} (s : SameX p H H1) (t : Same H1 H2) : SameX p H H2 := fun b o h e => t b o (s b o h e)
theorem SameX.self {p : Addr} {H H1 : Hp} {o : HO} (s : SameX p H H1) : SameX p H (upd H1 p o) := fun b u h e => by rw [upd_ne h]; exact s b u h e
theorem SameX.put {p q : Addr} {H H1 : Hp} {o : HO} (s : SameX p H H1) (hq : H q = none) : SameX p H (upd H1 q o) := fun b u h e => by rw [upd_ne (ne_of_none e hq)]; exact s b u h e
theorem SameX.free {p q : Addr} {H H1 : Hp} (s : SameX p H H1) (hq : H1 q = none) (hp : ∃ o, H1 p = some o) : H q = none := by
  cases e : H q with
  | none => rfl
  | some o =>
    obtain ⟨u, hu⟩ := hp
    have h : q ≠ p := fun z => by rw [z, hu] at hq; cases hq
    rw [s q o h e] at hq; cases hq
theorem SameT.putO {H : Hp} {p : Addr} {o o' : HO} (h : H p = some o') (hne : ∀ xs, HO.tup xs ≠ o') : SameT H (upd H p o) := fun b ys e => by
  rw [upd_ne (ne_of e h (hne ys))]; exact e
/-- what __init__ keeps while it goes through the joins, behind n of them -/
def InitAt (C : Addr) (H : Hp) (p dx t tx d : Addr) (vs : List V) (al : List Nat) (ps : List (Nat × Nat)) (n : Nat) : Prop := H p = some (.ins C dx (f4 al t tx d)) ∧ H t = some (.tup vs) ∧ PairsAt H vs ps ∧
  H tx = some (.lst (strV (textsOf al (ps.take n)))) ∧ H d = some (.dT (kvsF 0 (ps.take n)))
theorem InitAt.same {C p dx t tx d : Addr} {H H' : Hp} {vs : List V} {al : List Nat} {ps : List (Nat × Nat)} {n : Nat} (h : InitAt C H p dx t tx d vs al ps n) (s : Same H H') : InitAt C H' p dx t tx d vs al ps n :=
  ⟨s _ _ h.1, s _ _ h.2.1, h.2.2.1.same (Same.t s), s _ _ h.2.2.2.1, s _ _ h.2.2.2.2⟩
theorem dc_it {J : It} {n : Nat} {G : Hp → Prop} {Y : Nat → Hp → V → Hp → Prop} (w : Walk J n G Y) {g : TG} {tt : TT} {tk tv : TE} {vs : List Nat} {σ : L2.St} {H1 : Hp} {D : Addr} {Qd : Hp → Prop} (Pv : Nat → Hp → Prop) (h0 : Pv 0 (upd H1 D (.dK []))) (hG : ∀ i H, i ≤ n → Pv i H → G H)
    (hs : ∀ i x H H', i < n → Pv i H → Y i H x H' → g x (wipe σ vs) H' fun σ2 H2 => wipe σ2 vs = wipe σ vs ∧ tt σ2 H2 fun b H3 =>
      if b = true then tk σ2 H3 fun y H4 => tv σ2 H4 fun z H5 => ∃ (kvs : List (Key × V)) (k : Key), y = kV k ∧ H5 D = some (.dK kvs) ∧ kvs.length < sizeLine ∧ Pv (i + 1) (upd H5 D (.dK (putK kvs k z))) else Pv (i + 1) H3) (hd : ∀ H, Pv n H → Qd H) :
    ∃ W : Nat → Nat → Hp → Prop, (∃ m, W 0 m (upd H1 D (.dK []))) ∧ ∀ i m H, W i m H →
      (J.stop i H ∧ Qd H) ∨ (J.go i H ∧ ∃ Nx : Hp → Prop, (∀ H', Nx H' → ∃ m', m' < m ∧ W (i + 1) m' H') ∧ ∀ x H', J.yld i H x H' → g x (wipe σ vs) H' fun σ2 H2 => wipe σ2 vs = wipe σ vs ∧ tt σ2 H2 fun b H3 =>
        if b = true then tk σ2 H3 fun y H4 => tv σ2 H4 fun z H5 => ∃ (kvs : List (Key × V)) (k : Key), y = kV k ∧ H5 D = some (.dK kvs) ∧ kvs.length < sizeLine ∧ Nx (upd H5 D (.dK (putK kvs k z))) else Nx H3) := by
  refine ⟨fun i m H => m = n - i ∧ i ≤ n ∧ Pv i H, ⟨n, by simp, Nat.zero_le _, h0⟩, ?_⟩
  rintro i m H ⟨rfl, hi, p⟩
  have q := hG i H hi p
  by_cases hlt : i < n
  · refine .inr ⟨w.goes i H hlt q, Pv (i + 1), fun H' p' => ⟨n - (i + 1), by omega, rfl, hlt, p'⟩, fun x H' y => hs i x H H' hlt p (w.yields i H x H' hlt q y)⟩
  · have e : i = n := by omega
    subst e
    exact .inl ⟨w.stops H q, hd H p⟩
abbrev s_Joins___init__ : Stmt := inClass (top 25) 0
abbrev N_Joins___init__ : List Str := ["self", "alphabet", "pairs", "rank", "pair", "left", "right", "piece", "text"]
theorem sc_Joins___init__ : FnScope N_Joins___init__ ["self", "alphabet", "pairs"] (C8.fnScope s_Joins___init__) := C8.fnScope_by (by decide +kernel)
def sp_init (C : Addr) : Sp := fun vs H Q _ => ∃ (p pa dx : Addr) (b : Bool) (al : List Nat) (ps : List (Nat × Nat)) (us : List V), vs = [.ref p, .str (S al), .ref pa] ∧ H p = some (.ins C dx []) ∧ SeqAt b H pa us ∧ PairsAt H us ps ∧
  alOk al = true ∧ al.Nodup ∧ al.length ≤ 30 ∧ Proper al ps ∧ ps.length ≤ 100 ∧ ∀ H', SameX p H H' → JoinsAt C H' p al ps → Q .non H'
section
variable {P : Program} {w : World} {K : PySem.W.Frag} {mg : Str → Option Value} {base : Heap}
theorem ok_init {f C : Addr} {fd : FuncData} (F : C8.Fun K "__init__" "Joins.__init__" s_Joins___init__ f fd) (T : Txt K mg) (J : JTxt K C) (c_check_alphabet : C8.Cal P w K mg base 3 "check_alphabet" sp_check_alphabet []) (c_may_follow : C8.Cal P w K mg base 3 "may_follow" sp_may_follow []) :
    FnOk P w K mg base C8.CX0 4 f fd ["self", "alphabet", "pairs"] (sp_init C) := by
  refine C8.fn0 F sc_Joins___init__ (fun vs H Q E h => ?_) (fun cdv A outer s H vs Q E hr h => ?_)
  · obtain ⟨p, pa, dx, b, al, ps, us, rfl, _⟩ := h; rfl
  · obtain ⟨p, pa, dx, b, al, ps, us, rfl, hp, hpa, hps, hal, hnd, hall, hprop, hpl, q⟩ := h
    have hu := hu_of hr
    refine ⟨_, (pss_cons (ps_expr (C8.pe_c c_check_alphabet hr (by first | decide | omega) (by rfl) (pa_cons (pv 1) pa_nil)))
      (pss_cons (ps_fld (pv 0) (pv 1) rfl)
      (pss_cons (ps_fld (pv 0) (pe_tupleOf (by rfl) T.b_tuple (pe_lc (own := [("left", 5), ("right", 6)]) (g := gTup K 2 (gCons (gName 5) (gCons (gName 6) (gNil)))) (tt := tYes) rfl sc_Joins___init__.nd (pi_seq (pv 2)) (blkOk_by (N := N_Joins___init__) (sc := C8.fnScope s_Joins___init__) (by decide +kernel)) (fun _ _ _ _ _ => (pg_tup rfl (pgs_cons (pg_name (i := 5) sc_Joins___init__.nd rfl (Or.inl rfl)) (pgs_cons (pg_name (i := 6) sc_Joins___init__.nd rfl (Or.inl rfl)) pgs_nil)))) (fun _ _ _ _ _ => pts_nil) (fun _ _ _ _ _ => (pe_tup (pa_cons (pv 5) (pa_cons (pv 6) pa_nil)))))) rfl)
      (pss_cons (ps_fld (pv 0) (pe_callTy (call_list_text rfl) (by rfl) T.b_list (by decide +kernel) (pa_cons (pv 1) pa_nil)) rfl)
      (pss_cons (ps_fld (pv 0) pe_dnewT rfl)
      (pss_cons (ps_for PassesOwn.never rfl (pi_enumG rfl T.b_enumerate (pa_cons (pe_fld (pv 0) rfl) pa_nil)) (pg_tup rfl (pgs_cons (pg_name (i := 3) sc_Joins___init__.nd rfl (Or.inl rfl)) (pgs_cons (pg_name (i := 4) sc_Joins___init__.nd rfl (Or.inl rfl)) pgs_nil))) (pss_cons (ps_if (pt_not (pt_val (C8.pe_c c_may_follow hr (by first | decide | omega) (by rfl) (pa_cons (pv 1) (pa_cons (pe_fld (pv 0) rfl) (pa_cons (pe_fld (pv 0) rfl) (pa_cons (pv 4) pa_nil))))))) (pss_one ps_never) pss_nil)
      (pss_cons (ps_expr (pe_bm PySem.F.plainAttrs_list PySem.F.slot_list_append PySem.F.type_list_append mt_append (pe_fld (pv 0) rfl) (pa_cons (pe_op op_add_str (pe_ix ix_list (pe_fld (pv 0) rfl) (pe_ix ix_tup (pv 4) pe_int (fun _ _ => rfl)) (fun _ _ => rfl)) (pe_ix ix_list (pe_fld (pv 0) rfl) (pe_ix ix_tup (pv 4) pe_int (fun _ _ => rfl)) (fun _ _ => rfl))) pa_nil)))
      (pss_one (ps_dput hu (pe_fld (pv 0) rfl) (pv 4) (pv 3) rfl)))))
      (pss_one (ps_fld (pv 0) (pe_dc (own := [("piece", 7), ("text", 8)]) (g := gTup K 2 (gCons (gName 7) (gCons (gName 8) (gNil)))) (tt := tYes) rfl sc_Joins___init__.nd (pi_enumG rfl T.b_enumerate (pa_cons (pe_fld (pv 0) rfl) pa_nil)) (blkOk_by (N := N_Joins___init__) (sc := C8.fnScope s_Joins___init__) (by decide +kernel)) (fun _ _ _ _ _ => (pg_tup rfl (pgs_cons (pg_name (i := 7) sc_Joins___init__.nd rfl (Or.inl rfl)) (pgs_cons (pg_name (i := 8) sc_Joins___init__.nd rfl (Or.inl rfl)) pgs_nil)))) (fun _ _ _ _ _ => pts_nil) (fun _ _ _ _ _ => (pv 8)) (fun _ _ _ _ _ => (pv 7))) rfl)))))))), ?_⟩
    have lens := f_len al
    refine ⟨_, rfl, al, rfl, by omega, hal, fun H1 s1 => ⟨_, rfl, _, rfl, p, C, dx, _, rfl, s1 _ _ hp, J.cl, J.n1, by show 0 < 1000; decide, ?_⟩⟩
    have x2 : SameX p H (upd H1 p (.ins C dx (f1 al))) := (Same.x s1).self
    have hp2 : (upd H1 p (.ins C dx (f1 al))) p = some (.ins C dx (f1 al)) := upd_same
    revert hp2 x2
    show SameX p H (upd H1 p (.ins C dx (f1 al))) → (upd H1 p (.ins C dx (f1 al))) p = some (.ins C dx (f1 al)) → tSeq _ _ _ _ (upd H1 p (.ins C dx (f1 al)))
    generalize upd H1 p (.ins C dx (f1 al)) = H2
    intro x2 hp2
    have hpap : pa ≠ p := by
      cases b with
      | true => exact ne_of hpa hp (by intro z; cases z)
      | false => exact ne_of hpa hp (by intro z; cases z)
    have sT2 : ∀ H3, SameX p H H3 → PairsAt H3 us ps := fun H3 x => hps.same fun b xs e => x b _ (fun z => by rw [z, hp] at e; cases e) e
    have hpa2 : SeqAt b H2 pa us := x2 _ _ hpap hpa
    -- self.pairs
    refine ⟨_, rfl, b, pa, us, rfl, hpa2, fun D hD => lc_it walk_seq (fun i H' => Same H2 H' ∧ ∃ ws, H' D = some (.lst ws) ∧ PairsAt H' ws (ps.take i)) ⟨same_new hD, [], upd_same, .nil⟩ (fun i H' _ ⟨sa, _⟩ => hpa2.same sa) ?_ ?_⟩
    · rintro i x Ha Hb hi ⟨sa, ws, hws, hP⟩ ⟨rfl, hx⟩
      obtain ⟨⟨l, r⟩, hpi, qa, rfl, hqa⟩ := Paired.at (sT2 _ (x2.then sa)) hx
      refine ⟨qa, _, rfl, SqT.of hqa, rfl, _, _, rfl, _, _, rfl, rfl, rfl, _, rfl, _, rfl, by show 2 ≤ sizeLine; decide, fun z hz => ?_⟩
      have hDz : D ≠ z := ne_of_none hws hz
      have hws' : upd Hb z (.tup [.int (l : Int), .int (r : Int)]) D = some (.lst ws) := (upd_ne hDz).trans hws
      refine ⟨ws, hws', small1000 ?_, Same.put (Same.new sa hz) hD, _, upd_same, ?_⟩
      · have e1 := hP.length
        rw [List.length_take] at e1; omega
      · rw [take_succ_of hpi]
        refine Paired.snoc ⟨z, rfl, SameT.put hws' _ _ upd_same⟩ ?_
        exact (hP.same (Same.t (same_new hz))).same (SameT.put hws')
    rintro H3 ⟨s3, ws, hws, hP3⟩
    have hlen0 : us.length = ps.length := hps.length
    rw [hlen0, List.take_length] at hP3
    refine .inl ⟨D, ws, rfl, SqL.of hws, fun t ht => ⟨_, rfl, p, C, dx, _, rfl, (Same.new s3 ht) _ _ hp2, J.cl, J.n2, lens 0 0 0 |>.1, ?_⟩⟩
    have x4 : SameX p H (upd (upd H3 t (.tup ws)) p (.ins C dx (f2 al t))) := (x2.then (Same.new s3 ht)).self
    have hp4 : (upd (upd H3 t (.tup ws)) p (.ins C dx (f2 al t))) p = some (.ins C dx (f2 al t)) := upd_same
    have hptn : t ≠ p := fun z => by rw [z, s3 _ _ hp2] at ht; cases ht
    have ht4 : (upd (upd H3 t (.tup ws)) p (.ins C dx (f2 al t))) t = some (.tup ws) := (upd_ne hptn).trans upd_same
    have hP4 : PairsAt (upd (upd H3 t (.tup ws)) p (.ins C dx (f2 al t))) ws ps :=
      (hP3.same (Same.t (same_new ht))).same (SameT.putO ((Same.new s3 ht) _ _ hp2) (by intro xs z; cases z))
    revert x4 hp4 ht4 hP4
    show SameX p H (upd (upd H3 t (.tup ws)) p (.ins C dx (f2 al t))) → (upd (upd H3 t (.tup ws)) p (.ins C dx (f2 al t))) p = some (.ins C dx (f2 al t)) → (upd (upd H3 t (.tup ws)) p (.ins C dx (f2 al t))) t = some (.tup ws) → PairsAt (upd (upd H3 t (.tup ws)) p (.ins C dx (f2 al t))) ws ps → tSeq _ _ _ _ (upd (upd H3 t (.tup ws)) p (.ins C dx (f2 al t)))
    generalize upd (upd H3 t (.tup ws)) p (.ins C dx (f2 al t)) = H4
    intro x4 hp4 ht4 hP4
    -- self._texts, self._ranks
    refine ⟨_, rfl, S al, rfl, by rw [S_size]; exact small_le (by omega), fun tx htx => ⟨_, rfl, p, C, dx, _, rfl, (same_new htx) _ _ hp4, J.cl, J.n3, lens t 0 0 |>.2.1, ?_⟩⟩
    intro d hd
    refine ⟨_, rfl, p, C, dx, _, rfl, (upd_ne (ne_of_none upd_same hd)).trans upd_same, J.cl, J.n4, lens t tx 0 |>.2.2.1, ?_⟩
    have htx0 : H tx = none := x4.free htx ⟨_, hp4⟩
    have etx : signsV (S al) = strV (textsOf al (ps.take 0)) := by
      rw [List.take_zero]
      show (al.toArray.toList.map fun c => V.str ⟨#[c]⟩) = strV (al.map fun c => [c])
      rw [strV, List.map_map]; rfl
    have txp : tx ≠ p := fun z => by rw [z, hp4] at htx; cases htx
    have hdp : d ≠ p := fun z => by rw [z, upd_same] at hd; cases hd
    have hdtx : tx ≠ d := fun z => by rw [← z, upd_ne txp, upd_same] at hd; cases hd
    have hd0 : H4 d = none := by
      rw [upd_ne hdp, upd_ne (Ne.symm hdtx)] at hd; exact hd
    have hd00 : H d = none := x4.free hd0 ⟨_, hp4⟩
    have start : ∃ (v3 v4 : Option V), [some (V.ref p), some (.str (S al)), some (.ref pa), none, none, none, none, none, none] = [some (V.ref p), some (.str (S al)), some (.ref pa), v3, v4, none, none, none, none] ∧ InitAt C (upd (upd (upd (upd H4 tx (.lst (signsV (S al)))) p (.ins C dx (f3 al t tx))) d (.dT [])) p (.ins C dx (f4 al t tx d))) p dx t tx d ws al ps 0 ∧
        SameX p H (upd (upd (upd (upd H4 tx (.lst (signsV (S al)))) p (.ins C dx (f3 al t tx))) d (.dT [])) p (.ins C dx (f4 al t tx d))) := by
      have xa : SameX p H4 (upd (upd (upd (upd H4 tx (.lst (signsV (S al)))) p (.ins C dx (f3 al t tx))) d (.dT [])) p (.ins C dx (f4 al t tx d))) :=
        (((Same.x (p := p) (same_new htx)).self).put hd0).self
      have xb : ∀ b o, b ≠ p → H b = some o → H4 b = some o := x4
      have tT : SameT H4 (upd (upd (upd (upd H4 tx (.lst (signsV (S al)))) p (.ins C dx (f3 al t tx))) d (.dT [])) p (.ins C dx (f4 al t tx d))) := fun b xs e => xa b _ (fun z => by rw [z, hp4] at e; cases e) e
      refine ⟨none, none, rfl, ⟨upd_same, tT _ _ ht4, hP4.same tT, ?_, ?_⟩, fun b o hb e => xa b o hb (x4 b o hb e)⟩
      · rw [upd_ne txp, upd_ne hdtx, upd_ne txp, upd_same, etx]
      · rw [upd_ne hdp, upd_same]; rfl
    revert start
    show (∃ (v3 v4 : Option V), _ ∧ InitAt C (upd (upd (upd (upd H4 tx (.lst (signsV (S al)))) p (.ins C dx (f3 al t tx))) d (.dT [])) p (.ins C dx (f4 al t tx d))) p dx t tx d ws al ps 0 ∧ SameX p H (upd (upd (upd (upd H4 tx (.lst (signsV (S al)))) p (.ins C dx (f3 al t tx))) d (.dT [])) p (.ins C dx (f4 al t tx d)))) → tSeq _ _ _ _ (upd (upd (upd (upd H4 tx (.lst (signsV (S al)))) p (.ins C dx (f3 al t tx))) d (.dT [])) p (.ins C dx (f4 al t tx d)))
    generalize upd (upd (upd (upd H4 tx (.lst (signsV (S al)))) p (.ins C dx (f3 al t tx))) d (.dT [])) p (.ins C dx (f4 al t tx d)) = H5
    intro start
    have hlenw : ws.length = ps.length := hP4.length
    obtain ⟨_, _, _, i0, _⟩ := id start
    refine ⟨_, rfl, p, C, dx, _, _, rfl, i0.1, J.cl, J.n2, f4_pairs al t tx d, _, _, _, _, rfl, src_seq (b := false) i0.2.1, for_it walkG (fun i σ H' => ∃ (v3 v4 : Option V), σ = [some (V.ref p), some (.str (S al)), some (.ref pa), v3, v4, none, none, none, none] ∧ InitAt C H' p dx t tx d ws al ps i ∧ SameX p H H') start (fun i σ H' _ ⟨_, _, _, ia, _⟩ => ia.2.1) ?_ ?_⟩
    · rintro i x σ Ha Hb hi ⟨v3, v4, rfl, ia, xa⟩ ⟨Tt, xs, rfl, hT, rfl, v, hv, rfl⟩
      obtain ⟨⟨l, r⟩, hpi, qa, rfl, hqa⟩ := Paired.at ia.2.2.1 hv
      have ib := ia.same (same_new hT (o := .tup [.int (i : Int), .ref qa]))
      have xb : SameX p H (upd Ha Tt (.tup [.int (i : Int), .ref qa])) := xa.then (same_new hT)
      have hqb : (upd Ha Tt (.tup [.int (i : Int), .ref qa])) qa = some (.tup [.int (l : Int), .int (r : Int)]) := (same_new hT) _ _ hqa
      have hTb : (upd Ha Tt (.tup [.int (i : Int), .ref qa])) Tt = some (.tup [.int (i : Int), .ref qa]) := upd_same
      revert ib xb hqb hTb
      show InitAt C (upd Ha Tt (.tup [.int (i : Int), .ref qa])) p dx t tx d ws al ps i → SameX p H (upd Ha Tt (.tup [.int (i : Int), .ref qa])) → (upd Ha Tt (.tup [.int (i : Int), .ref qa])) qa = some (.tup [.int (l : Int), .int (r : Int)]) → (upd Ha Tt (.tup [.int (i : Int), .ref qa])) Tt = some (.tup [.int (i : Int), .ref qa]) → gTup K 2 _ _ _ (upd Ha Tt (.tup [.int (i : Int), .ref qa])) _
      generalize upd Ha Tt (.tup [.int (i : Int), .ref qa]) = Hb
      intro ib xb hqb hTb
      obtain ⟨b1, b2, b3, b4, b5⟩ := ib
      have hok := hprop i (l, r) hpi
      have htl : (textsOf al (ps.take i)).length ≤ 200 := by rw [textsOf_len, List.length_take]; omega
      refine ⟨Tt, _, rfl, SqT.of hTb, rfl, _, _, rfl, _, _, rfl, rfl, ?_⟩
      refine ⟨_, rfl, _, rfl, p, C, dx, _, _, rfl, b1, J.cl, J.n3, f4_texts al t tx d, _, rfl, p, C, dx, _, _, rfl, b1, J.cl, J.n4, f4_ranks al t tx d, _, rfl, al, textsOf al (ps.take i), ps.take i, (l : Int), (r : Int), tx, d, qa, rfl, b4, b5, hqb, (hprop.take i).wf, textsOf_al, (hprop.take i).short, by omega, by omega,
        fun p' e1 e2 ok Hc sc => ⟨_, rfl, iteF ?_⟩, fun hno => absurd hok (hno (l, r) rfl rfl)⟩
      have ic : InitAt C Hc p dx t tx d ws al ps i := InitAt.same ⟨b1, b2, b3, b4, b5⟩ sc
      have xc : SameX p H Hc := xb.then sc
      have hqc := sc _ _ hqb
      obtain ⟨c1, c2, c3, c4, c5⟩ := ic
      have hg1 : l < (textsOf al (ps.take i)).length := hok.1
      have hg2 : r < (textsOf al (ps.take i)).length := hok.2.1
      have hsum : ((textsOf al (ps.take i)).getD l []).length + ((textsOf al (ps.take i)).getD r []).length ≤ 40 := by
        have := hok.2.2.1
        rw [List.length_append] at this; exact this
      have hts : textsOf al (ps.take i) ++ [(textsOf al (ps.take i)).getD l [] ++ (textsOf al (ps.take i)).getD r []] = textsOf al (ps.take (i + 1)) := by rw [take_succ_of hpi, textsOf_snoc]
      refine ⟨_, rfl, p, C, dx, _, _, rfl, c1, J.cl, J.n3, f4_texts al t tx d, .inl ⟨rfl, _, SqL.of c4⟩, ?_⟩
      refine ⟨_, rfl, p, C, dx, _, _, rfl, c1, J.cl, J.n3, f4_texts al t tx d, _, rfl, qa, _, 0, _, rfl, rfl, SqT.of hqc, rfl, tx, _, _, _, rfl, rfl, SqL.of c4, atI_nat (strV_at hg1),
        _, rfl, p, C, dx, _, _, rfl, c1, J.cl, J.n3, f4_texts al t tx d, _, rfl, qa, _, 1, _, rfl, rfl, SqT.of hqc, rfl, tx, _, _, _, rfl, rfl, SqL.of c4, atI_nat (strV_at hg2), S _, S _, rfl, rfl, ?_, ?_⟩
      · rw [S_len, S_len]
        exact small_le (by omega)
      refine ⟨tx, _, _, rfl, rfl, c4, by rw [strV_len]; exact small1000 (by omega), ?_⟩
      rw [S_cat, strV_snoc, hts]
      have ntx : ∀ (b : Addr) (o : HO), Hc b = some o → (∀ ys, o ≠ .lst ys) → (upd Hc tx (.lst (strV (textsOf al (ps.take (i + 1)))))) b = some o := fun b o e hne => by
        rw [upd_ne (ne_of e c4 (hne _))]; exact e
      have hd2 := ntx d _ c5 (by intro ys z; cases z)
      have hq2 := ntx qa _ hqc (by intro ys z; cases z)
      refine ⟨_, rfl, _, rfl, p, C, dx, _, _, rfl, ntx p _ c1 (by intro ys z; cases z), J.cl, J.n4, f4_ranks al t tx d, _, rfl, d, _, rfl, DPut.t (k := pkey (l, r)) hd2 hq2 (by rw [kvsF_len, List.length_take]; exact small1000 (by omega)), ?_⟩
      have hnew : putK (kvsF 0 (ps.take i)) (pkey (l, r)) (V.int (i : Int)) = kvsF 0 (ps.take (i + 1)) := by
        have hnot : (l, r) ∉ ps.take i := fun hm => by
          have := cut_clean (hprop.take i).wf (lets al ((textsOf al (ps.take i)).getD l [] ++ (textsOf al (ps.take i)).getD r [])) _ hm
          rw [show cutL al.length (ps.take i) (lets al ((textsOf al (ps.take i)).getD l [] ++ (textsOf al (ps.take i)).getD r [])) = [l, r] from hok.2.2.2] at this
          exact this (by show (l, r) ∈ [(l, r)]; exact List.mem_cons_self ..)
        have h0 : valV (kvsF 0 (ps.take i)) (pkey (l, r)) = none := by rw [kvsF_get, if_neg hnot]
        rw [putK_new _ h0, take_succ_of hpi, kvsF_snoc, take_len_of hpi, Nat.zero_add]
      rw [hnew]
      have nd : ∀ (b : Addr) (o : HO), (upd Hc tx (.lst (strV (textsOf al (ps.take (i + 1)))))) b = some o → (∀ ys, o ≠ .dT ys) → (upd (upd Hc tx (.lst (strV (textsOf al (ps.take (i + 1)))))) d (.dT (kvsF 0 (ps.take (i + 1))))) b = some o := fun b o e hne => by
        rw [upd_ne (ne_of e hd2 (hne _))]; exact e
      have tT : SameT Hc (upd (upd Hc tx (.lst (strV (textsOf al (ps.take (i + 1)))))) d (.dT (kvsF 0 (ps.take (i + 1))))) := fun b xs e => nd b _ (ntx b _ e (by intro ys z; cases z)) (by intro ys z; cases z)
      refine ⟨_, _, rfl, ⟨nd p _ (ntx p _ c1 (by intro ys z; cases z)) (by intro ys z; cases z), tT _ _ c2, c3.same tT, nd tx _ upd_same (by intro ys z; cases z), upd_same⟩, ?_⟩
      exact (xc.put htx0).put hd00
    · rintro σ H6 ⟨v3, v4, rfl, ⟨c1, c2, c3, c4, c5⟩, x6⟩
      rw [hlenw, List.take_length] at c4 c5
      refine ⟨_, rfl, p, C, dx, _, _, rfl, c1, J.cl, J.n3, f4_texts al t tx d, _, _, _, _, rfl, src_seq (b := true) c4, fun D2 hD2 => dc_it walkG (fun i H' => Same H6 H' ∧ H' D2 = some (.dK (kvsT 0 ((textsOf al ps).take i)))) ⟨same_new hD2, upd_same⟩ (fun i H' _ ⟨sa, _⟩ => sa _ _ c4) ?_ ?_⟩
      · rintro i x Ha Hb hi ⟨sa, ha⟩ ⟨Tt, xs, rfl, hT, rfl, v, hv, rfl⟩
        have hvt : ∃ u, (textsOf al ps)[i]? = some u ∧ v = .str (S u) := by
          rw [strV, List.getElem?_map] at hv
          cases e : (textsOf al ps)[i]? with
          | none => rw [e] at hv; cases hv
          | some u => rw [e] at hv; exact ⟨u, rfl, (Option.some.inj hv).symm⟩
        obtain ⟨u, hu1, rfl⟩ := hvt
        have hne : D2 ≠ Tt := ne_of_none ha hT
        refine ⟨Tt, _, rfl, SqT.of upd_same, rfl, _, _, rfl, _, _, rfl, rfl, rfl, _, rfl, _, rfl, _, Sum.inr (S u), rfl, (upd_ne hne).trans ha, ?_, Same.put (Same.new sa hT) hD2, ?_⟩
        · rw [kvsT_len, List.length_take, textsOf_len]; exact small1000 (by omega)
        · have hnot : u ∉ (textsOf al ps).take i := fun hm => by
            obtain ⟨j, hj, ej⟩ := mem_take_get hm
            have := texts_inj hnd hprop ej hu1; omega
          have h0 : valV (kvsT 0 ((textsOf al ps).take i)) (Sum.inr (S u) : Key) = none := by rw [kvsT_get, if_neg hnot]
          rw [upd_same, putK_new _ h0, take_succ_of hu1, kvsT_snoc, take_len_of hu1, Nat.zero_add]
      · rintro H7 ⟨s7, h7⟩
        have en : (strV (textsOf al ps)).length = (textsOf al ps).length := strV_len _
        rw [en, List.take_length] at h7
        refine ⟨_, rfl, p, C, dx, _, rfl, s7 _ _ c1, J.cl, J.n5, lens t tx d |>.2.2.2, q _ (x6.then s7).self ⟨dx, t, tx, d, D2, ws, upd_same, ?_⟩⟩
        have nx : ∀ (b : Addr) (o : HO), H7 b = some o → (∀ fs, o ≠ .ins C dx fs) → (upd H7 p (.ins C dx (putF "_pieces_by_text" (.ref D2) (f4 al t tx d)))) b = some o := fun b o e hne => by
          rw [upd_ne (ne_of e (s7 _ _ c1) (hne _))]; exact e
        have tT : SameT H6 (upd H7 p (.ins C dx (putF "_pieces_by_text" (.ref D2) (f4 al t tx d)))) := fun b xs e => nx b _ (s7 _ _ e) (by intro fs z; cases z)
        exact ⟨tT _ _ c2, c3.same tT, nx tx _ (s7 _ _ c4) (by intro fs z; cases z), nx d _ (s7 _ _ c5) (by intro fs z; cases z), nx D2 _ h7 (by intro fs z; cases z)⟩
end
end RJ
end

section
set_option maxRecDepth 100000
set_option maxHeartbeats 4000000
namespace RJ
open PySem PySem.Spec PyProof.Rows L2

theorem joinL_nil : ∀ ys : List (List Nat), TL.joinL [] ys = ys.flatten
  | [] => rfl
  | [y] => by show y = y ++ []; rw [List.append_nil]
  | y :: z :: ys => by
    show y ++ ([] ++ TL.joinL [] (z :: ys)) = y ++ (z :: ys).flatten
    rw [List.nil_append, joinL_nil (z :: ys)]
def sp_has_piece (C : Addr) : Sp := fun vs H Q _ => ∃ (p : Addr) (x : V) (al : List Nat) (ps : List (Nat × Nat)), vs = [.ref p, x] ∧ JoinsAt C H p al ps ∧ Kind H x ∧ Q (.bl (numBelow x ((al.length + ps.length : Nat) : Int))) H
def sp_check_piece (C : Addr) : Sp := fun vs H Q _ => ∃ (p : Addr) (i : Nat) (al : List Nat) (ps : List (Nat × Nat)), vs = [.ref p, .int (i : Int)] ∧ JoinsAt C H p al ps ∧ i < al.length + ps.length ∧ Q .non H
def sp_text_of (C : Addr) : Sp := fun vs H Q _ => ∃ (p : Addr) (i : Nat) (al : List Nat) (ps : List (Nat × Nat)), vs = [.ref p, .int (i : Int)] ∧ JoinsAt C H p al ps ∧ i < al.length + ps.length ∧ Q (.str (S ((textsOf al ps).getD i []))) H
def sp_join_row (C : Addr) : Sp := fun vs H Q _ => ∃ (p a : Addr) (k : Bool) (row al : List Nat) (ps : List (Nat × Nat)), vs = [.ref p, .ref a] ∧ JoinsAt C H p al ps ∧ WF al.length ps ∧ RowAt k H a row ∧ row.length ≤ 1000 ∧ al.length ≤ 1000 ∧
  ∀ H' q k', Same H H' → (k = true → k' = true) → RowAt k' H' q (cutL al.length ps row) → Q (.ref q) H'
def sp_letters_of (C : Addr) : Sp := fun vs H Q _ => ∃ (p : Addr) (t al : List Nat) (ps : List (Nat × Nat)), vs = [.ref p, .str (S t)] ∧ JoinsAt C H p al ps ∧ (∀ c ∈ t, c ∈ al) ∧ t.length ≤ 1000 ∧
  ∀ H' q, Same H H' → H q = none → RowAt false H' q (lets al t) → Q (.ref q) H'
def sp_cut (C : Addr) : Sp := fun vs H Q _ => ∃ (p : Addr) (t al : List Nat) (ps : List (Nat × Nat)), vs = [.ref p, .str (S t)] ∧ JoinsAt C H p al ps ∧ WF al.length ps ∧ (∀ c ∈ t, c ∈ al) ∧ t.length ≤ 1000 ∧ al.length ≤ 1000 ∧
  ∀ H' q, Same H H' → RowAt false H' q (cutL al.length ps (lets al t)) → Q (.ref q) H'
def sp_text_of_row (C : Addr) : Sp := fun vs H Q _ => ∃ (p a : Addr) (b : Bool) (row al : List Nat) (ps : List (Nat × Nat)), vs = [.ref p, .ref a] ∧ JoinsAt C H p al ps ∧ Proper al ps ∧ RowAt b H a row ∧ (∀ i ∈ row, i < al.length + ps.length) ∧ row.length ≤ 1000 ∧
  ∀ H', Same H H' → Q (.str (S (textR (textsOf al ps) row))) H'
theorem sum_le {l : List (List Nat)} (h : ∀ t ∈ l, t.length ≤ 40) : ((l.map fun t => S t).map (·.length)).sum ≤ 40 * l.length := by
  induction l with
  | nil => exact Nat.le_refl _
  | cons t l ih =>
    have h1 := ih fun u hu => h u (List.mem_cons_of_mem _ hu)
    have h2 := h t (List.mem_cons_self ..)
    rw [List.map_cons, List.map_cons, List.sum_cons, S_len, List.length_cons]
    omega
section
variable {P : Program} {w : World} {K : PySem.W.Frag} {mg : Str → Option Value} {base : Heap}
end
end RJ
end

section
set_option maxRecDepth 100000
set_option maxHeartbeats 4000000
namespace RJ
open PySem PySem.Spec PyProof.Rows L2
theorem hu65_of {A : Around} {k : Nat} (hr : Room k A) : A.units + 65 < cLine := by have := hr.un; omega
theorem pe_never {X : Cx} {e : Expr} : PE X e (fun _ _ _ => False) := ⟨fun _ _ _ _ _ _ h => h.elim⟩
abbrev s__law_numbers : Stmt := top 35
abbrev N__law_numbers : List Str := ["cell", "at", "many", "great", "rest", "numbers", "k", "mixed"]
theorem sc__law_numbers : FnScope N__law_numbers ["cell", "at", "many"] (C8.fnScope s__law_numbers) := C8.fnScope_by (by decide +kernel)
abbrev s__law_same : Stmt := top 36
abbrev N__law_same : List Str := ["actual", "expected", "k"]
theorem sc__law_same : FnScope N__law_same ["actual", "expected"] (C8.fnScope s__law_same) := C8.fnScope_by (by decide +kernel)
abbrev s__law_alphabet : Stmt := top 37
abbrev N__law_alphabet : List Str := ["numbers", "k", "many", "signs", "chosen", "j", "sign"]
theorem sc__law_alphabet : FnScope N__law_alphabet ["numbers", "k", "many"] (C8.fnScope s__law_alphabet) := C8.fnScope_by (by decide +kernel)
def sp_numbers : Sp := fun vs H Q _ => ∃ (c a : Int) (m : Nat), vs = [.int c, .int a, .int (m : Int)] ∧ 0 ≤ a ∧ a ≤ 1000 ∧ m ≤ 200 ∧
  ∀ H' p ns, Same H H' → H p = none → ns.length = m → (∀ n ∈ ns, n < 1000) → H' p = some (.lst (iv ns)) → Q (.ref p) H'
/-- the same data of this depth at most -/
def scalV : V → Bool
  | .non => true
  | .bl _ => true
  | .int _ => true
  | .str _ => true
  | _ => false
def SameD (H : Hp) : Nat → V → V → Prop
  | 0, x, y => x = y ∧ scalV x = true
  | n + 1, x, y => (x = y ∧ scalV x = true) ∨ ∃ a b xs ys, x = .ref a ∧ y = .ref b ∧ H a = some (.tup xs) ∧ H b = some (.tup ys) ∧ xs.length ≤ 1000 ∧ Paired (SameD H n) xs ys
theorem SameD.flat {H : Hp} {x : V} (h : scalV x = true) : ∀ n, SameD H n x x
  | 0 => ⟨rfl, h⟩
  | _ + 1 => .inl ⟨rfl, h⟩
theorem Paired.same {α : Type} {F : α → α → Prop} : ∀ {l : List α}, (∀ x ∈ l, F x x) → Paired F l l
  | [], _ => .nil
  | x :: l, h => .cons (h x (List.mem_cons_self ..)) (Paired.same fun y hy => h y (List.mem_cons_of_mem _ hy))
theorem SameD.row {H : Hp} {a b : Addr} {l : List Nat} (ha : H a = some (.tup (iv l))) (hb : H b = some (.tup (iv l))) (hl : l.length ≤ 1000) : SameD H 1 (.ref a) (.ref b) :=
  .inr ⟨a, b, _, _, rfl, rfl, ha, hb, by rw [iv_len]; exact hl, Paired.same fun x hx => by
    obtain ⟨n, _, rfl⟩ := List.mem_map.mp hx
    exact ⟨rfl, rfl⟩⟩
theorem SameD.mono {H H' : Hp} (s : Same H H') : ∀ {n : Nat} {x y : V}, SameD H n x y → SameD H' n x y
  | 0, _, _, h => h
  | n + 1, _, _, h => by
    rcases h with h | ⟨a, b, xs, ys, h1, h2, h3, h4, h5, h6⟩
    · exact .inl h
    · exact .inr ⟨a, b, xs, ys, h1, h2, s _ _ h3, s _ _ h4, h5, Paired.mapP h6 fun x y q => SameD.mono s q⟩
def sp_same (n : Nat) : Sp := fun vs H Q _ => ∃ x y, vs = [x, y] ∧ SameD H n x y ∧ ∀ H', Same H H' → Q (.bl true) H'
theorem emod_nat (z m : Int) (h : 0 < m) : ∃ n : Nat, z % m = (n : Int) ∧ (n : Int) < m := ⟨(z % m).toNat, by have := Int.emod_nonneg z (by omega : m ≠ 0); omega, by have := Int.emod_lt_of_pos z h; have := Int.emod_nonneg z (by omega : m ≠ 0); omega⟩
theorem abs_nonneg (c : Int) : 0 ≤ (if c < 0 then -c else c) := by split <;> omega
section
variable {P : Program} {w : World} {K : PySem.W.Frag} {mg : Str → Option Value} {base : Heap}
theorem ok_numbers {f : Addr} {fd : FuncData} (F : C8.Fun K "_law_numbers" "_law_numbers" s__law_numbers f fd) (T : Txt K mg) : FnOk P w K mg base C8.CX0 1 f fd ["cell", "at", "many"] sp_numbers := by
  refine C8.fn0 F sc__law_numbers (fun vs H Q E h => ?_) (fun cdv A outer s H vs Q E hr h => ?_)
  · obtain ⟨c, a, m, rfl, _⟩ := h; rfl
  · obtain ⟨c, a, m, rfl, ha0, ha1, hm, q⟩ := h
    refine ⟨_, (pss_cons (ps_set (i := 3) sc__law_numbers.nd rfl (Or.inl rfl) (pe_cmpR op_ge (pe_callB call_abs (by rfl) T.b_abs (by decide +kernel) (pa_cons (pe_callTy call_int1 (by rfl) T.b_int (by decide +kernel) (pa_cons (pv 0) pa_nil)) pa_nil)) (pe_op op_pow pe_int pe_int) (nomark _)))
      (pss_cons (ps_set (i := 4) sc__law_numbers.nd rfl (Or.inl rfl) (pe_op op_add (pe_op op_mul pe_int (pe_callB call_abs (by rfl) T.b_abs (by decide +kernel) (pa_cons (pe_callTy call_int1 (by rfl) T.b_int (by decide +kernel) (pa_cons (pv 0) pa_nil)) pa_nil))) (pe_callTy call_int1 (by rfl) T.b_int (by decide +kernel) (pa_cons (pe_cmpR op_lt (pv 0) pe_int (nomark _)) pa_nil))))
      (pss_cons (ps_set (i := 5) sc__law_numbers.nd rfl (Or.inl rfl) (pe_lst pa_nil))
      (pss_cons (ps_for PassesOwn.never rfl (pi_range1 rfl T.b_range (pa_cons (pv 2) pa_nil)) (pg_name (i := 6) sc__law_numbers.nd rfl (Or.inl rfl)) (pss_one (ps_if (pt_val (pv 3)) (pss_cons (ps_expr (pe_bm PySem.F.plainAttrs_list PySem.F.slot_list_append PySem.F.type_list_append mt_append (pv 5) (pa_cons (pe_op op_mod (pe_callTy call_int1 (by rfl) T.b_int (by decide +kernel) (pa_cons (pv 4) pa_nil)) pe_int) pa_nil)))
      (pss_one (ps_set (i := 4) sc__law_numbers.nd rfl (Or.inl rfl) (pe_op op_fdiv (pv 4) pe_int)))) (pss_cons (ps_set (i := 7) sc__law_numbers.nd rfl (Or.inl rfl) (pe_op op_mod (pe_callTy call_int1 (by rfl) T.b_int (by decide +kernel) (pa_cons (pe_op op_add (pe_op op_add (pe_op op_add (pe_op op_mul (pv 4) pe_int) (pe_op op_mul (pv 1) pe_int)) (pe_op op_mul (pv 6) pe_int)) pe_int) pa_nil)) pe_int))
      (pss_cons (ps_set (i := 7) sc__law_numbers.nd rfl (Or.inl rfl) (pe_op op_mod (pe_callTy call_int1 (by rfl) T.b_int (by decide +kernel) (pa_cons (pe_op op_add (pe_op op_add (pe_op op_mul (pv 7) (pv 7)) (pe_op op_mul (pv 6) pe_int)) pe_int) pa_nil)) pe_int))
      (pss_cons (ps_set (i := 7) sc__law_numbers.nd rfl (Or.inl rfl) (pe_op op_mod (pe_callTy call_int1 (by rfl) T.b_int (by decide +kernel) (pa_cons (pe_op op_add (pe_op op_add (pe_op op_mul (pv 7) (pv 7)) (pe_op op_mul (pv 1) pe_int)) pe_int) pa_nil)) pe_int))
      (pss_one (ps_expr (pe_bm PySem.F.plainAttrs_list PySem.F.slot_list_append PySem.F.type_list_append mt_append (pv 5) (pa_cons (pe_op op_mod (pe_callTy call_int1 (by rfl) T.b_int (by decide +kernel) (pa_cons (pe_op op_fdiv (pv 7) pe_int) pa_nil)) pe_int) pa_nil))))))))))
      (pss_one (ps_ret (pv 5))))))), ?_⟩
    refine ⟨_, rfl, .inl ⟨c, rfl, c, rfl, _, _, rfl, rfl, ⟨by decide, by decide, by decide⟩, _, _, rfl, rfl, ?_⟩⟩
    refine ⟨_, rfl, .inl ⟨c, rfl, c, rfl, _, _, rfl, rfl, .inl ⟨by decide, by decide⟩, _, rfl, _, _, rfl, rfl, .inr ⟨_, rfl, ?_⟩⟩⟩
    refine ⟨_, _, rfl, rfl, Nat.zero_le _, fun p hp => ?_⟩
    obtain ⟨great, hgreat⟩ : ∃ g, g = decide ((10 : Int) ^ (18 : Int).toNat ≤ if c < 0 then -c else c) := ⟨_, rfl⟩
    refine ⟨_, rfl, _, rfl, by omega, by omega, for_it walk_range (fun i σ H' => ∃ (rest : Int) (ns : List Nat) (vk vm : Option V), σ = [some (.int c), some (.int a), some (.int (m : Int)), some (.bl great), some (.int rest), some (.ref p), vk, vm] ∧ Same H H' ∧ H' p = some (.lst (iv ns)) ∧ ns.length = i ∧ ∀ n ∈ ns, n < 1000)
      ⟨2 * (if c < 0 then -c else c) + (if decide (c < 0) = true then (1 : Int) else 0), [], none, none, by rw [hgreat]; rfl, same_new hp, upd_same, rfl, fun n hn => by cases hn⟩ (fun _ _ _ _ _ => trivial) ?_ ?_⟩
    · rintro i x σ Ha Hb hi ⟨rest, ns, vk, vm, rfl, sa, ha, hl, hns⟩ ⟨rfl, rfl⟩
      have him : i < m := by simpa using hi
      have fin : ∀ (z : Int) (rest' : Int) (vk vm : Option V), ∃ (rest : Int) (ns' : List Nat) (vk' vm' : Option V), [some (V.int c), some (.int a), some (.int (m : Int)), some (.bl great), some (.int rest'), some (.ref p), vk, vm] = [some (V.int c), some (.int a), some (.int (m : Int)), some (.bl great), some (.int rest), some (.ref p), vk', vm'] ∧ Same H (upd Hb p (.lst (iv ns ++ [.int (z % 1000)]))) ∧
          (upd Hb p (.lst (iv ns ++ [.int (z % 1000)]))) p = some (.lst (iv ns')) ∧ ns'.length = i + 1 ∧ ∀ n ∈ ns', n < 1000 := fun z rest' vk vm => by
        obtain ⟨n, e, hn⟩ := emod_nat z 1000 (by decide)
        refine ⟨rest', ns ++ [n], vk, vm, rfl, Same.put sa hp, ?_, ?_, fun k hk => ?_⟩
        · rw [upd_same, e, iv_snoc]
        · rw [List.length_append, hl]; rfl
        · rcases List.mem_append.mp hk with z | z
          · exact hns k z
          · rw [List.mem_singleton.mp z]; omega
      have hlen : (iv ns).length < sizeLine := by rw [iv_len]; exact small1000 (by omega)
      refine ⟨_, rfl, _, rfl, ?_⟩
      cases great with
      | true =>
        refine iteT ⟨_, rfl, .inl ⟨rfl, _, SqL.of ha⟩, _, rfl, .inl ⟨rest, rfl, _, _, rfl, rfl, by show (0 : Int) < 1000; decide, p, _, _, rfl, rfl, ha, hlen, ?_⟩⟩
        exact ⟨_, rfl, _, _, rfl, rfl, ⟨by decide, by decide⟩, fin rest _ _ _⟩
      | false =>
        refine iteF ⟨_, rfl, _, _, rfl, rfl, .inr ⟨by decide, by decide⟩, _, rfl, _, _, rfl, rfl, .inr ⟨by decide, by decide⟩, _, _, rfl, rfl, _, rfl, _, _, rfl, rfl, .inr ⟨by decide, by decide⟩, _, _, rfl, rfl, _, _, rfl, rfl, .inl ⟨_, rfl, _, _, rfl, rfl, by show (0 : Int) < 2147483647; decide, ?_⟩⟩
        refine ⟨_, rfl, _, rfl, _, _, rfl, rfl, .inl ⟨by omega, by omega⟩, _, rfl, _, _, rfl, rfl, .inr ⟨by decide, by decide⟩, _, _, rfl, rfl, _, _, rfl, rfl, .inl ⟨_, rfl, _, _, rfl, rfl, by show (0 : Int) < 2147483629; decide, ?_⟩⟩
        refine ⟨_, rfl, _, rfl, _, _, rfl, rfl, .inl ⟨by omega, by omega⟩, _, rfl, _, _, rfl, rfl, .inr ⟨by decide, by decide⟩, _, _, rfl, rfl, _, _, rfl, rfl, .inl ⟨_, rfl, _, _, rfl, rfl, by show (0 : Int) < 2147483587; decide, ?_⟩⟩
        exact ⟨_, rfl, .inl ⟨rfl, _, SqL.of ha⟩, _, rfl, _, _, rfl, rfl, ⟨by decide, by decide⟩, .inl ⟨_, rfl, _, _, rfl, rfl, by show (0 : Int) < 1000; decide, p, _, _, rfl, rfl, ha, hlen, fin _ _ _ _⟩⟩
    · rintro σ H1 ⟨rest, ns, vk, vm, rfl, sa, ha, hl, hns⟩
      exact ⟨_, rfl, q H1 p ns sa hp (by rw [hl]; simp) hns ha⟩
theorem ok_same0 {f : Addr} {fd : FuncData} (F : C8.Fun K "_law_same" "_law_same" s__law_same f fd) (T : Txt K mg) : FnOk P w K mg base C8.CX0 1 f fd ["actual", "expected"] (sp_same 0) := by
  refine C8.fn0 F sc__law_same (fun vs H Q E h => ?_) (fun cdv A outer s H vs Q E hr h => ?_)
  · obtain ⟨x, y, rfl, _⟩ := h; rfl
  · obtain ⟨x, y, rfl, ⟨rfl, hsc⟩, q⟩ := h
    refine ⟨_, (pss_cons (ps_if (pt_cmpR op_isN (pv 1) pe_non (nomark _)) (pss_one (ps_ret (pe_cmpR op_isN (pv 0) pe_non (nomark _)))) pss_nil)
      (pss_cons (ps_if (pt_val (pe_callB call_isi (by rfl) T.b_isinstance (by decide +kernel) (pa_cons (pv 1) (pa_cons (pe_bltn (v := .ty "str") (u := .type "str") rfl T.b_str (by decide +kernel) rfl) pa_nil)))) (pss_one (ps_ret (pe_and (pe_callB call_isi (by rfl) T.b_isinstance (by decide +kernel) (pa_cons (pv 0) (pa_cons (pe_bltn (v := .ty "str") (u := .type "str") rfl T.b_str (by decide +kernel) rfl) pa_nil))) (pe_one (pe_cmpR op_eq (pv 0) (pv 1) (nomark _)))))) pss_nil)
      (pss_cons (ps_if (pt_val (pe_callB call_isi (by rfl) T.b_isinstance (by decide +kernel) (pa_cons (pv 1) (pa_cons (pe_bltn (v := .ty "bool") (u := .type "bool") rfl T.b_bool (by decide +kernel) rfl) pa_nil)))) (pss_one (ps_ret (pe_and (pe_callB call_isi (by rfl) T.b_isinstance (by decide +kernel) (pa_cons (pv 0) (pa_cons (pe_bltn (v := .ty "bool") (u := .type "bool") rfl T.b_bool (by decide +kernel) rfl) pa_nil))) (pe_one (pe_cmpR op_eq (pv 0) (pv 1) (nomark _)))))) pss_nil)
      (pss_cons (ps_if (pt_val (pe_callB call_isi (by rfl) T.b_isinstance (by decide +kernel) (pa_cons (pv 1) (pa_cons (pe_bltn (v := .ty "int") (u := .type "int") rfl T.b_int (by decide +kernel) rfl) pa_nil)))) (pss_one (ps_ret (pe_and (pe_callB call_isi (by rfl) T.b_isinstance (by decide +kernel) (pa_cons (pv 0) (pa_cons (pe_bltn (v := .ty "int") (u := .type "int") rfl T.b_int (by decide +kernel) rfl) pa_nil))) (pe_and (pe_not (pe_callB call_isi (by rfl) T.b_isinstance (by decide +kernel) (pa_cons (pv 0) (pa_cons (pe_bltn (v := .ty "bool") (u := .type "bool") rfl T.b_bool (by decide +kernel) rfl) pa_nil)))) (pe_one (pe_cmpR op_eq (pv 0) (pv 1) (nomark _))))))) pss_nil)
      (pss_cons (ps_if (PW.pt (pw_or (pt_not (pt_val (pe_callB call_isi (by rfl) T.b_isinstance (by decide +kernel) (pa_cons (pv 0) (pa_cons (pe_bltn (v := .ty "tuple") (u := .type "tuple") rfl T.b_tuple (by decide +kernel) rfl) pa_nil))))) (pw_or1 (pt_cmpR op_ne (pe_callB call_len_seq (by rfl) T.b_len PySem.boot_len (pa_cons (pv 0) pa_nil)) (pe_callB call_len_seq (by rfl) T.b_len PySem.boot_len (pa_cons (pv 1) pa_nil)) (nomark _))))) (pss_one (ps_ret pe_bl)) pss_nil)
      (pss_cons (ps_for PassesOwn.never rfl (pi_range1 rfl T.b_range (pa_cons (pe_callB call_len_seq (by rfl) T.b_len PySem.boot_len (pa_cons (pv 1) pa_nil)) pa_nil)) (pg_name (i := 2) sc__law_same.nd rfl (Or.inl rfl)) (pss_one (ps_if (pt_not (pt_val pe_never)) (pss_one (ps_ret pe_bl)) pss_nil)))
      (pss_one (ps_ret pe_bl)))))))), ?_⟩
    · cases x with
      | non =>
        refine ⟨_, rfl, rfl, _, rfl, iteT ⟨_, rfl, rfl, q H (Same.refl H)⟩⟩
      | str z =>
        refine ⟨_, rfl, rfl, _, rfl, iteF ⟨_, rfl, _, .ty "str", .type "str", .type "str", true, rfl, .ty _, .base (.str z), kit_ty (by decide +kernel), _, rfl, iteT ?_⟩⟩
        refine ⟨_, rfl, _, .ty "str", .type "str", .type "str", true, rfl, .ty _, .base (.str z), kit_ty (by decide +kernel), _, rfl, iteT ⟨_, rfl, _, rfl, rfl, ?_⟩⟩
        rw [decide_eq_true rfl]; exact q H (Same.refl H)
      | bl z =>
        refine ⟨_, rfl, rfl, _, rfl, iteF ⟨_, rfl, _, .ty "str", .type "bool", .type "str", false, rfl, .ty _, .base (.bl z), kit_ty (by decide +kernel), _, rfl, iteF ?_⟩⟩
        refine ⟨_, rfl, _, .ty "bool", .type "bool", .type "bool", true, rfl, .ty _, .base (.bl z), kit_ty (by decide +kernel), _, rfl, iteT ?_⟩
        refine ⟨_, rfl, _, .ty "bool", .type "bool", .type "bool", true, rfl, .ty _, .base (.bl z), kit_ty (by decide +kernel), _, rfl, iteT ⟨_, rfl, _, rfl, rfl, ?_⟩⟩
        rw [decide_eq_true rfl]; exact q H (Same.refl H)
      | int z =>
        refine ⟨_, rfl, rfl, _, rfl, iteF ⟨_, rfl, _, .ty "str", .type "int", .type "str", false, rfl, .ty _, .base (.int z), kit_ty (by decide +kernel), _, rfl, iteF ?_⟩⟩
        refine ⟨_, rfl, _, .ty "bool", .type "int", .type "bool", false, rfl, .ty _, .base (.int z), kit_ty (by decide +kernel), _, rfl, iteF ?_⟩
        refine ⟨_, rfl, _, .ty "int", .type "int", .type "int", true, rfl, .ty _, .base (.int z), kit_ty (by decide +kernel), _, rfl, iteT ?_⟩
        refine ⟨_, rfl, _, .ty "int", .type "int", .type "int", true, rfl, .ty _, .base (.int z), kit_ty (by decide +kernel), _, rfl, iteT ?_⟩
        refine ⟨_, rfl, _, .ty "bool", .type "int", .type "bool", false, rfl, .ty _, .base (.int z), kit_ty (by decide +kernel), _, rfl, _, rfl, iteT ⟨_, rfl, _, rfl, rfl, ?_⟩⟩
        rw [decide_eq_true rfl]; exact q H (Same.refl H)
      | byt z => cases hsc
      | flt z => cases hsc
      | ref z => cases hsc
      | ty z => cases hsc
theorem ok_sameS {f : Addr} {fd : FuncData} {n k : Nat} (F : C8.Fun K "_law_same" "_law_same" s__law_same f fd) (T : Txt K mg) (c__law_same : C8.Cal P w K mg base k "_law_same" (sp_same n) []) : FnOk P w K mg base C8.CX0 (k + 1) f fd ["actual", "expected"] (sp_same (n + 1)) := by
  refine C8.fn0 F sc__law_same (fun vs H Q E h => ?_) (fun cdv A outer s H vs Q E hr h => ?_)
  · obtain ⟨x, y, rfl, _⟩ := h; rfl
  · obtain ⟨x, y, rfl, hxy, q⟩ := h
    refine ⟨_, (pss_cons (ps_if (pt_cmpR op_isN (pv 1) pe_non (nomark _)) (pss_one (ps_ret (pe_cmpR op_isN (pv 0) pe_non (nomark _)))) pss_nil)
      (pss_cons (ps_if (pt_val (pe_callB call_isi (by rfl) T.b_isinstance (by decide +kernel) (pa_cons (pv 1) (pa_cons (pe_bltn (v := .ty "str") (u := .type "str") rfl T.b_str (by decide +kernel) rfl) pa_nil)))) (pss_one (ps_ret (pe_and (pe_callB call_isi (by rfl) T.b_isinstance (by decide +kernel) (pa_cons (pv 0) (pa_cons (pe_bltn (v := .ty "str") (u := .type "str") rfl T.b_str (by decide +kernel) rfl) pa_nil))) (pe_one (pe_cmpR op_eq (pv 0) (pv 1) (nomark _)))))) pss_nil)
      (pss_cons (ps_if (pt_val (pe_callB call_isi (by rfl) T.b_isinstance (by decide +kernel) (pa_cons (pv 1) (pa_cons (pe_bltn (v := .ty "bool") (u := .type "bool") rfl T.b_bool (by decide +kernel) rfl) pa_nil)))) (pss_one (ps_ret (pe_and (pe_callB call_isi (by rfl) T.b_isinstance (by decide +kernel) (pa_cons (pv 0) (pa_cons (pe_bltn (v := .ty "bool") (u := .type "bool") rfl T.b_bool (by decide +kernel) rfl) pa_nil))) (pe_one (pe_cmpR op_eq (pv 0) (pv 1) (nomark _)))))) pss_nil)
      (pss_cons (ps_if (pt_val (pe_callB call_isi (by rfl) T.b_isinstance (by decide +kernel) (pa_cons (pv 1) (pa_cons (pe_bltn (v := .ty "int") (u := .type "int") rfl T.b_int (by decide +kernel) rfl) pa_nil)))) (pss_one (ps_ret (pe_and (pe_callB call_isi (by rfl) T.b_isinstance (by decide +kernel) (pa_cons (pv 0) (pa_cons (pe_bltn (v := .ty "int") (u := .type "int") rfl T.b_int (by decide +kernel) rfl) pa_nil))) (pe_and (pe_not (pe_callB call_isi (by rfl) T.b_isinstance (by decide +kernel) (pa_cons (pv 0) (pa_cons (pe_bltn (v := .ty "bool") (u := .type "bool") rfl T.b_bool (by decide +kernel) rfl) pa_nil)))) (pe_one (pe_cmpR op_eq (pv 0) (pv 1) (nomark _))))))) pss_nil)
      (pss_cons (ps_if (PW.pt (pw_or (pt_not (pt_val (pe_callB call_isi (by rfl) T.b_isinstance (by decide +kernel) (pa_cons (pv 0) (pa_cons (pe_bltn (v := .ty "tuple") (u := .type "tuple") rfl T.b_tuple (by decide +kernel) rfl) pa_nil))))) (pw_or1 (pt_cmpR op_ne (pe_callB call_len_seq (by rfl) T.b_len PySem.boot_len (pa_cons (pv 0) pa_nil)) (pe_callB call_len_seq (by rfl) T.b_len PySem.boot_len (pa_cons (pv 1) pa_nil)) (nomark _))))) (pss_one (ps_ret pe_bl)) pss_nil)
      (pss_cons (ps_for PassesOwn.never rfl (pi_range1 rfl T.b_range (pa_cons (pe_callB call_len_seq (by rfl) T.b_len PySem.boot_len (pa_cons (pv 1) pa_nil)) pa_nil)) (pg_name (i := 2) sc__law_same.nd rfl (Or.inl rfl)) (pss_one (ps_if (pt_not (pt_val (C8.pe_c c__law_same hr (by first | decide | omega) (by rfl) (pa_cons (pe_ix ix_tup (pv 0) (pv 2) (fun _ _ => rfl)) (pa_cons (pe_ix ix_tup (pv 1) (pv 2) (fun _ _ => rfl)) pa_nil))))) (pss_one (ps_ret pe_bl)) pss_nil)))
      (pss_one (ps_ret pe_bl)))))))), ?_⟩
    rcases hxy with ⟨rfl, hsc⟩ | ⟨a, b, xs, ys, rfl, rfl, ha, hb, hlen, hP⟩
    · cases x with
      | non =>
        refine ⟨_, rfl, rfl, _, rfl, iteT ⟨_, rfl, rfl, q H (Same.refl H)⟩⟩
      | str z =>
        refine ⟨_, rfl, rfl, _, rfl, iteF ⟨_, rfl, _, .ty "str", .type "str", .type "str", true, rfl, .ty _, .base (.str z), kit_ty (by decide +kernel), _, rfl, iteT ?_⟩⟩
        refine ⟨_, rfl, _, .ty "str", .type "str", .type "str", true, rfl, .ty _, .base (.str z), kit_ty (by decide +kernel), _, rfl, iteT ⟨_, rfl, _, rfl, rfl, ?_⟩⟩
        rw [decide_eq_true rfl]; exact q H (Same.refl H)
      | bl z =>
        refine ⟨_, rfl, rfl, _, rfl, iteF ⟨_, rfl, _, .ty "str", .type "bool", .type "str", false, rfl, .ty _, .base (.bl z), kit_ty (by decide +kernel), _, rfl, iteF ?_⟩⟩
        refine ⟨_, rfl, _, .ty "bool", .type "bool", .type "bool", true, rfl, .ty _, .base (.bl z), kit_ty (by decide +kernel), _, rfl, iteT ?_⟩
        refine ⟨_, rfl, _, .ty "bool", .type "bool", .type "bool", true, rfl, .ty _, .base (.bl z), kit_ty (by decide +kernel), _, rfl, iteT ⟨_, rfl, _, rfl, rfl, ?_⟩⟩
        rw [decide_eq_true rfl]; exact q H (Same.refl H)
      | int z =>
        refine ⟨_, rfl, rfl, _, rfl, iteF ⟨_, rfl, _, .ty "str", .type "int", .type "str", false, rfl, .ty _, .base (.int z), kit_ty (by decide +kernel), _, rfl, iteF ?_⟩⟩
        refine ⟨_, rfl, _, .ty "bool", .type "int", .type "bool", false, rfl, .ty _, .base (.int z), kit_ty (by decide +kernel), _, rfl, iteF ?_⟩
        refine ⟨_, rfl, _, .ty "int", .type "int", .type "int", true, rfl, .ty _, .base (.int z), kit_ty (by decide +kernel), _, rfl, iteT ?_⟩
        refine ⟨_, rfl, _, .ty "int", .type "int", .type "int", true, rfl, .ty _, .base (.int z), kit_ty (by decide +kernel), _, rfl, iteT ?_⟩
        refine ⟨_, rfl, _, .ty "bool", .type "int", .type "bool", false, rfl, .ty _, .base (.int z), kit_ty (by decide +kernel), _, rfl, _, rfl, iteT ⟨_, rfl, _, rfl, rfl, ?_⟩⟩
        rw [decide_eq_true rfl]; exact q H (Same.refl H)
      | byt z => cases hsc
      | flt z => cases hsc
      | ref z => cases hsc
      | ty z => cases hsc
    · have el : xs.length = ys.length := hP.length
      refine ⟨_, rfl, rfl, _, rfl, iteF ⟨_, rfl, _, .ty "str", .type "tuple", .type "str", false, rfl, .ty _, .base (.tup hb), kit_ty (by decide +kernel), _, rfl, iteF ?_⟩⟩
      refine ⟨_, rfl, _, .ty "bool", .type "tuple", .type "bool", false, rfl, .ty _, .base (.tup hb), kit_ty (by decide +kernel), _, rfl, iteF ?_⟩
      refine ⟨_, rfl, _, .ty "int", .type "tuple", .type "int", false, rfl, .ty _, .base (.tup hb), kit_ty (by decide +kernel), _, rfl, iteF ?_⟩
      refine ⟨_, rfl, _, .ty "tuple", .type "tuple", .type "tuple", true, rfl, .ty _, .base (.tup ha), kit_ty (by decide +kernel), _, rfl, iteF ?_⟩
      refine ⟨_, rfl, a, xs, rfl, .inr (SqT.of ha), _, rfl, b, ys, rfl, .inr (SqT.of hb), rfl, _, rfl, ?_⟩
      rw [el, decide_eq_true rfl]
      refine iteF ⟨_, rfl, b, ys, rfl, .inr (SqT.of hb), _, rfl, by omega, by omega, for_it walk_range (fun i σ H' => ∃ v2 : Option V, σ = [some (.ref a), some (.ref b), v2] ∧ Same H H') ⟨none, rfl, Same.refl H⟩ (fun _ _ _ _ _ => trivial) ?_ ?_⟩
      · rintro i x σ Ha Hb hi ⟨v2, rfl, sa⟩ ⟨rfl, rfl⟩
        have hi2 : i < ys.length := by simpa using hi
        have hi1 : i < xs.length := by omega
        obtain ⟨y, hy, hsame⟩ := Paired.at hP (List.getElem?_eq_getElem hi1)
        refine ⟨_, rfl, _, rfl, a, xs, _, _, rfl, rfl, SqT.of (sa _ _ ha), at_of (by simp) (List.getElem?_eq_getElem hi1), _, rfl, _, rfl, b, ys, _, _, rfl, rfl, SqT.of (sa _ _ hb), at_of (by simp) hy, _, _, rfl, SameD.mono sa hsame, fun H2 s2 => ⟨_, rfl, iteF ⟨_, rfl, sa.trans s2⟩⟩⟩
      · rintro σ H1 ⟨v2, rfl, sa⟩
        exact q H1 sa
end
end RJ
end

section
set_option maxRecDepth 100000
set_option maxHeartbeats 4000000
namespace RJ
open PySem PySem.Spec PyProof.Rows L2
abbrev s__law_join_all : Stmt := top 38
abbrev N__law_join_all : List Str := ["row", "pair", "made", "joined", "gone", "k"]
theorem sc__law_join_all : FnScope N__law_join_all ["row", "pair", "made"] (C8.fnScope s__law_join_all) := C8.fnScope_by (by decide +kernel)
abbrev s__law_staged : Stmt := top 39
abbrev N__law_staged : List Str := ["many", "pairs", "row", "rank"]
theorem sc__law_staged : FnScope N__law_staged ["many", "pairs", "row"] (C8.fnScope s__law_staged) := C8.fnScope_by (by decide +kernel)
abbrev s__law_letters : Stmt := top 40
abbrev N__law_letters : List Str := ["alphabet", "text", "sign"]
theorem sc__law_letters : FnScope N__law_letters ["alphabet", "text"] (C8.fnScope s__law_letters) := C8.fnScope_by (by decide +kernel)
/-! ### the alphabet -/
/-- the signs that are drawn: all from blank to tilde but one -/
def SG : List Nat := ((List.range 127).drop 32).filter fun c => c != 37
theorem SG_len : SG.length = 94 := by decide +kernel
theorem SG_in : ∀ c ∈ SG, 32 ≤ c ∧ c ≤ 126 := by decide +kernel
/-- signs as values -/
def sv (ls : List Nat) : List Str := ls.map fun c => S [c]
theorem sv_inj {a b : Nat} (h : S [a] = S [b]) : a = b := by
  have := S_inj h
  exact List.head_eq_of_cons_eq this
theorem in_sv {c : Nat} {ls : List Nat} : inV (.str (S [c])) ((sv ls).map V.str) = decide (c ∈ ls) := by
  unfold inV sv
  rw [List.map_map, List.any_map]
  induction ls with
  | nil => rfl
  | cons d ls ih =>
    rw [List.any_cons, ih]
    show ((S [d] == S [c]) || decide (c ∈ ls)) = _
    by_cases h : d = c
    · subst h
      rw [beq_self_eq_true, Bool.true_or, decide_eq_true (List.mem_cons_self ..)]
    · rw [beq_eq_false_iff_ne.mpr fun e => h (sv_inj e), Bool.false_or]
      exact decide_eq_decide.mpr ⟨List.mem_cons_of_mem _, fun z => (List.mem_cons.mp z).resolve_left fun e => h e.symm⟩
theorem flat_sv (ls : List Nat) : ((sv ls).map V.str).all flatV = true := by
  unfold sv
  rw [List.map_map, List.all_map]
  exact List.all_eq_true.mpr fun _ _ => rfl
def hd1 (z : Str) : Nat := z.cps.toList.headD 0
theorem sv_perm {ys : List Str} {ls : List Nat} (h : ys.Perm (sv ls)) : ∃ al, ys = sv al ∧ al.Perm ls := by
  refine ⟨ys.map hd1, ?_, ?_⟩
  · unfold sv
    rw [List.map_map]
    conv => lhs; rw [← List.map_id ys]
    refine List.map_congr_left fun y hy => ?_
    obtain ⟨c, _, rfl⟩ := List.mem_map.mp (h.mem_iff.mp hy)
    rfl
  · have := h.map hd1
    unfold sv at this
    rw [List.map_map] at this
    have e : List.map (hd1 ∘ fun c => S [c]) ls = ls := by
      conv => rhs; rw [← List.map_id ls]
      exact List.map_congr_left fun c _ => rfl
    rw [e] at this; exact this
theorem asc_sorted : ∀ {al : List Nat}, sortedS (sv al) = true → al.Nodup → (ascL al).all id = true
  | [], _, _ => rfl
  | [_], _, _ => rfl
  | a :: b :: al, h, hn => by
    have h' : (!ltCps (S [b]).cps.toList (S [a]).cps.toList && risingS (S [b]) (sv al)) = true := h
    rw [Bool.and_eq_true, Bool.not_eq_true'] at h'
    have ih : (ascL (b :: al)).all id = true := asc_sorted (al := b :: al) h'.2 (List.nodup_cons.mp hn).2
    have hab : a ≠ b := fun e => (List.nodup_cons.mp hn).1 (e ▸ List.mem_cons_self ..)
    have hlt : a < b := by
      have h1 : ltCps [b] [a] = false := h'.1
      have h2 : ¬ b < a := fun z => by
        have : ltCps [b] [a] = true := by simp [ltCps, z]
        rw [this] at h1; cases h1
      omega
    show ((decide (a < b) :: ascL (b :: al)).all id) = true
    rw [List.all_cons, ih, decide_eq_true hlt]; rfl
theorem alOk_of {al : List Nat} (h1 : (ascL al).all id = true) (h2 : ∀ c ∈ al, c ∈ SG) (h3 : 1 ≤ al.length) (h4 : al.length ≤ 30) : alOk al = true := by
  unfold alOk
  rw [decide_eq_true ⟨h3, h4⟩, h1, Bool.true_and, Bool.true_and, List.all_map]
  exact List.all_eq_true.mpr fun c hc => decide_eq_true (SG_in c (h2 c hc))
theorem flat1 (al : List Nat) : (al.map fun c => [c]).flatten = al := by
  induction al with
  | nil => rfl
  | cons a al ih => rw [List.map_cons, List.flatten_cons, ih]; rfl
theorem join1 (al : List Nat) : PySem.Txt.join (S []) (sv al) = S al := by
  have e : sv al = (al.map fun c => [c]).map SX.S := by unfold sv; rw [List.map_map]; rfl
  rw [e, SX.join_S, joinL_nil, flat1]
theorem sum1 (al : List Nat) : ((sv al).map (·.length)).sum = al.length := by
  induction al with
  | nil => rfl
  | cons a al ih =>
    show (S [a]).length + ((sv al).map (·.length)).sum = _
    rw [ih, S_len, List.length_cons, List.length_cons, List.length_nil]; omega
def sp_alphabet : Sp := fun vs H Q _ => ∃ (p : Addr) (ns : List Nat) (k m : Nat), vs = [.ref p, .int (k : Int), .int (m : Int)] ∧ H p = some (.lst (iv ns)) ∧ k + m ≤ ns.length ∧ ns.length ≤ 1000 ∧ 1 ≤ m ∧ m ≤ 30 ∧
  ∀ H' al, Same H H' → alOk al = true → al.Nodup → 1 ≤ al.length → al.length ≤ 30 → ((∀ c ∈ al, c ∈ SG) ∧ al.length ≤ m) → Q (.str (S al)) H'
def sp_join_all : Sp := fun vs H Q _ => ∃ (p pr : Addr) (row : List Nat) (l r m : Nat), vs = [.ref p, .ref pr, .int (m : Int)] ∧ H p = some (.lst (iv row)) ∧ H pr = some (.tup (iv [l, r])) ∧ row.length ≤ 1000 ∧
  ∀ H' z, Same H H' → H z = none → H' z = some (.lst (iv (pass l r m row))) → Q (.ref z) H'
def nextAt (gone : Bool) (i : Nat) : Nat := bif gone then i + 1 else i
theorem shaped_ivT (l : List Nat) : SeqAt.shaped (.tuple (l.map fun (n : Nat) => PyData.int (n : Int))) = true := by
  have := shaped_iv l
  exact this
section
variable {P : Program} {w : World} {K : PySem.W.Frag} {mg : Str → Option Value} {base : Heap}
theorem ok_alphabet {f : Addr} {fd : FuncData} (F : C8.Fun K "_law_alphabet" "_law_alphabet" s__law_alphabet f fd) (T : Txt K mg) : FnOk P w K mg base C8.CX0 1 f fd ["numbers", "k", "many"] sp_alphabet := by
  refine C8.fn0 F sc__law_alphabet (fun vs H Q E h => ?_) (fun cdv A outer s H vs Q E hr h => ?_)
  · obtain ⟨p, ns, k, m, rfl, _⟩ := h; rfl
  · obtain ⟨p, ns, k, m, rfl, hp, hkm, hns, hm1, hm2, q⟩ := h
    refine ⟨_, (pss_cons (ps_set (i := 3) sc__law_alphabet.nd rfl (Or.inl rfl) pe_str)
      (pss_cons (ps_set (i := 3) sc__law_alphabet.nd rfl (Or.inl rfl) (pe_op op_add_str (pv 3) pe_str))
      (pss_cons (ps_set (i := 4) sc__law_alphabet.nd rfl (Or.inl rfl) (pe_lst pa_nil))
      (pss_cons (ps_for PassesOwn.never rfl (pi_range1 rfl T.b_range (pa_cons (pv 2) pa_nil)) (pg_name (i := 5) sc__law_alphabet.nd rfl (Or.inl rfl)) (pss_cons (ps_set (i := 6) sc__law_alphabet.nd rfl (Or.inl rfl) (pe_ix ix_str (pv 3) (pe_op op_mod (pe_callTy call_int1 (by rfl) T.b_int (by decide +kernel) (pa_cons (pe_ix ix_list (pv 0) (pe_op op_add (pv 1) (pv 5)) (fun _ _ => rfl)) pa_nil)) (pe_callB call_len_str (by rfl) T.b_len PySem.boot_len (pa_cons (pv 3) pa_nil))) (fun _ _ => rfl)))
      (pss_one (ps_if (pt_cmpR op_notIn_seq (pv 6) (pv 4) (by rfl)) (pss_one (ps_expr (pe_bm PySem.F.plainAttrs_list PySem.F.slot_list_append PySem.F.type_list_append mt_append (pv 4) (pa_cons (pv 6) pa_nil)))) pss_nil))))
      (pss_one (ps_ret (pe_join pe_str (pe_callB cr_sortedS (by rfl) T.b_sorted (by decide +kernel) (pa_cons (pv 4) pa_nil))))))))), ?_⟩
    refine ⟨_, rfl, _, _, rfl, rfl, by decide +kernel, ?_⟩
    refine ⟨Nat.zero_le _, fun D hD => ?_⟩
    refine ⟨_, rfl, _, rfl, by omega, by omega, for_it walk_range (fun i σ H' => ∃ (ls : List Nat) (v5 v6 : Option V), σ = [some (.ref p), some (.int (k : Int)), some (.int (m : Int)), some (.str (S SG)), some (.ref D), v5, v6] ∧ Same H H' ∧ H' D = some (.lst ((sv ls).map V.str)) ∧ ls.Nodup ∧ (∀ c ∈ ls, c ∈ SG) ∧ ls.length ≤ i ∧ (0 < i → 0 < ls.length))
      ⟨[], none, none, ?_, same_new hD, upd_same, .nil, fun c hc => (List.not_mem_nil hc).elim, Nat.le_refl _, fun h => h⟩ (fun _ _ _ _ _ => trivial) ?_ ?_⟩
    · exact congrArg (fun z : Str => [some (V.ref p), some (.int (k : Int)), some (.int (m : Int)), some (.str z), some (.ref D), none, none]) (by decide +kernel : _ = S SG)
    · rintro i x σ Ha Hb hi ⟨ls, v5, v6, rfl, sa, hD', hnd, hin, hle, hpos⟩ ⟨rfl, rfl⟩
      have him : i < m := by simpa using hi
      obtain ⟨n, hn⟩ : ∃ n, ns[k + (0 + i)]? = some n := ⟨_, List.getElem?_eq_getElem (by omega)⟩
      have hp' : Hb p = some (.lst (iv ns)) := sa _ _ hp
      obtain ⟨c, hc⟩ : ∃ c, SG[n % 94]? = some c := ⟨_, List.getElem?_eq_getElem (by rw [SG_len]; omega)⟩
      refine ⟨_, rfl, _, rfl, _, rfl, _, rfl, _, _, rfl, rfl, p, _, _, _, rfl, rfl, SqL.of hp', atI_nat (iv_at hn), .inl ⟨_, rfl, _, rfl, S SG, rfl, by decide +kernel, _, _, rfl, rfl, (by rw [S_len, SG_len]; omega : (0 : Int) < ((S SG).length : Int)), S SG, _, c, rfl, rfl, by decide +kernel, ?_, ?_⟩⟩
      · have e : ((n : Int) % ((S SG).length : Int)) = ((n % 94 : Nat) : Int) := by rw [S_len, SG_len]; omega
        rw [e]
        exact atI_nat hc
      · refine ⟨_, rfl, _, rfl, D, _, rfl, .inl (SqL.of hD'), rfl, flat_sv ls, !decide (c ∈ ls), ?_, ?_⟩
        · exact congrArg (fun b : Bool => V.bl !b) in_sv
        · by_cases hcl : c ∈ ls
          · rw [decide_eq_true hcl]
            exact iteF ⟨ls, _, _, rfl, sa, hD', hnd, hin, by omega, fun _ => List.length_pos_of_mem hcl⟩
          · rw [decide_eq_false hcl]
            refine iteT ⟨_, rfl, .inl ⟨rfl, _, SqL.of hD'⟩, _, rfl, D, _, _, rfl, rfl, hD', ?_, ls ++ [c], _, _, rfl, Same.put sa hD, ?_, ?_, ?_, ?_, fun _ => ?_⟩
            · unfold sv; rw [List.length_map, List.length_map]; exact small1000 (by omega)
            · rw [upd_same]; unfold sv; rw [List.map_append, List.map_append]; rfl
            · exact List.nodup_append.mpr ⟨hnd, by simp, fun x hx y hy z => hcl (by rw [List.mem_singleton.mp hy] at z; exact z ▸ hx)⟩
            · intro x hx
              rcases List.mem_append.mp hx with z | z
              · exact hin x z
              · rw [List.mem_singleton.mp z]; exact List.mem_of_getElem? hc
            · rw [List.length_append, List.length_singleton]; omega
            · rw [List.length_append, List.length_singleton]; omega
    · rintro σ H1 ⟨ls, v5, v6, rfl, sa, hD', hnd, hin, hle, hpos⟩
      have hle' : ls.length ≤ m := by simpa using hle
      refine ⟨⟨_, rfl⟩, _, rfl, D, sv ls, rfl, SqL.of hD', by unfold sv; rw [List.length_map]; omega, fun ys D2 hperm hsort hD2 => ?_⟩
      obtain ⟨al, rfl, hal⟩ := sv_perm hperm
      have hlen := hal.length_eq
      have hnd' : al.Nodup := hal.nodup_iff.mpr hnd
      have hin' : ∀ c ∈ al, c ∈ SG := fun c hc => hin c (hal.mem_iff.mp hc)
      have h1 : 1 ≤ al.length := by rw [hlen]; exact hpos (by simp; omega)
      refine ⟨S [], D2, sv al, rfl, rfl, .inl (SqL.of upd_same), ?_, ?_⟩
      · rw [sum1, S_len]; simp only [List.length_nil, Nat.mul_zero, Nat.add_zero]; omega
      · rw [join1]
        exact q _ al (Same.new sa hD2) (alOk_of (asc_sorted hsort hnd') hin' h1 (by omega)) hnd' h1 (by omega) ⟨hin', by omega⟩
theorem ok_join_all {f : Addr} {fd : FuncData} (F : C8.Fun K "_law_join_all" "_law_join_all" s__law_join_all f fd) (T : Txt K mg) : FnOk P w K mg base C8.CX0 1 f fd ["row", "pair", "made"] sp_join_all := by
  refine C8.fn0 F sc__law_join_all (fun vs H Q E h => ?_) (fun cdv A outer s H vs Q E hr h => ?_)
  · obtain ⟨p, q, row, l, r, m, rfl, _⟩ := h; rfl
  · obtain ⟨p, pr, row, l, r, m, rfl, hp, hpr, hrow, q⟩ := h
    have hu64 := hu64_of hr
    refine ⟨_, (pss_cons (ps_set (i := 3) sc__law_join_all.nd rfl (Or.inl rfl) (pe_lst pa_nil))
      (pss_cons (ps_set (i := 4) sc__law_join_all.nd rfl (Or.inl rfl) pe_bl)
      (pss_cons (ps_for PassesOwn.never rfl (pi_range1 rfl T.b_range (pa_cons (pe_callB call_len_seq (by rfl) T.b_len PySem.boot_len (pa_cons (pv 0) pa_nil)) pa_nil)) (pg_name (i := 5) sc__law_join_all.nd rfl (Or.inl rfl)) (pss_one (ps_if (pt_val (pv 4)) (pss_one (ps_set (i := 4) sc__law_join_all.nd rfl (Or.inl rfl) pe_bl)) (pss_one (ps_if (PW.pt (pw_and (pt_cmpR op_lt (pe_op op_add (pv 5) pe_int) (pe_callB call_len_seq (by rfl) T.b_len PySem.boot_len (pa_cons (pv 0) pa_nil)) (nomark _)) (pw_and1 (pt_cmpR (op_eqD hu64) (pe_tup (pa_cons (pe_ix ix_list (pv 0) (pv 5) (fun _ _ => rfl)) (pa_cons (pe_ix ix_list (pv 0) (pe_op op_add (pv 5) pe_int) (fun _ _ => rfl)) pa_nil))) (pv 1) (nomark _))))) (pss_cons (ps_expr (pe_bm PySem.F.plainAttrs_list PySem.F.slot_list_append PySem.F.type_list_append mt_append (pv 3) (pa_cons (pv 2) pa_nil)))
      (pss_one (ps_set (i := 4) sc__law_join_all.nd rfl (Or.inl rfl) pe_bl))) (pss_one (ps_expr (pe_bm PySem.F.plainAttrs_list PySem.F.slot_list_append PySem.F.type_list_append mt_append (pv 3) (pa_cons (pe_ix ix_list (pv 0) (pv 5) (fun _ _ => rfl)) pa_nil)))))))))
      (pss_one (ps_ret (pv 3)))))), ?_⟩
    refine ⟨Nat.zero_le _, fun D hD => ?_⟩
    have hpD : ∀ H', Same H H' → H' p = some (.lst (iv row)) := fun H' s => s _ _ hp
    refine ⟨_, rfl, p, _, rfl, .inl (SqL.of ((same_new hD) _ _ hp)), _, rfl, by rw [iv_len]; omega, by rw [iv_len]; omega, for_it walk_range (fun i σ H' => ∃ (js : List Nat) (gone : Bool) (v5 : Option V), σ = [some (.ref p), some (.ref pr), some (.int (m : Int)), some (.ref D), some (.bl gone), v5] ∧ Same H H' ∧ H' D = some (.lst (iv js)) ∧
        js ++ pass l r m (row.drop (nextAt gone i)) = pass l r m row ∧ js.length ≤ i)
      ⟨[], false, none, rfl, same_new hD, upd_same, rfl, Nat.le_refl _⟩ (fun _ _ _ _ _ => trivial) ?_ ?_⟩
    · rintro i x σ Ha Hb hi ⟨js, gone, v5, rfl, sa, hD', hjs, hle⟩ ⟨rfl, hx⟩
      obtain rfl : x = V.int (i : Int) := hx.trans (congrArg V.int (Int.zero_add _))
      have hin : i < row.length := by rw [iv_len] at hi; simpa using hi
      obtain ⟨a, ha⟩ : ∃ a, row[i]? = some a := ⟨_, List.getElem?_eq_getElem hin⟩
      have hp' : Hb p = some (.lst (iv row)) := sa _ _ hp
      have hdrop : row.drop i = a :: row.drop (i + 1) := by rw [List.drop_eq_getElem_cons hin]; rw [List.getElem?_eq_getElem hin] at ha; rw [Option.some.inj ha]
      cases gone with
      | true => exact ⟨_, rfl, _, rfl, iteT ⟨js, false, _, rfl, sa, hD', hjs, by omega⟩⟩
      | false =>
        have hdj : js ++ pass l r m (a :: row.drop (i + 1)) = pass l r m row := by rw [← hdrop]; exact hjs
        refine ⟨_, rfl, _, rfl, iteF ⟨_, rfl, _, _, rfl, rfl, _, rfl, p, _, rfl, .inl (SqL.of hp'), _, _, rfl, rfl, _, rfl, ?_⟩⟩
        have keep : (∀ t, row.drop (i + 1) = r :: t → a ≠ l) → js ++ a :: pass l r m (row.drop (i + 1)) = pass l r m row := fun h => by
          rw [← hdj]
          cases e : row.drop (i + 1) with
          | nil => rfl
          | cons b t =>
            rw [pass, if_neg]
            rintro ⟨h1, rfl⟩
            exact h t e h1
        by_cases hlt : i + 1 < row.length
        · rw [iv_len, decide_eq_true (by omega : (i : Int) + 1 < (row.length : Int))]
          obtain ⟨b, hb⟩ : ∃ b, row[i + 1]? = some b := ⟨_, List.getElem?_eq_getElem hlt⟩
          have hdrop2 : row.drop (i + 1) = b :: row.drop (i + 2) := by rw [List.drop_eq_getElem_cons hlt]; rw [List.getElem?_eq_getElem hlt] at hb; rw [Option.some.inj hb]
          refine iteT ⟨_, rfl, _, rfl, p, _, _, _, rfl, rfl, SqL.of hp', atI_nat (iv_at ha), _, rfl, _, rfl, _, _, rfl, rfl, p, _, _, _, rfl, rfl, SqL.of hp', atI_nat (iv_at hb), by show 2 ≤ sizeLine; decide, fun z hz => ?_⟩
          have sz : Same H (upd Hb z (.tup (iv [a, b]))) := Same.new sa hz
          have hDz : (upd Hb z (.tup (iv [a, b]))) D = some (.lst (iv js)) := (upd_ne (ne_of_none hD' hz)).trans hD'
          have hpz : (upd Hb z (.tup (iv [a, b]))) p = some (.lst (iv row)) := sz _ _ hp
          refine ⟨_, rfl, .tuple _, .tuple _, .tup (SqT.of upd_same) (iv_dp [a, b]), .tup (SqT.of (sz _ _ hpr)) (iv_dp [l, r]), shaped_ivT [a, b], shaped_ivT [l, r], _, rfl, ?_⟩
          have ec : PyData.eqv (.tuple ([a, b].map fun (n : Nat) => PyData.int (n : Int))) (.tuple ([l, r].map fun (n : Nat) => PyData.int (n : Int))) = decide ([a, b] = [l, r]) := by rw [PyData.eqv, eqv_iv]
          by_cases hc : [a, b] = [l, r]
          · rw [decide_eq_true hc] at ec
            have e1 : a = l := (List.cons.inj hc).1
            have e2 : b = r := (List.cons.inj (List.cons.inj hc).2).1
            subst e1 e2
            rw [ec]
            refine iteT ⟨_, rfl, .inl ⟨rfl, _, SqL.of hDz⟩, _, rfl, D, _, _, rfl, rfl, hDz, ?_, js ++ [m], true, _, rfl, Same.put sz hD, ?_, ?_, ?_⟩
            · rw [iv_len]; exact small1000 (by omega)
            · rw [upd_same, iv_snoc]
            · rw [← hdj, hdrop2, pass, if_pos ⟨rfl, rfl⟩, List.append_assoc]; rfl
            · rw [List.length_append, List.length_singleton]; omega
          · rw [decide_eq_false hc] at ec
            rw [ec]
            refine iteF ⟨_, rfl, .inl ⟨rfl, _, SqL.of hDz⟩, _, rfl, _, rfl, p, _, _, _, rfl, rfl, SqL.of hpz, atI_nat (iv_at ha), D, _, _, rfl, rfl, hDz, ?_, js ++ [a], false, _, rfl, Same.put sz hD, ?_, ?_, ?_⟩
            · rw [iv_len]; exact small1000 (by omega)
            · rw [upd_same, iv_snoc]
            · rw [← keep (fun t e h => by rw [hdrop2] at e; exact hc (by rw [h, (List.cons.inj e).1])), List.append_assoc]; rfl
            · rw [List.length_append, List.length_singleton]; omega
        · rw [iv_len, decide_eq_false (by omega : ¬ (i : Int) + 1 < (row.length : Int))]
          refine iteF (iteF ⟨_, rfl, .inl ⟨rfl, _, SqL.of hD'⟩, _, rfl, _, rfl, p, _, _, _, rfl, rfl, SqL.of hp', atI_nat (iv_at ha), D, _, _, rfl, rfl, hD', ?_, js ++ [a], false, _, rfl, Same.put sa hD, ?_, ?_, ?_⟩)
          · rw [iv_len]; exact small1000 (by omega)
          · rw [upd_same, iv_snoc]
          · rw [← keep (fun t e => by rw [List.drop_eq_nil_of_le (by omega)] at e; cases e), List.append_assoc]; rfl
          · rw [List.length_append, List.length_singleton]; omega
    · rintro σ H1 ⟨js, gone, v5, rfl, sa, hD', hjs, hle⟩
      refine ⟨_, rfl, q _ D sa hD ?_⟩
      have e : row.drop (nextAt gone ((iv row).length : Int).toNat) = [] := by
        apply List.drop_eq_nil_of_le
        rw [Int.toNat_natCast, iv_len]
        cases gone
        · exact Nat.le_refl _
        · exact Nat.le_succ _
      rw [e] at hjs
      rw [← hjs]
      show _ = some (HO.lst (iv (js ++ [])))
      rw [List.append_nil]; exact hD'
end
end RJ
end

section
set_option maxRecDepth 100000
set_option maxHeartbeats 4000000
namespace RJ
open PySem PySem.Spec PyProof.Rows L2
abbrev s__law_is_proper : Stmt := top 41
abbrev N__law_is_proper : List Str := ["alphabet", "texts", "pairs", "pair", "piece", "text"]
theorem sc__law_is_proper : FnScope N__law_is_proper ["alphabet", "texts", "pairs", "pair"] (C8.fnScope s__law_is_proper) := C8.fnScope_by (by decide +kernel)
abbrev s__law_list : Stmt := top 42
abbrev N__law_list : List Str := ["numbers", "k", "alphabet", "many", "pairs", "texts", "j", "pair"]
theorem sc__law_list : FnScope N__law_list ["numbers", "k", "alphabet", "many"] (C8.fnScope s__law_list) := C8.fnScope_by (by decide +kernel)
theorem Paired.both {α β : Type} {F : α → β → Prop} : ∀ {as : List α} {bs : List β} {i : Nat}, Paired F as bs → i < bs.length → ∃ a b, as[i]? = some a ∧ bs[i]? = some b ∧ F a b
  | _, _, _, .nil, h => absurd h (Nat.not_lt_zero _)
  | _, _, 0, .cons f _, _ => ⟨_, _, rfl, rfl, f⟩
  | _, _, i + 1, .cons _ t, h => Paired.both (i := i) t (Nat.lt_of_succ_lt_succ h)
def sp_staged : Sp := fun vs H Q _ => ∃ (p z : Addr) (us : List V) (ps : List (Nat × Nat)) (row : List Nat) (b : Nat), vs = [.int (b : Int), .ref p, .ref z] ∧ H p = some (.lst us) ∧ PairsAt H us ps ∧ H z = some (.lst (iv row)) ∧ row.length ≤ 1000 ∧ ps.length ≤ 1000 ∧
  ∀ H' y, Same H H' → H' y = some (.lst (iv (cutL b ps row))) → Q (.ref y) H'
def sp_is_proper : Sp := fun vs H Q _ => ∃ (al : List Nat) (tx pp pr : Addr) (us : List V) (ps : List (Nat × Nat)) (a b : Nat), vs = [.str (S al), .ref tx, .ref pp, .ref pr] ∧ H tx = some (.lst (strV (textsOf al ps))) ∧ H pp = some (.lst us) ∧ PairsAt H us ps ∧
  H pr = some (.tup (iv [a, b])) ∧ Proper al ps ∧ al.length ≤ 1000 ∧ ps.length ≤ 1000 ∧ a < (textsOf al ps).length ∧ b < (textsOf al ps).length ∧ ∀ H', Same H H' → Q (.bl (decide (okP al (textsOf al ps) ps (a, b)))) H'
section
variable {P : Program} {w : World} {K : PySem.W.Frag} {mg : Str → Option Value} {base : Heap}
theorem ok_staged {f : Addr} {fd : FuncData} (F : C8.Fun K "_law_staged" "_law_staged" s__law_staged f fd) (T : Txt K mg) (c__law_join_all : C8.Cal P w K mg base 1 "_law_join_all" sp_join_all []) : FnOk P w K mg base C8.CX0 2 f fd ["many", "pairs", "row"] sp_staged := by
  refine C8.fn0 F sc__law_staged (fun vs H Q E h => ?_) (fun cdv A outer s H vs Q E hr h => ?_)
  · obtain ⟨p, z, us, ps, row, b, rfl, _⟩ := h; rfl
  · obtain ⟨p, z, us, ps, row, b, rfl, hp, hps, hz, hrow, hpl, q⟩ := h
    refine ⟨_, (pss_cons (ps_for PassesOwn.never rfl (pi_range1 rfl T.b_range (pa_cons (pe_callB call_len_seq (by rfl) T.b_len PySem.boot_len (pa_cons (pv 1) pa_nil)) pa_nil)) (pg_name (i := 3) sc__law_staged.nd rfl (Or.inl rfl)) (pss_one (ps_set (i := 2) sc__law_staged.nd rfl (Or.inl rfl) (C8.pe_c c__law_join_all hr (by first | decide | omega) (by rfl) (pa_cons (pv 2) (pa_cons (pe_ix ix_list (pv 1) (pv 3) (fun _ _ => rfl)) (pa_cons (pe_op op_add (pv 0) (pv 3)) pa_nil)))))))
      (pss_one (ps_ret (pv 2)))), ?_⟩
    have hul : us.length = ps.length := hps.length
    refine ⟨_, rfl, p, _, rfl, .inl (SqL.of hp), _, rfl, by omega, by omega, for_it walk_range (fun i σ H' => ∃ (y : Addr) (v3 : Option V), σ = [some (.int (b : Int)), some (.ref p), some (.ref y), v3] ∧ Same H H' ∧ H' y = some (.lst (iv (cutL b (ps.take i) row))))
      ⟨z, none, rfl, Same.refl H, hz⟩ (fun _ _ _ _ _ => trivial) ?_ ?_⟩
    · rintro i x σ Ha Hb hi ⟨y, v3, rfl, sa, hy⟩ ⟨rfl, hx⟩
      obtain rfl : x = V.int (i : Int) := hx.trans (congrArg V.int (Int.zero_add _))
      have hil : i < ps.length := by rw [← hul]; simpa using hi
      obtain ⟨u, pr, hu, hpr, a, rfl, ha⟩ := Paired.both hps hil
      have hlen := cutL_len b (ps.take i) row
      refine ⟨_, rfl, _, rfl, _, rfl, p, us, _, _, rfl, rfl, SqL.of (sa _ _ hp), atI_nat hu, _, rfl, _, rfl, _, _, rfl, rfl, y, a, _, pr.1, pr.2, b + i, rfl, hy, sa _ _ ha, by omega, fun H2 y2 s2 _ hy2 => ?_⟩
      refine ⟨y2, _, rfl, sa.trans s2, ?_⟩
      rw [take_succ_of hpr, cutL_snoc, take_len_of hpr]; exact hy2
    · rintro σ H1 ⟨y, v3, rfl, sa, hy⟩
      refine ⟨_, rfl, q _ y sa ?_⟩
      rw [hul] at hy
      simpa using hy
theorem ok_letters {f : Addr} {fd : FuncData} (F : C8.Fun K "_law_letters" "_law_letters" s__law_letters f fd) (T : Txt K mg) : FnOk P w K mg base C8.CX0 1 f fd ["alphabet", "text"] sp_letter_row := by
  refine C8.fn0 F sc__law_letters (fun vs H Q E h => ?_) (fun cdv A outer s H vs Q E hr h => ?_)
  · obtain ⟨al, t, rfl, _⟩ := h; rfl
  · obtain ⟨al, t, rfl, hin, hl, q⟩ := h
    refine ⟨_, (pss_one (ps_ret (pe_lc (te := tBM K "str" _ (tVar 0) (tCons (tVar 2) tNil)) (own := [("sign", 2)]) (g := gName 2) (tt := tYes) rfl sc__law_letters.nd (pi_str (pv 1)) (blkOk_by (N := N__law_letters) (sc := C8.fnScope s__law_letters) (by decide +kernel)) (fun _ _ _ _ _ => (pg_name (i := 2) sc__law_letters.nd rfl (Or.inl rfl))) (fun _ _ _ _ _ => pts_nil) (fun _ _ _ _ _ => (pe_bm PySem.F.plainAttrs_str PySem.F.slot_str_index PySem.F.type_str_index mt_sindex (pv 0) (pa_cons (pv 2) pa_nil)))))), ?_⟩
    refine ⟨_, rfl, S t, rfl, fun D hD => lc_it walk_str (fun i H' => Same H H' ∧ H' D = some (.lst (iv (lets al (t.take i))))) ⟨same_new hD, upd_same⟩ (fun _ _ _ _ => trivial) ?_ ?_⟩
    · rintro i x Ha Hb hi ⟨sa, ha⟩ ⟨rfl, c, hc, rfl⟩
      rw [S_get] at hc
      obtain ⟨r, hfind⟩ := find_sign (hin c (List.mem_of_getElem? hc))
      refine ⟨rfl, _, rfl, rfl, _, rfl, S al, S [c], al.idxOf c, r, rfl, rfl, hfind, _, ha, ?_, Same.put sa hD, ?_⟩
      · rw [iv_len, lets, List.length_map, List.length_take]; exact small1000 (by omega)
      · rw [upd_same, iv_snoc, lets, lets, map_take_succ hc]
    · rintro H1 ⟨s1, h1⟩
      rw [S_size, List.take_length] at h1
      exact q H1 D s1 hD h1
theorem ok_is_proper {f : Addr} {fd : FuncData} (F : C8.Fun K "_law_is_proper" "_law_is_proper" s__law_is_proper f fd) (T : Txt K mg) (c__law_staged : C8.Cal P w K mg base 2 "_law_staged" sp_staged []) (c__law_letters : C8.Cal P w K mg base 1 "_law_letters" sp_letter_row []) : FnOk P w K mg base C8.CX0 3 f fd ["alphabet", "texts", "pairs", "pair"] sp_is_proper := by
  refine C8.fn0 F sc__law_is_proper (fun vs H Q E h => ?_) (fun cdv A outer s H vs Q E hr h => ?_)
  · obtain ⟨al, tx, pp, pr, us, ps, a, b, rfl, _⟩ := h; rfl
  · obtain ⟨al, tx, pp, pr, us, ps, a, b, rfl, htx, hpp, hps, hpr, hprop, hal, hpl, ha, hb, q⟩ := h
    have hu64 := hu64_of hr
    refine ⟨_, (pss_cons (ps_for PassesOwn.never rfl (pi_seq (pv 3)) (pg_name (i := 4) sc__law_is_proper.nd rfl (Or.inl rfl)) (pss_one (ps_if (pt_not (pt_chain op_le op_lt pe_int (pv 4) (pe_callB call_len_seq (by rfl) T.b_len PySem.boot_len (pa_cons (pv 1) pa_nil)))) (pss_one (ps_ret pe_bl)) pss_nil)))
      (pss_cons (ps_set (i := 5) sc__law_is_proper.nd rfl (Or.inl rfl) (pe_op op_add_str (pe_ix ix_list (pv 1) (pe_ix ix_tup (pv 3) pe_int (fun _ _ => rfl)) (fun _ _ => rfl)) (pe_ix ix_list (pv 1) (pe_ix ix_tup (pv 3) pe_int (fun _ _ => rfl)) (fun _ _ => rfl))))
      (pss_cons (ps_if (pt_cmpR op_gt (pe_callB call_len_str (by rfl) T.b_len PySem.boot_len (pa_cons (pv 5) pa_nil)) pe_int (nomark _)) (pss_one (ps_ret pe_bl)) pss_nil)
      (pss_one (ps_ret (pe_cmpR (op_eqD hu64) (C8.pe_c c__law_staged hr (by first | decide | omega) (by rfl) (pa_cons (pe_callB call_len_str (by rfl) T.b_len PySem.boot_len (pa_cons (pv 0) pa_nil)) (pa_cons (pv 2) (pa_cons (C8.pe_c c__law_letters hr (by first | decide | omega) (by rfl) (pa_cons (pv 0) (pa_cons (pv 5) pa_nil))) pa_nil)))) (pe_lst (pa_cons (pe_ix ix_tup (pv 3) pe_int (fun _ _ => rfl)) (pa_cons (pe_ix ix_tup (pv 3) pe_int (fun _ _ => rfl)) pa_nil))) (nomark _))))))), ?_⟩
    refine ⟨_, rfl, false, pr, _, rfl, hpr, for_it walk_seq (fun i σ H' => ∃ (v4 v5 : Option V), σ = [some (.str (S al)), some (.ref tx), some (.ref pp), some (.ref pr), v4, v5] ∧ Same H H') ⟨none, none, rfl, Same.refl H⟩ (fun i σ H' _ ⟨_, _, _, sa⟩ => sa _ _ hpr) ?_ ?_⟩
    · rintro i x σ Ha Hb hi ⟨v4, v5, rfl, sa⟩ ⟨rfl, hx⟩
      obtain ⟨n, hn, rfl⟩ := iv_get hx
      have hnl : n < (textsOf al ps).length := by
        rcases List.mem_cons.mp (List.mem_of_getElem? hn) with z | z
        · rw [z]; exact ha
        · rw [List.mem_singleton.mp z]; exact hb
      refine ⟨_, rfl, _, _, rfl, rfl, _, rfl, ?_⟩
      rw [decide_eq_true (by omega : (0 : Int) ≤ (n : Int))]
      refine iteT ⟨_, rfl, tx, _, rfl, .inl (SqL.of (sa _ _ htx)), _, _, rfl, rfl, _, rfl, ?_⟩
      rw [strV_len, decide_eq_true (by omega : (n : Int) < ((textsOf al ps).length : Int))]
      exact iteF ⟨_, _, rfl, sa⟩
    · rintro σ H1 ⟨v4, v5, rfl, sa⟩
      have htx1 := sa _ _ htx
      have hpr1 := sa _ _ hpr
      have hla : ((textsOf al ps).getD a []).length ≤ 40 := getD_short hprop.short a
      have hlb : ((textsOf al ps).getD b []).length ≤ 40 := getD_short hprop.short b
      refine ⟨_, rfl, _, rfl, pr, _, _, _, rfl, rfl, SqT.of hpr1, rfl, tx, _, _, _, rfl, rfl, SqL.of htx1, atI_nat (strV_at ha), _, rfl, _, rfl, pr, _, _, _, rfl, rfl, SqT.of hpr1, rfl, tx, _, _, _, rfl, rfl, SqL.of htx1, atI_nat (strV_at hb), S _, S _, rfl, rfl, ?_, ?_⟩
      · rw [S_len, S_len]; exact small_le (by omega)
      · rw [S_cat]
        obtain ⟨tt, htt⟩ : ∃ tt, tt = (textsOf al ps).getD a [] ++ (textsOf al ps).getD b [] := ⟨_, rfl⟩
        have hok : decide (okP al (textsOf al ps) ps (a, b)) = (decide (tt.length ≤ 40) && decide (cutL al.length ps (lets al tt) = [a, b])) := by
          rw [← Bool.decide_and]
          refine decide_eq_decide.mpr ?_
          rw [htt]
          exact ⟨fun h => h.2.2, fun h => ⟨ha, hb, h⟩⟩
        have htl : tt.length ≤ 1000 := by rw [htt, List.length_append]; omega
        have hin : ∀ c ∈ tt, c ∈ al := fun c hc => by
          rw [htt] at hc
          have key : ∀ i, c ∈ (textsOf al ps).getD i [] → c ∈ al := fun i hi => by
            rcases getD_mem_or (ts := textsOf al ps) (i := i) with m | m
            · exact textsOf_al _ m c hi
            · rw [m] at hi; cases hi
          rcases List.mem_append.mp hc with z | z
          · exact key _ z
          · exact key _ z
        rw [← htt]
        refine ⟨_, rfl, S tt, rfl, by rw [S_len]; exact small_le htl, _, _, rfl, rfl, _, rfl, ?_⟩
        rw [S_len]
        by_cases h40 : tt.length ≤ 40
        · rw [decide_eq_false (by omega : ¬ (40 : Int) < (tt.length : Int))]
          rw [decide_eq_true h40, Bool.true_and] at hok
          refine iteF ⟨_, rfl, S al, rfl, by rw [S_len]; exact small_le hal, _, rfl, _, rfl, _, rfl, al, tt, rfl, hin, htl, fun H2 y s2 hy0 hy => ?_⟩
          have s3 := sa.trans s2
          refine ⟨pp, y, us, ps, _, al.length, by rw [S_len]; rfl, s3 _ _ hpp, hps.same (Same.t s3), hy, by rw [lets, List.length_map]; exact htl, hpl, fun H3 z s4 hz => ?_⟩
          have s5 := s3.trans s4
          refine ⟨_, rfl, pr, _, _, _, rfl, rfl, SqT.of (s5 _ _ hpr), rfl, _, rfl, pr, _, _, _, rfl, rfl, SqT.of (s5 _ _ hpr), rfl, by show 2 ≤ sizeLine; decide, fun D hD => ?_⟩
          have hzD : (upd H3 D (.lst (iv [a, b]))) z = some (.lst (iv (cutL al.length ps (lets al tt)))) := (upd_ne (ne_of_none hz hD)).trans hz
          refine ⟨_, _, .lst (SqL.of hzD) (iv_dp _), .lst (SqL.of upd_same) (iv_dp [a, b]), shaped_iv _, shaped_iv [a, b], ?_⟩
          have := q (upd H3 D (.lst (iv [a, b]))) (Same.new s5 hD)
          rw [hok] at this
          have e : PyData.eqv (.list ((cutL al.length ps (lets al tt)).map fun (n : Nat) => PyData.int (n : Int))) (.list ([a, b].map fun (n : Nat) => PyData.int (n : Int))) = decide (cutL al.length ps (lets al tt) = [a, b]) := by rw [PyData.eqv, eqv_iv]
          rw [e]; exact this
        · rw [decide_eq_true (by omega : (40 : Int) < (tt.length : Int))]
          rw [decide_eq_false h40, Bool.false_and] at hok
          have := q _ sa
          rw [hok] at this
          exact iteT this
end
end RJ
end

section
set_option maxRecDepth 100000
set_option maxHeartbeats 4000000
namespace RJ
open PySem PySem.Spec PyProof.Rows L2

theorem modOf {L : Nat} (hL : 1 ≤ L) (n : Int) : ∃ a : Nat, a < L ∧ n % (L : Int) = (a : Int) := by
  obtain ⟨a, h1, h2⟩ := emod_nat n (L : Int) (by omega)
  exact ⟨a, by omega, h1⟩
theorem lastOf {L : Nat} (hL : 1 ≤ L) (n : Int) : ∃ a : Nat, a < L ∧ (L : Int) - 1 - n % (if (L : Int) < 3 then (L : Int) else 3) = (a : Int) := by
  obtain ⟨c, h1, h2⟩ := emod_nat n (if (L : Int) < 3 then (L : Int) else 3) (by split <;> omega)
  rw [h1]
  refine ⟨L - 1 - c, by omega, ?_⟩
  split at h2 <;> omega
theorem signs_texts (al : List Nat) : signsV (S al) = strV (textsOf al []) := by
  unfold signsV strV textsOf
  rw [List.foldl_nil, List.map_map]; rfl
def sp_list : Sp := fun vs H Q _ => ∃ (p : Addr) (ns al : List Nat) (k m : Nat), vs = [.ref p, .int (k : Int), .str (S al), .int (m : Int)] ∧ H p = some (.lst (iv ns)) ∧ k + 2 * m ≤ ns.length ∧ ns.length ≤ 1000 ∧ al.length ≤ 500 ∧ 1 ≤ al.length ∧ m ≤ 100 ∧
  ∀ H' r pp tx us ps, Same H H' → H' r = some (.tup [.ref pp, .ref tx]) → H' pp = some (.lst us) → PairsAt H' us ps → H' tx = some (.lst (strV (textsOf al ps))) → Proper al ps → ps.length ≤ m → Q (.ref r) H'
section
variable {P : Program} {w : World} {K : PySem.W.Frag} {mg : Str → Option Value} {base : Heap}
theorem ok_list {f : Addr} {fd : FuncData} (F : C8.Fun K "_law_list" "_law_list" s__law_list f fd) (T : Txt K mg) (c__law_is_proper : C8.Cal P w K mg base 3 "_law_is_proper" sp_is_proper []) : FnOk P w K mg base C8.CX0 4 f fd ["numbers", "k", "alphabet", "many"] sp_list := by
  refine C8.fn0 F sc__law_list (fun vs H Q E h => ?_) (fun cdv A outer s H vs Q E hr h => ?_)
  · obtain ⟨p, ns, al, k, m, rfl, _⟩ := h; rfl
  · obtain ⟨p, ns, al, k, m, rfl, hp, hkm, hns, hal, hal1, hm, q⟩ := h
    refine ⟨_, (pss_cons (ps_set (i := 4) sc__law_list.nd rfl (Or.inl rfl) (pe_lst pa_nil))
      (pss_cons (ps_set (i := 5) sc__law_list.nd rfl (Or.inl rfl) (pe_callTy (call_list_text rfl) (by rfl) T.b_list (by decide +kernel) (pa_cons (pv 2) pa_nil)))
      (pss_cons (ps_for PassesOwn.never rfl (pi_range1 rfl T.b_range (pa_cons (pv 3) pa_nil)) (pg_name (i := 6) sc__law_list.nd rfl (Or.inl rfl)) (pss_cons (ps_set (i := 7) sc__law_list.nd rfl (Or.inl rfl) (pe_tup (pa_cons (pe_op op_mod (pe_callTy call_int1 (by rfl) T.b_int (by decide +kernel) (pa_cons (pe_ix ix_list (pv 0) (pe_op op_add (pv 1) (pe_op op_mul pe_int (pv 6))) (fun _ _ => rfl)) pa_nil)) (pe_callB call_len_seq (by rfl) T.b_len PySem.boot_len (pa_cons (pv 5) pa_nil))) (pa_cons (pe_op op_mod (pe_callTy call_int1 (by rfl) T.b_int (by decide +kernel) (pa_cons (pe_ix ix_list (pv 0) (pe_op op_add (pe_op op_add (pv 1) (pe_op op_mul pe_int (pv 6))) pe_int) (fun _ _ => rfl)) pa_nil)) (pe_callB call_len_seq (by rfl) T.b_len PySem.boot_len (pa_cons (pv 5) pa_nil))) pa_nil))))
      (pss_cons (ps_if (pt_cmpR op_eq (pe_op op_mod (pe_callTy call_int1 (by rfl) T.b_int (by decide +kernel) (pa_cons (pe_op op_fdiv (pe_ix ix_list (pv 0) (pe_op op_add (pv 1) (pe_op op_mul pe_int (pv 6))) (fun _ _ => rfl)) pe_int) pa_nil)) pe_int) pe_int (nomark _)) (pss_one (ps_set (i := 7) sc__law_list.nd rfl (Or.inl rfl) (pe_tup (pa_cons (pe_op op_sub (pe_op op_sub (pe_callB call_len_seq (by rfl) T.b_len PySem.boot_len (pa_cons (pv 5) pa_nil)) pe_int) (pe_op op_mod (pe_callTy call_int1 (by rfl) T.b_int (by decide +kernel) (pa_cons (pe_ix ix_list (pv 0) (pe_op op_add (pv 1) (pe_op op_mul pe_int (pv 6))) (fun _ _ => rfl)) pa_nil)) (pe_callB (call_min2 rfl) (by rfl) T.b_min (by decide +kernel) (pa_cons pe_int (pa_cons (pe_callB call_len_seq (by rfl) T.b_len PySem.boot_len (pa_cons (pv 5) pa_nil)) pa_nil))))) (pa_cons (pe_ix ix_tup (pv 7) pe_int (fun _ _ => rfl)) pa_nil))))) pss_nil)
      (pss_cons (ps_if (pt_cmpR op_eq (pe_op op_mod (pe_callTy call_int1 (by rfl) T.b_int (by decide +kernel) (pa_cons (pe_op op_fdiv (pe_ix ix_list (pv 0) (pe_op op_add (pe_op op_add (pv 1) (pe_op op_mul pe_int (pv 6))) pe_int) (fun _ _ => rfl)) pe_int) pa_nil)) pe_int) pe_int (nomark _)) (pss_one (ps_set (i := 7) sc__law_list.nd rfl (Or.inl rfl) (pe_tup (pa_cons (pe_ix ix_tup (pv 7) pe_int (fun _ _ => rfl)) (pa_cons (pe_op op_sub (pe_op op_sub (pe_callB call_len_seq (by rfl) T.b_len PySem.boot_len (pa_cons (pv 5) pa_nil)) pe_int) (pe_op op_mod (pe_callTy call_int1 (by rfl) T.b_int (by decide +kernel) (pa_cons (pe_ix ix_list (pv 0) (pe_op op_add (pe_op op_add (pv 1) (pe_op op_mul pe_int (pv 6))) pe_int) (fun _ _ => rfl)) pa_nil)) (pe_callB (call_min2 rfl) (by rfl) T.b_min (by decide +kernel) (pa_cons pe_int (pa_cons (pe_callB call_len_seq (by rfl) T.b_len PySem.boot_len (pa_cons (pv 5) pa_nil)) pa_nil))))) pa_nil))))) pss_nil)
      (pss_one (ps_if (pt_val (C8.pe_c c__law_is_proper hr (by first | decide | omega) (by rfl) (pa_cons (pv 2) (pa_cons (pv 5) (pa_cons (pv 4) (pa_cons (pv 7) pa_nil)))))) (pss_cons (ps_expr (pe_bm PySem.F.plainAttrs_list PySem.F.slot_list_append PySem.F.type_list_append mt_append (pv 4) (pa_cons (pv 7) pa_nil)))
      (pss_one (ps_expr (pe_bm PySem.F.plainAttrs_list PySem.F.slot_list_append PySem.F.type_list_append mt_append (pv 5) (pa_cons (pe_op op_add_str (pe_ix ix_list (pv 5) (pe_ix ix_tup (pv 7) pe_int (fun _ _ => rfl)) (fun _ _ => rfl)) (pe_ix ix_list (pv 5) (pe_ix ix_tup (pv 7) pe_int (fun _ _ => rfl)) (fun _ _ => rfl))) pa_nil))))) pss_nil))))))
      (pss_one (ps_ret (pe_tup (pa_cons (pv 4) (pa_cons (pv 5) pa_nil)))))))), ?_⟩
    refine ⟨Nat.zero_le _, fun pp hpp => ?_⟩
    refine ⟨_, rfl, S al, rfl, by rw [S_size]; exact small_le (by omega), fun tx htx => ?_⟩
    have hne : pp ≠ tx := fun e => by rw [e, upd_same] at htx; cases htx
    have htx0 : H tx = none := by rw [← htx, upd_ne (Ne.symm hne)]
    rw [signs_texts]
    refine ⟨_, rfl, _, rfl, by omega, by omega, for_it walk_range (fun i σ H' => ∃ (us : List V) (ps : List (Nat × Nat)) (v6 v7 : Option V), σ = [some (.ref p), some (.int (k : Int)), some (.str (S al)), some (.int (m : Int)), some (.ref pp), some (.ref tx), v6, v7] ∧ Same H H' ∧
        H' pp = some (.lst us) ∧ PairsAt H' us ps ∧ H' tx = some (.lst (strV (textsOf al ps))) ∧ Proper al ps ∧ ps.length ≤ i)
      ⟨[], [], none, none, rfl, Same.new (same_new hpp) htx, (upd_ne hne).trans upd_same, .nil, upd_same, Proper.nil al, Nat.le_refl _⟩ (fun _ _ _ _ _ => trivial) ?_ ?_⟩
    · rintro i x σ Ha Hb hi ⟨us, ps, v6, v7, rfl, sa, hpp', hps, htx', hprop, hle⟩ ⟨rfl, hx⟩
      obtain rfl : x = V.int (i : Int) := hx.trans (congrArg V.int (Int.zero_add _))
      have him : i < m := by simpa using hi
      obtain ⟨n1, hn1⟩ : ∃ n, ns[k + 2 * i]? = some n := ⟨_, List.getElem?_eq_getElem (by omega)⟩
      obtain ⟨n2, hn2⟩ : ∃ n, ns[k + 2 * i + 1]? = some n := ⟨_, List.getElem?_eq_getElem (by omega)⟩
      have hp' : Hb p = some (.lst (iv ns)) := sa _ _ hp
      have hL : (strV (textsOf al ps)).length = al.length + ps.length := by rw [strV_len, textsOf_len]
      obtain ⟨L, hLe⟩ : ∃ L, L = al.length + ps.length := ⟨_, rfl⟩
      rw [← hLe] at hL
      have hL1 : 1 ≤ L := by omega
      obtain ⟨a0, ha0, ea0⟩ := modOf hL1 (n1 : Int)
      obtain ⟨b0, hb0, eb0⟩ := modOf hL1 (n2 : Int)
      refine ⟨_, rfl, _, rfl, _, rfl, _, _, rfl, rfl, .inl ⟨by decide, by decide⟩, _, _, rfl, rfl, p, _, _, _, rfl, rfl, SqL.of hp', atI_nat (iv_at hn1), .inl ⟨_, rfl, _, rfl, tx, _, rfl, .inl (SqL.of htx'), _, _, rfl, rfl, (by rw [hL]; omega : (0 : Int) < ((strV (textsOf al ps)).length : Int)), ?_⟩⟩
      refine ⟨_, rfl, _, rfl, _, rfl, _, _, rfl, rfl, .inl ⟨by decide, by decide⟩, _, _, rfl, rfl, _, _, rfl, rfl, p, _, _, _, rfl, rfl, SqL.of hp', atI_nat (iv_at hn2), .inl ⟨_, rfl, _, rfl, tx, _, rfl, .inl (SqL.of htx'), _, _, rfl, rfl, (by rw [hL]; omega : (0 : Int) < ((strV (textsOf al ps)).length : Int)), by show 2 ≤ sizeLine; decide, fun z hz => ?_⟩⟩
      dsimp only [gName]
      rw [hL, ea0, eb0]
      have sz : Same Hb (upd Hb z (.tup (iv [a0, b0]))) := same_new hz
      have hz0 : upd Hb z (.tup (iv [a0, b0])) z = some (.tup (iv [a0, b0])) := upd_same
      revert sz hz0
      show Same Hb (upd Hb z (.tup (iv [a0, b0]))) → upd Hb z (.tup (iv [a0, b0])) z = some (.tup (iv [a0, b0])) → tSeq (tIfS _ _ _) _ _ _ (upd Hb z (.tup (iv [a0, b0])))
      generalize upd Hb z (.tup (iv [a0, b0])) = H1
      intro s1 hz1
      show tIfS _ _ _ _ _ _
      generalize hM : tSeq _ _ _ = M
      have key : ∀ (a b : Nat) (z : Addr) (H2 : Hp), Same Hb H2 → H2 z = some (.tup (iv [a, b])) → a < L → b < L → M [some (.ref p), some (.int (k : Int)), some (.str (S al)), some (.int (m : Int)), some (.ref pp), some (.ref tx), some (.int (i : Int)), some (.ref z)] H2 := by
        clear hz1 s1
        intro a b z H2 s1 hz1 ha hb
        rw [← hM]
        have htx1 := s1 _ _ htx'
        show tTest _ _ _ _
        generalize hM2 : tIfS _ _ _ _ = M2
        have key2 : ∀ (a b : Nat) (z : Addr) (H3 : Hp), Same Hb H3 → H3 z = some (.tup (iv [a, b])) → a < L → b < L → M2 [some (.ref p), some (.int (k : Int)), some (.str (S al)), some (.int (m : Int)), some (.ref pp), some (.ref tx), some (.int (i : Int)), some (.ref z)] H3 := by
          clear hz1 s1 htx1 ha hb
          intro a b z H3 s1 hz1 ha hb
          rw [← hM2]
          have htx1 := s1 _ _ htx'
          have hpp1 := s1 _ _ hpp'
          have hLt : (textsOf al ps).length = L := by rw [textsOf_len, hLe]
          have haT : a < (textsOf al ps).length := by rw [hLt]; exact ha
          have hbT : b < (textsOf al ps).length := by rw [hLt]; exact hb
          refine ⟨_, rfl, _, rfl, _, rfl, _, rfl, al, tx, pp, z, us, ps, a, b, rfl, htx1, hpp1, hps.same (Same.t s1), hz1, hprop, by omega, by omega, haT, hbT, fun H4 s4 => ⟨_, rfl, ?_⟩⟩
          have s5 := s1.trans s4
          have htx4 := s5 _ _ htx'
          have hpp4 := s5 _ _ hpp'
          have hz4 := s4 _ _ hz1
          by_cases hok : okP al (textsOf al ps) ps (a, b)
          · rw [decide_eq_true hok]
            have hzp : z ≠ pp := ne_of hz4 hpp4 (fun e => by cases e)
            have htx5 : upd H4 pp (.lst (us ++ [.ref z])) tx = some (.lst (strV (textsOf al ps))) := (upd_ne (Ne.symm hne)).trans htx4
            have hz5 : upd H4 pp (.lst (us ++ [.ref z])) z = some (.tup (iv [a, b])) := (upd_ne hzp).trans hz4
            have hus : us.length = ps.length := hps.length
            have hla : ((textsOf al ps).getD a []).length ≤ 40 := getD_short hprop.short a
            have hlb : ((textsOf al ps).getD b []).length ≤ 40 := getD_short hprop.short b
            refine iteT ⟨_, rfl, .inl ⟨rfl, _, SqL.of hpp4⟩, _, rfl, pp, us, _, rfl, rfl, hpp4, small1000 (by omega), ?_⟩
            refine ⟨_, rfl, .inl ⟨rfl, _, SqL.of htx5⟩, _, rfl, _, rfl, z, _, _, _, rfl, rfl, SqT.of hz5, rfl, tx, _, _, _, rfl, rfl, SqL.of htx5, atI_nat (strV_at haT), _, rfl, _, rfl, z, _, _, _, rfl, rfl, SqT.of hz5, rfl, tx, _, _, _, rfl, rfl, SqL.of htx5, atI_nat (strV_at hbT), S _, S _, rfl, rfl, ?_, tx, _, _, rfl, rfl, htx5, ?_, us ++ [.ref z], ps ++ [(a, b)], _, _, rfl, ?_, ?_, ?_, ?_, hprop.snoc hok, ?_⟩
            · rw [S_len, S_len]; exact small_le (by omega)
            · rw [strV_len, hLt]; exact small1000 (by omega)
            · exact Same.put (Same.put (sa.trans s5) hpp) htx0
            · exact (upd_ne hne).trans upd_same
            · refine Paired.snoc ⟨z, rfl, (upd_ne (ne_of hz5 htx5 (fun e => by cases e))).trans hz5⟩ (hps.same fun c xs e => ?_)
              have e4 := s5 _ _ e
              exact (upd_ne (ne_of e4 htx4 (fun e => by cases e))).trans ((upd_ne (ne_of e4 hpp4 (fun e => by cases e))).trans e4)
            · rw [upd_same, S_cat, strV_snoc, textsOf_snoc]
            · rw [List.length_append, List.length_singleton]; omega
          · rw [decide_eq_false hok]
            exact iteF ⟨us, ps, _, _, rfl, sa.trans s5, hpp4, hps.same (Same.t s5), htx4, hprop, by omega⟩
        refine ⟨_, rfl, _, rfl, _, rfl, _, _, rfl, rfl, .inl ⟨by decide, by decide⟩, _, _, rfl, rfl, _, _, rfl, rfl, p, _, _, _, rfl, rfl, SqL.of (s1 _ _ hp'), atI_nat (iv_at hn2), _, _, rfl, rfl, ⟨by decide, by decide⟩, .inl ⟨_, rfl, _, _, rfl, rfl, by show (0 : Int) < 3; decide, rfl, _, rfl, ?_⟩⟩
        obtain ⟨c, hc⟩ : ∃ c : Bool, c = decide (V.int ((n2 : Int) / 100 % 3) = V.int 0) := ⟨_, rfl⟩
        show (if decide (V.int ((n2 : Int) / 100 % 3) = V.int 0) = true then _ else _)
        rw [← hc]
        cases c with
        | false => exact iteF (key2 a b z H2 s1 hz1 ha hb)
        | true =>
          obtain ⟨b1, hb1, eb1⟩ := lastOf hL1 (n2 : Int)
          refine iteT ⟨_, rfl, z, _, _, _, rfl, rfl, SqT.of hz1, rfl, _, rfl, tx, _, rfl, .inl (SqL.of htx1), _, _, rfl, rfl, _, rfl, _, rfl, _, rfl, _, _, rfl, rfl, .inl ⟨by decide, by decide⟩, _, _, rfl, rfl, _, _, rfl, rfl, p, _, _, _, rfl, rfl, SqL.of (s1 _ _ hp'), atI_nat (iv_at hn2), .inl ⟨_, rfl, _, rfl, tx, _, rfl, .inl (SqL.of htx1), _, _, rfl, _, _, rfl, rfl, ?_, ?_⟩⟩
          · show (0 : Int) < (if ((strV (textsOf al ps)).length : Int) < 3 then ((strV (textsOf al ps)).length : Int) else 3)
            rw [hL]; split <;> omega
          · refine ⟨_, _, rfl, rfl, by show 2 ≤ sizeLine; decide, fun z2 hz2 => ?_⟩
            show M2 [some (.ref p), some (.int (k : Int)), some (.str (S al)), some (.int (m : Int)), some (.ref pp), some (.ref tx), some (.int (i : Int)), some (.ref z2)] (upd H2 z2 (.tup [V.int (a : Int), V.int (((strV (textsOf al ps)).length : Int) - 1 - (n2 : Int) % (if ((strV (textsOf al ps)).length : Int) < 3 then ((strV (textsOf al ps)).length : Int) else 3))]))
            rw [hL, eb1]
            exact key2 a b1 z2 _ (Same.new s1 hz2) upd_same ha hb1
      refine ⟨_, rfl, _, rfl, _, rfl, _, _, rfl, rfl, .inl ⟨by decide, by decide⟩, _, _, rfl, rfl, p, _, _, _, rfl, rfl, SqL.of (s1 _ _ hp'), atI_nat (iv_at hn1), _, _, rfl, rfl, ⟨by decide, by decide⟩, .inl ⟨_, rfl, _, _, rfl, rfl, by show (0 : Int) < 3; decide, rfl, _, rfl, ?_⟩⟩
      obtain ⟨c, hc⟩ : ∃ c : Bool, c = decide (V.int ((n1 : Int) / 100 % 3) = V.int 0) := ⟨_, rfl⟩
      show (if decide (V.int ((n1 : Int) / 100 % 3) = V.int 0) = true then _ else _)
      rw [← hc]
      cases c with
      | false => exact iteF (key a0 b0 z H1 s1 hz1 ha0 hb0)
      | true =>
        obtain ⟨a1, ha1, ea1⟩ := lastOf hL1 (n1 : Int)
        have htx1 := s1 _ _ htx'
        refine iteT ⟨_, rfl, tx, _, rfl, .inl (SqL.of htx1), _, _, rfl, rfl, _, rfl, _, rfl, _, rfl, _, _, rfl, rfl, .inl ⟨by decide, by decide⟩, _, _, rfl, rfl, p, _, _, _, rfl, rfl, SqL.of (s1 _ _ hp'), atI_nat (iv_at hn1), .inl ⟨_, rfl, _, rfl, tx, _, rfl, .inl (SqL.of htx1), _, _, rfl, _, _, rfl, rfl, ?_, ?_⟩⟩
        · show (0 : Int) < (if ((strV (textsOf al ps)).length : Int) < 3 then ((strV (textsOf al ps)).length : Int) else 3)
          rw [hL]; split <;> omega
        · refine ⟨_, _, rfl, rfl, _, rfl, z, _, _, _, rfl, rfl, SqT.of hz1, rfl, by show 2 ≤ sizeLine; decide, fun z2 hz2 => ?_⟩
          show M [some (.ref p), some (.int (k : Int)), some (.str (S al)), some (.int (m : Int)), some (.ref pp), some (.ref tx), some (.int (i : Int)), some (.ref z2)] (upd H1 z2 (.tup [V.int (((strV (textsOf al ps)).length : Int) - 1 - (n1 : Int) % (if ((strV (textsOf al ps)).length : Int) < 3 then ((strV (textsOf al ps)).length : Int) else 3)), V.int (b0 : Int)]))
          rw [hL, ea1]
          exact key a1 b0 z2 _ (Same.new s1 hz2) upd_same ha1 hb0
    · rintro σ H1 ⟨us, ps, v6, v7, rfl, sa, hpp', hps, htx', hprop, hle⟩
      refine ⟨_, rfl, _, rfl, by show 2 ≤ sizeLine; decide, fun r hr' => ?_⟩
      have sN : Same H1 (upd H1 r (.tup [.ref pp, .ref tx])) := same_new hr'
      exact q _ r pp tx us ps (Same.new sa hr') upd_same (sN _ _ hpp') (hps.same (Same.t sN)) (sN _ _ htx') hprop (by simpa using hle)
end
end RJ
end

section
set_option maxRecDepth 100000
set_option maxHeartbeats 4000000
namespace RJ
open PySem PySem.Spec PyProof.Rows L2
/-! ### cutting by an own hand: mathematics -/
def nbAt (row : List Nat) (i : Nat) (p : Nat × Nat) : Prop := row[i]? = some p.1 ∧ row[i + 1]? = some p.2
theorem nb_mem {p : Nat × Nat} : ∀ {row : List Nat}, p ∈ adjs row → ∃ i, nbAt row i p
  | [], h => by cases h
  | [a], h => by cases h
  | a :: b :: t, h => by
    rw [adjs_cons2] at h
    rcases List.mem_cons.mp h with e | e
    · subst e; exact ⟨0, rfl, rfl⟩
    · obtain ⟨i, h1, h2⟩ := nb_mem (row := b :: t) e
      exact ⟨i + 1, h1, h2⟩
theorem nb_fun {row : List Nat} {i : Nat} {p q : Nat × Nat} (h : nbAt row i p) (g : nbAt row i q) : p = q := by
  obtain ⟨p1, p2⟩ := p
  obtain ⟨q1, q2⟩ := q
  have e1 : some p1 = some q1 := h.1.symm.trans g.1
  have e2 : some p2 = some q2 := h.2.symm.trans g.2
  cases e1; cases e2; rfl
theorem nb_split {row : List Nat} {i : Nat} {p : Nat × Nat} (h : nbAt row i p) : row = row.take i ++ p.1 :: p.2 :: row.drop (i + 2) := by
  have e1 := split_at h.1
  have e2 : row.drop (i + 1) = p.2 :: row.drop (i + 2) := by
    obtain ⟨h1, h2⟩ := List.getElem?_eq_some_iff.mp h.2
    rw [List.drop_eq_getElem_cons h1, h2]
  rw [e2] at e1; exact e1
theorem nb_front {row : List Nat} {i : Nat} {p : Nat × Nat} (h : nbAt row i p) (hno : ∀ m : Nat, m < i → ¬ nbAt row m p) : p ∉ adjs (row.take i ++ [p.1]) := fun hm => by
  have e : row.take i ++ [p.1] = row.take (i + 1) := by rw [take_succ_of h.1]
  rw [e] at hm
  obtain ⟨m, h1, h2⟩ := nb_mem hm
  rw [List.getElem?_take] at h1 h2
  by_cases c : m + 1 < i + 1
  · rw [if_pos (by omega)] at h1
    rw [if_pos c] at h2
    exact hno m (by omega) ⟨h1, h2⟩
  · rw [if_neg c] at h2; cases h2
def Scan (ps : List (Nat × Nat)) (row : List Nat) (k best place : Nat) : Prop :=
  best ≤ ps.length ∧ (∀ (i : Nat) (q : Nat × Nat), i < k → nbAt row i q → ∀ j : Nat, j < best → ps[j]? ≠ some q) ∧ (best < ps.length → ∃ p, ps[best]? = some p ∧ nbAt row place p ∧ ∀ i : Nat, i < place → ¬ nbAt row i p)
theorem Scan.zero (ps : List (Nat × Nat)) (row : List Nat) : Scan ps row 0 ps.length 0 := ⟨Nat.le_refl _, fun i q h => absurd h (Nat.not_lt_zero _), fun h => absurd h (Nat.lt_irrefl _)⟩
theorem Scan.keep {ps : List (Nat × Nat)} {row : List Nat} {k best place : Nat} (h : Scan ps row k best place) (g : ∀ q, nbAt row k q → ∀ j : Nat, j < best → ps[j]? ≠ some q) : Scan ps row (k + 1) best place := by
  obtain ⟨h1, h2, h3⟩ := h
  refine ⟨h1, fun i q hi hq => ?_, h3⟩
  by_cases c : i = k
  · subst c; exact g q hq
  · exact h2 i q (by omega) hq
theorem Scan.put {ps : List (Nat × Nat)} {row : List Nat} {k best place j : Nat} {q : Nat × Nat} (h : Scan ps row k best place) (hq : nbAt row k q) (hj : ps[j]? = some q) (hmin : ∀ m : Nat, m < j → ps[m]? ≠ some q) (hlt : j < best) : Scan ps row (k + 1) j k := by
  obtain ⟨h1, h2, h3⟩ := h
  refine ⟨by omega, fun i q' hi hq' m hm => ?_, fun _ => ⟨q, hj, hq, fun i hi hn => h2 i q hi hn j hlt hj⟩⟩
  by_cases c : i = k
  · subst c; rw [nb_fun hq' hq]; exact hmin m hm
  · exact h2 i q' (by omega) hq' m (by omega)
theorem Scan.still {b : Nat} {ps : List (Nat × Nat)} {row : List Nat} {k place : Nat} (h : Scan ps row k ps.length place) (hk : row.length ≤ k + 1) : cutL b ps row = row := by
  refine cut_done fun p hp hm => ?_
  obtain ⟨i, hi⟩ := nb_mem hm
  obtain ⟨j, hj⟩ := List.getElem?_of_mem hp
  have hjl := (List.getElem?_eq_some_iff.mp hj).1
  have hil := (List.getElem?_eq_some_iff.mp hi.2).1
  exact h.2.1 i p (by omega) hi j hjl hj
theorem Scan.step {b : Nat} {ps : List (Nat × Nat)} (hw : WF b ps) {row : List Nat} {k best place : Nat} (h : Scan ps row k best place) (hk : row.length ≤ k + 1) (hlt : best < ps.length) :
    cutL b ps (row.take place ++ (b + best) :: row.drop (place + 2)) = cutL b ps row ∧ (row.take place ++ (b + best) :: row.drop (place + 2)).length + 1 = row.length := by
  obtain ⟨h1, h2, h3⟩ := h
  obtain ⟨p, hp, hn, hno⟩ := h3 hlt
  have hl := (List.getElem?_eq_some_iff.mp hn.2).1
  refine ⟨?_, ?_⟩
  · have e := nb_split hn
    have := cut_first hw hp (u := row.take place) (v := row.drop (place + 2)) (nb_front hn hno) (fun j q hj hq hm => by
      rw [← e] at hm
      obtain ⟨i, hi⟩ := nb_mem hm
      have hil := (List.getElem?_eq_some_iff.mp hi.2).1
      exact h2 i q (by omega) hi j hj hq)
    rw [this, ← e]
  · rw [List.length_append, List.length_cons, List.length_take, List.length_drop]; omega
theorem first_at {p : Nat × Nat} : ∀ {ps : List (Nat × Nat)}, p ∈ ps → ∃ j : Nat, ps[j]? = some p ∧ ∀ m : Nat, m < j → ps[m]? ≠ some p
  | [], h => by cases h
  | q :: ps, h => by
    by_cases c : q = p
    · subst c; exact ⟨0, rfl, fun (m : Nat) (hm : m < 0) => absurd hm (Nat.not_lt_zero _)⟩
    · obtain ⟨j, h1, h2⟩ := first_at ((List.mem_cons.mp h).resolve_left fun e => c e.symm)
      refine ⟨j + 1, h1, fun m hm => ?_⟩
      cases m with
      | zero => exact fun e => c (Option.some.inj e)
      | succ m => exact h2 m (by omega)
/-! ### pairs as data -/
def pairD (p : Nat × Nat) : PyData := .tuple ([p.1, p.2].map fun (n : Nat) => PyData.int (n : Int))
theorem eqv_pair (p q : Nat × Nat) : PyData.eqv (pairD p) (pairD q) = decide (p = q) := by
  unfold pairD
  rw [PyData.eqv, eqv_iv]
  refine decide_eq_decide.mpr ?_
  obtain ⟨a, b⟩ := p
  obtain ⟨c, d⟩ := q
  simp
theorem any_pair (p : Nat × Nat) (ps : List (Nat × Nat)) : ((ps.map pairD).any fun z => PyData.eqv z (pairD p)) = decide (p ∈ ps) := by
  rw [List.any_map]
  induction ps with
  | nil => rfl
  | cons q ps ih =>
    rw [List.any_cons, ih]
    show (PyData.eqv (pairD q) (pairD p) || decide (p ∈ ps)) = _
    rw [eqv_pair]
    by_cases c : q = p
    · subst c; simp
    · rw [decide_eq_false c, Bool.false_or]
      exact decide_eq_decide.mpr ⟨List.mem_cons_of_mem _, fun h => (List.mem_cons.mp h).resolve_left fun e => c e.symm⟩
theorem dp_pairs {K : PySem.W.Frag} {H : Hp} : ∀ {us : List V} {ps : List (Nat × Nat)}, PairsAt H us ps → DpAll K H us (ps.map pairD)
  | _, _, .nil => .nil
  | _, _, .cons h t => by
    obtain ⟨q, rfl, hq⟩ := h
    exact .cons (.tup (SqT.of hq) (iv_dp [_, _])) (dp_pairs t)
theorem shaped_pair (p : Nat × Nat) : SeqAt.shaped (pairD p) = true := shaped_ivT [p.1, p.2]
theorem shaped_pairs (ps : List (Nat × Nat)) : SeqAt.shaped (.list (ps.map pairD)) = true := by
  have h1 : PyData.canLayAll0 (ps.map pairD) = true := by
    induction ps with
    | nil => simp [PyData.canLayAll0]
    | cons p ps ih => rw [List.map_cons, PyData.canLayAll0, ih]; simp [pairD, PyData.canLay0, PyData.canLayAll0]
  have h2 : PyData.depthAll (ps.map pairD) ≤ 1 := by
    clear h1
    induction ps with
    | nil => simp [PyData.depthAll]
    | cons p ps ih =>
      rw [List.map_cons, PyData.depthAll]
      have : PyData.depth (pairD p) = 1 := by simp [pairD, PyData.depth, PyData.depthAll]
      omega
  unfold SeqAt.shaped
  rw [PyData.canLay0, h1, PyData.depth, Bool.true_and]
  exact decide_eq_true (by omega)
theorem get_pairD {ps : List (Nat × Nat)} {m : Nat} {z : PyData} (h : (ps.map pairD)[m]? = some z) : ∃ q, ps[m]? = some q ∧ z = pairD q := by
  rw [List.getElem?_map] at h
  cases e : ps[m]? with
  | none => rw [e] at h; cases h
  | some q => rw [e] at h; exact ⟨q, rfl, (Option.some.inj h).symm⟩
end RJ
end

section
set_option maxRecDepth 100000
set_option maxHeartbeats 8000000
namespace RJ
open PySem PySem.Spec PyProof.Rows L2
def sp_slow : Sp := fun vs H Q _ => ∃ (pp : Addr) (us : List V) (ps : List (Nat × Nat)) (al t : List Nat), vs = [.str (S al), .ref pp, .str (S t)] ∧ H pp = some (.lst us) ∧ PairsAt H us ps ∧ WF al.length ps ∧ ps.length ≤ 1000 ∧ al.length ≤ 1000 ∧
  (∀ c ∈ t, c ∈ al) ∧ t.length ≤ 900 ∧ ∀ H' z, Same H H' → H' z = some (.tup (iv (cutL al.length ps (lets al t)))) → Q (.ref z) H'
theorem cut_to (l : List Nat) (k : Nat) : cutV (iv l) none (some (k : Int)) = iv (l.take k) := by
  unfold cutV
  rw [HT.sIx_nat, HT.sIx_none, List.drop_zero, iv_len, Nat.sub_zero]
  unfold iv
  rw [List.map_take]
  by_cases h : k ≤ l.length
  · rw [Nat.min_eq_left h]
  · rw [Nat.min_eq_right (by omega), List.take_of_length_le (by rw [List.length_map]; exact Nat.le_refl _), List.take_of_length_le (by rw [List.length_map]; omega)]
theorem cut_on (l : List Nat) (k : Nat) : cutV (iv l) (some (k : Int)) none = iv (l.drop k) := by
  unfold cutV
  rw [HT.sIx_nat, HT.sIx_none, iv_len]
  unfold iv
  rw [List.map_drop]
  by_cases h : k ≤ l.length
  · rw [Nat.min_eq_left h, List.take_of_length_le (by rw [List.length_drop, List.length_map]; exact Nat.le_refl _)]
  · rw [Nat.min_eq_right (by omega), List.drop_eq_nil_of_le (by rw [List.length_map]; exact Nat.le_refl _), List.drop_eq_nil_of_le (by rw [List.length_map]; omega)]
    exact List.take_nil
theorem iv_mid (u v : List Nat) (n : Nat) : iv u ++ [V.int (n : Int)] ++ iv v = iv (u ++ n :: v) := by
  unfold iv
  rw [List.map_append, List.map_cons, List.append_assoc]; rfl
theorem index_at {K : PySem.W.Frag} {H : Hp} {pp z : Addr} {us : List V} {ps : List (Nat × Nat)} {a b j : Nat} {Q : VK} (hpp : H pp = some (.lst us)) (hps : PairsAt H us ps) (hz : H z = some (.tup (iv [a, b]))) (hj : ps[j]? = some (a, b)) (hmin : ∀ m : Nat, m < j → ps[m]? ≠ some (a, b))
    (q : Q (.int (j : Int)) H) : rIndexD K (.ref pp) [.ref z] H Q := by
  refine ⟨pp, .ref z, pairD (a, b), ps.map pairD, j, pairD (a, b), rfl, rfl, .lst (SqL.of hpp) (dp_pairs hps), .tup (SqT.of hz) (iv_dp [a, b]), shaped_pairs ps, shaped_pair (a, b), ?_, ?_, fun m z' hm hz' => ?_, q⟩
  · rw [List.getElem?_map, hj]; rfl
  · rw [eqv_pair]; exact decide_eq_true rfl
  · obtain ⟨p, hp, rfl⟩ := get_pairD hz'
    rw [eqv_pair]
    exact decide_eq_false fun e => hmin m hm (by rw [hp, e])
section
variable {P : Program} {w : World} {K : PySem.W.Frag} {mg : Str → Option Value} {base : Heap}
end
end RJ
end

section
set_option maxRecDepth 100000
set_option maxHeartbeats 8000000
namespace RJ
open PySem PySem.Spec PyProof.Rows L2
abbrev s_law : Stmt := top 43
abbrev N_law : List Str := ["script", "at", "numbers", "alphabet", "drawn", "many", "pairs", "k", "text", "pair", "joins", "told"]
theorem sc_law : FnScope N_law ["script"] (C8.fnScope s_law) := C8.fnScope_by (by decide +kernel)
/-! ### cutting keeps the text -/
end RJ
end

section
set_option maxRecDepth 100000
set_option maxHeartbeats 4000000
namespace RJ
open PySem PySem.Spec PyProof.Rows L2
/-- len(o) by the class's own __len__ -/
theorem call_lenOwn {X : Cx} {k : Nat} {C : Addr} {sp : Sp} (m : C8.Met X.prog X.w X.K X.mg X.base k C "__len__" sp []) (hr : Room (k + 1) X.A) :
    CallR X (.builtin "len") (fun xs H Q => ∃ (a dx : Addr) (fs : List (Str × V)), xs = [.ref a] ∧ H a = some (.ins C dx fs) ∧ sp [.ref a] H (fun v H1 => ∃ n : Nat, v = .int (n : Int) ∧ n < 2 ^ 62 ∧ Q (.int (n : Int)) H1) C8.E0) := by
  intro pins s σ H xs us Q I r h
  obtain ⟨a, dx, fs, rfl, ha, q⟩ := h
  obtain ⟨f, fd, ps, ds, hc, hm, F, b, d⟩ := m.ex
  rw [Vals.ref1 r]
  obtain ⟨mA, O, _⟩ := ins_get I.hok ha
  obtain ⟨od, inst, _⟩ := O.look
  obtain ⟨mm, fr⟩ := I.fr
  refine PySem.W.len_K fr I.ok.mod.kin inst hm.at_ hm.fn ?_
  have vals : Vals ([V.ref a] ++ []) ([Value.ref a] ++ ds) := Vals.append (.cons rfl .nil) d
  have hl : ([Value.ref a] ++ ds).length = ps.length := by rw [← vals.length]; exact F.len _ _ _ _ q
  refine wpAny_call (codeAny_mono (F.run X.A.in1 X.stack s H ⟨[.ref a], []⟩ ([.ref a] ++ ds) ([.ref a] ++ []) _ C8.E0 hr.in1 I.env0.in1 (b s [.ref a] I.kIn hl) vals q) fun r s' hq => ?_)
  cases r with
  | error e => exact False.elim hq
  | ok fl =>
    cases fl with
    | ret u =>
      obtain ⟨v, H', J, rv, n, rfl, hn, qn⟩ := I.after hq
      obtain ⟨t, rfl⟩ := rv
      exact ⟨⟨by omega, by omega⟩, .int (n : Int), H', J.tok _, ⟨_, rfl⟩, qn⟩
    | next => exact False.elim hq
    | brk => exact False.elim hq
    | cont => exact False.elim hq
end RJ
end

section
set_option maxRecDepth 100000
set_option maxHeartbeats 4000000
namespace RJ
open PySem PySem.Spec PyProof.Rows L2
abbrev s_check_number : Stmt := top 15
abbrev N_check_number : List Str := ["number", "end"]
theorem sc_check_number : FnScope N_check_number ["number", "end"] (C8.fnScope s_check_number) := C8.fnScope_by (by decide +kernel)
abbrev s_Joins___len__ : Stmt := inClass (top 25) 2
abbrev N_Joins___len__ : List Str := ["self"]
theorem sc_Joins___len__ : FnScope N_Joins___len__ ["self"] (C8.fnScope s_Joins___len__) := C8.fnScope_by (by decide +kernel)
def sp_check_number : Sp := fun vs H Q _ => ∃ (i n : Int), vs = [.int i, .int n] ∧ 0 ≤ i ∧ i < n ∧ Q .non H
def sp_len (C : Addr) : Sp := fun vs H Q _ => ∃ (p : Addr) (al : List Nat) (ps : List (Nat × Nat)), vs = [.ref p] ∧ JoinsAt C H p al ps ∧ Q (.int (ps.length : Int)) H
def sp_join_allP (C : Addr) : Sp := fun vs H Q _ => ∃ (p a : Addr) (b : Bool) (row al : List Nat) (ps : List (Nat × Nat)) (r : Nat) (pr : Nat × Nat), vs = [.ref p, .ref a, .int (r : Int)] ∧ JoinsAt C H p al ps ∧ WF al.length ps ∧ ps.length ≤ 1000 ∧ RowAt b H a row ∧ row.length ≤ 1000 ∧ al.length ≤ 1000 ∧ ps[r]? = some pr ∧
  ∀ H' q, Same H H' → H' q = some (.tup (iv (pass pr.1 pr.2 (al.length + r) row))) → Q (.ref q) H'
def sp_stagedP (C : Addr) : Sp := fun vs H Q _ => ∃ (p a : Addr) (b : Bool) (row al : List Nat) (ps : List (Nat × Nat)) (m : Nat), vs = [.ref p, .ref a, .int (m : Int)] ∧ JoinsAt C H p al ps ∧ WF al.length ps ∧ ps.length ≤ 1000 ∧ RowAt b H a row ∧ row.length ≤ 1000 ∧ al.length ≤ 1000 ∧ m ≤ ps.length ∧
  ∀ H' q, Same H H' → H' q = some (.tup (iv (cutL al.length (ps.take m) row))) → Q (.ref q) H'
/-- the changes by the joins -/
def hist (b : Nat) (ps : List (Nat × Nat)) (row : List Nat) (n : Nat) : List (Nat × List Nat) := (List.range n).filterMap fun i => if cutL b (ps.take (i + 1)) row = cutL b (ps.take i) row then none else some (i, cutL b (ps.take (i + 1)) row)
theorem hist_succ (b : Nat) (ps : List (Nat × Nat)) (row : List Nat) (n : Nat) : hist b ps row (n + 1) = hist b ps row n ++ (if cutL b (ps.take (n + 1)) row = cutL b (ps.take n) row then [] else [(n, cutL b (ps.take (n + 1)) row)]) := by
  unfold hist
  rw [List.range_succ, List.filterMap_append]
  congr 1
  rw [List.filterMap_cons, List.filterMap_nil]
  split <;> rename_i h
  · split at h
    · rename_i c; rw [if_pos c]
    · cases h
  · split at h
    · cases h
    · rename_i c; rw [if_neg c]; cases h; rfl
theorem hist_len (b : Nat) (ps : List (Nat × Nat)) (row : List Nat) (n : Nat) : (hist b ps row n).length ≤ n := by
  unfold hist
  have := List.length_filterMap_le (fun i => if cutL b (ps.take (i + 1)) row = cutL b (ps.take i) row then none else some (i, cutL b (ps.take (i + 1)) row)) (List.range n)
  rwa [List.length_range] at this
def HistAt (H : Hp) (v : V) (e : Nat × List Nat) : Prop := ∃ q z, v = .ref q ∧ H q = some (.tup [.int (e.1 : Int), .ref z]) ∧ H z = some (.tup (iv e.2))
theorem HistAt.same {H H' : Hp} {v : V} {e : Nat × List Nat} (s : SameT H H') (h : HistAt H v e) : HistAt H' v e := by
  obtain ⟨q, z, h1, h2, h3⟩ := h
  exact ⟨q, z, h1, s _ _ h2, s _ _ h3⟩
def sp_historyP (C : Addr) : Sp := fun vs H Q _ => ∃ (p : Addr) (t al : List Nat) (ps : List (Nat × Nat)), vs = [.ref p, .str (S t)] ∧ JoinsAt C H p al ps ∧ WF al.length ps ∧ ps.length ≤ 500 ∧ (∀ c ∈ t, c ∈ al) ∧ t.length ≤ 1000 ∧ al.length ≤ 1000 ∧
  ∀ H' q us, Same H H' → H' q = some (.tup us) → Paired (HistAt H') us (hist al.length ps (lets al t) ps.length) → Q (.ref q) H'
theorem WF.ne {b : Nat} {ps : List (Nat × Nat)} (h : WF b ps) {r : Nat} {p : Nat × Nat} (e : ps[r]? = some p) : b + r ≠ p.1 := by have := (h r p e).1; omega
section
variable {P : Program} {w : World} {K : PySem.W.Frag} {mg : Str → Option Value} {base : Heap}
theorem ok_check_number {f : Addr} {fd : FuncData} (F : C8.Fun K "check_number" "check_number" s_check_number f fd) (T : Txt K mg) (c_is_number_below : C8.Cal P w K mg base 2 "is_number_below" sp_is_number_below []) : FnOk P w K mg base C8.CX0 3 f fd ["number", "end"] sp_check_number := by
  refine C8.fn0 F sc_check_number (fun vs H Q E h => ?_) (fun cdv A outer s H vs Q E hr h => ?_)
  · obtain ⟨i, n, rfl, _⟩ := h; rfl
  · obtain ⟨i, n, rfl, h0, h1, q⟩ := h
    refine ⟨_, (pss_one (ps_if (pt_not (pt_val (C8.pe_c c_is_number_below hr (by first | decide | omega) (by rfl) (pa_cons (pv 0) (pa_cons (pv 1) pa_nil))))) (pss_one ps_never) pss_nil)), ?_⟩
    refine ⟨_, rfl, _, rfl, .int i, n, rfl, .int i, _, rfl, ?_⟩
    have e : numBelow (.int i) n = true := by show (decide (0 ≤ i) && decide (i < n)) = true; rw [decide_eq_true h0, decide_eq_true h1]; rfl
    rw [e]
    exact iteF q
theorem ok_len {f C : Addr} {fd : FuncData} (F : C8.Fun K "__len__" "Joins.__len__" s_Joins___len__ f fd) (T : Txt K mg) (J : JTxt K C) : FnOk P w K mg base C8.CX0 1 f fd ["self"] (sp_len C) := by
  refine C8.fn0 F sc_Joins___len__ (fun vs H Q E h => ?_) (fun cdv A outer s H vs Q E hr h => ?_)
  · obtain ⟨p, al, ps, rfl, _⟩ := h; rfl
  · obtain ⟨p, al, ps, rfl, ⟨dx, t, tx, d, e, ws, h1, h2, h3, h4, h5, h6⟩, q⟩ := h
    refine ⟨_, (pss_one (ps_ret (pe_callB call_len_seq (by rfl) T.b_len PySem.boot_len (pa_cons (pe_fld (pv 0) rfl) pa_nil)))), ?_⟩
    refine ⟨_, rfl, p, C, dx, _, _, rfl, h1, J.cl, J.n2, f5_pairs al t tx d e, t, ws, rfl, .inr (SqT.of h2), ?_⟩
    rw [h3.length]; exact q
end
end RJ
end

section
set_option maxRecDepth 100000
set_option maxHeartbeats 4000000
namespace RJ
open PySem PySem.Spec PyProof.Rows L2
/-! ### joins taken back -/
variable {b n : Nat} {ps : List (Nat × Nat)}
end RJ
end

section
set_option maxRecDepth 100000
set_option maxHeartbeats 4000000
namespace RJ
open PySem PySem.Spec PyProof.Rows L2

abbrev s_Joins_first : Stmt := inClass (top 25) 9
abbrev N_Joins_first : List Str := ["self", "many"]
theorem sc_Joins_first : FnScope N_Joins_first ["self", "many"] (C8.fnScope s_Joins_first) := C8.fnScope_by (by decide +kernel)
theorem cutV_to (xs : List V) (k : Nat) : cutV xs none (some (k : Int)) = xs.take k := by
  unfold cutV
  rw [HT.sIx_nat, HT.sIx_none, List.drop_zero, Nat.sub_zero]
  by_cases h : k ≤ xs.length
  · rw [Nat.min_eq_left h]
  · rw [Nat.min_eq_right (by omega), List.take_of_length_le (Nat.le_refl _), List.take_of_length_le (by omega)]
theorem Paired.front {α β : Type} {F : α → β → Prop} : ∀ {as : List α} {bs : List β} (n : Nat), Paired F as bs → Paired F (as.take n) (bs.take n)
  | _, _, 0, _ => .nil
  | _, _, _ + 1, .nil => .nil
  | _, _, n + 1, .cons f t => .cons f (Paired.front n t)
theorem small_lt2 {n : Nat} (h : n ≤ 3000) : n < sizeLine := Nat.lt_of_le_of_lt h (by decide)
/-- a list of joins is made -/
theorem init_at {C x dx pa : Addr} {H H1 : Hp} {al : List Nat} {ps : List (Nat × Nat)} {us : List V} {Q : VK} {E : XK} (s1 : Same H H1) (hpa : H1 pa = some (.tup us)) (hps : PairsAt H1 us ps) (hok : alOk al = true) (hnd : al.Nodup) (h30 : al.length ≤ 30) (hprop : Proper al ps) (hpl : ps.length ≤ 100)
    (nx : H1 x = none) (ndx : H1 dx = none) (q : ∀ H', Same H H' → JoinsAt C H' x al ps → Q (.ref x) H') : sp_init C [.ref x, .str (S al), .ref pa] (upd (upd H1 dx (.own x)) x (.ins C dx [])) (fun v H2 => v = .non ∧ Q (.ref x) H2) E := by
  have sM : ∀ (b : Addr) (o : HO), H1 b = some o → b ≠ x ∧ (upd (upd H1 dx (.own x)) x (.ins C dx [])) b = some o := fun b o e => by
    have hb := ne_of_none e nx
    exact ⟨hb, (upd_ne hb).trans ((upd_ne (ne_of_none e ndx)).trans e)⟩
  exact ⟨x, pa, dx, false, al, ps, us, rfl, upd_same, (sM _ _ hpa).2, hps.same (fun b xs e => (sM b _ e).2), hok, hnd, h30, hprop, hpl, fun H4 sx hj => ⟨rfl, q H4 (s1.trans fun b o e => sx b o (sM b o e).1 (sM b o e).2) hj⟩⟩
def sp_parts (C : Addr) : Sp := fun vs H Q _ => ∃ (p : Addr) (al : List Nat) (ps : List (Nat × Nat)) (j : Nat) (pr : Nat × Nat), vs = [.ref p, .int ((al.length + j : Nat) : Int)] ∧ JoinsAt C H p al ps ∧ al.length ≤ 1000 ∧ ps[j]? = some pr ∧ ∀ g, H g = some (.tup (iv [pr.1, pr.2])) → Q (.ref g) H
def sp_first (C : Addr) : Sp := fun vs H Q _ => ∃ (p : Addr) (al : List Nat) (ps : List (Nat × Nat)) (m : Nat), vs = [.ref p, .int (m : Int)] ∧ JoinsAt C H p al ps ∧ Proper al ps ∧ alOk al = true ∧ al.Nodup ∧ al.length ≤ 30 ∧ ps.length ≤ 100 ∧ m ≤ ps.length ∧
  ∀ H' p', Same H H' → JoinsAt C H' p' al (ps.take m) → Q (.ref p') H'
def sp_apart : Sp := fun vs H Q _ => ∃ (z g : Addr) (row : List Nat) (m l r : Nat), vs = [.ref z, .int (m : Int), .ref g] ∧ H z = some (.lst (iv row)) ∧ H g = some (.tup (iv [l, r])) ∧ row.length ≤ 1000 ∧ ∀ H' y, Same H H' → H' y = some (.lst (iv (apart m l r row))) → Q (.ref y) H'
section
variable {P : Program} {w : World} {K : PySem.W.Frag} {mg : Str → Option Value} {base : Heap}
theorem ok_first {f C : Addr} {fd : FuncData} (F : C8.Fun K "first" "Joins.first" s_Joins_first f fd) (T : Txt K mg) (J : JTxt K C) (c_check_number : C8.Cal P w K mg base 3 "check_number" sp_check_number []) (k_Joins : C8.Mak P w K mg base 4 "Joins" C (sp_init C) []) : FnOk P w K mg base C8.CX0 6 f fd ["self", "many"] (sp_first C) := by
  refine C8.fn0 F sc_Joins_first (fun vs H Q E h => ?_) (fun cdv A outer s H vs Q E hr h => ?_)
  · obtain ⟨p, al, ps, m, rfl, _⟩ := h; rfl
  · obtain ⟨p, al, ps, m, rfl, hj, hprop, hok, hnd, h30, hpl, hm, q⟩ := h
    obtain ⟨dx, t, tx, d, e, ws, h1, h2, h3, h4, h5, h6⟩ := id hj
    have hwl : ws.length = ps.length := h3.length
    refine ⟨_, (pss_cons (ps_expr (C8.pe_c c_check_number hr (by first | decide | omega) (by rfl) (pa_cons (pv 1) (pa_cons (pe_op op_add (pe_callB call_len_seq (by rfl) T.b_len PySem.boot_len (pa_cons (pe_fld (pv 0) rfl) pa_nil)) pe_int) pa_nil))))
      (pss_one (ps_ret (C8.pe_mk k_Joins hr (by first | decide | omega) (by rfl) (pa_cons (pe_fld (pv 0) rfl) (pa_cons (pe_slice sl_tupA (pe_fld (pv 0) rfl) po_none (po_some (pv 1))) pa_nil)))))), ?_⟩
    refine ⟨_, rfl, _, rfl, p, C, dx, _, _, rfl, h1, J.cl, J.n2, f5_pairs al t tx d e, t, ws, rfl, .inr (SqT.of h2), _, _, rfl, rfl, _, _, rfl, by omega, by omega, ?_⟩
    have htl : (ps.take m).length ≤ 100 := by rw [List.length_take]; omega
    refine ⟨_, rfl, p, C, dx, _, _, rfl, h1, J.cl, J.n1, f5_alphabet al t tx d e, _, rfl, p, C, dx, _, _, rfl, h1, J.cl, J.n2, f5_pairs al t tx d e, _, rfl, _, rfl, t, ws, rfl, SqT.of h2, fun hw x dx2 nx ndx nex => ?_, fun hw pa hpa x dx2 nx ndx nex => ?_⟩
    · have hmw : m = ps.length := by
        have := hw.2
        rw [HT.sIx_nat] at this; omega
      have hts : ps.take m = ps := by rw [hmw, List.take_length]
      refine init_at (Same.refl H) h2 (by rw [hts]; exact h3) hok hnd h30 (hprop.take m) htl nx ndx fun H' s' hj' => q H' x s' hj'
    · rw [cutV_to] at nx ndx ⊢
      refine init_at (same_new hpa) upd_same (PairsAt.same (Paired.front m h3) (Same.t (same_new hpa))) hok hnd h30 (hprop.take m) htl nx ndx fun H' s' hj' => q H' x s' hj'
end
end RJ
end

section
set_option maxRecDepth 100000
set_option maxHeartbeats 4000000
namespace RJ
open PySem PySem.Spec PyProof.Rows L2
/-! ### lists as texts -/
def lineL (p : Nat × Nat) : List Nat := TL.numL p.1 ++ 32 :: TL.numL p.2
def linesL (ps : List (Nat × Nat)) : List Nat := ps.flatMap fun p => lineL p ++ [10]
def headL (al : List Nat) : List Nat := 124 :: (al ++ [124])
def txtL (al : List Nat) (ps : List (Nat × Nat)) : List Nat := headL al ++ 10 :: linesL ps
theorem S_app (a b : List Nat) : S a ++ S b = S (a ++ b) := by
  refine TL.ext_tl ?_
  rw [TL.tl_append]
theorem S_appH (a b : List Nat) : HAppend.hAppend (S a) (S b) = S (a ++ b) := S_app a b
theorem line_free (p : Nat × Nat) : 10 ∉ lineL p := by
  intro h
  rcases List.mem_append.mp h with h | h
  · exact TL.numL_free (.inl (by decide)) h
  · rcases List.mem_cons.mp h with h | h
    · exact absurd h (by decide)
    · exact TL.numL_free (.inl (by decide)) h
theorem alOk_mem {al : List Nat} {c : Nat} (h : alOk al = true) (hc : c ∈ al) : 32 ≤ c ∧ c ≤ 126 := by
  unfold alOk at h
  rw [Bool.and_eq_true, Bool.and_eq_true] at h
  have h2 := h.2.2
  rw [List.all_eq_true] at h2
  have h3 : (decide (32 ≤ c ∧ c ≤ 126)) = true := h2 _ (List.mem_map_of_mem (f := fun c => decide (32 ≤ c ∧ c ≤ 126)) hc)
  exact of_decide_eq_true h3
theorem head_free {al : List Nat} (h : alOk al = true) : 10 ∉ headL al := by
  intro k
  rcases List.mem_cons.mp k with k | k
  · exact absurd k (by decide)
  · rcases List.mem_append.mp k with k | k
    · have := alOk_mem h k; omega
    · exact absurd (List.mem_singleton.mp k) (by decide)
theorem spl_lines : ∀ ps : List (Nat × Nat), TL.spl [10] 0 [] (linesL ps) = ps.map lineL ++ [[]]
  | [] => rfl
  | p :: ps => by
    show TL.spl [10] 0 [] ((lineL p ++ [10]) ++ linesL ps) = _
    rw [List.append_assoc, TL.spl_part1 (line_free p), List.nil_append, spl_lines ps]; rfl
theorem spl_txt {al : List Nat} (h : alOk al = true) (ps : List (Nat × Nat)) : TL.spl [10] 0 [] (txtL al ps) = headL al :: ps.map lineL ++ [[]] := by
  show TL.spl [10] 0 [] (headL al ++ ([10] ++ linesL ps)) = _
  rw [TL.spl_part1 (head_free h), List.nil_append, spl_lines ps]; rfl
theorem spl_line (p : Nat × Nat) : TL.spl [32] 0 [] (lineL p) = [TL.numL p.1, TL.numL p.2] := by
  show TL.spl [32] 0 [] (TL.numL p.1 ++ ([32] ++ TL.numL p.2)) = _
  rw [TL.spl_part1 (TL.numL_free (.inl (by decide))), List.nil_append, TL.spl_last1 (TL.numL_free (.inl (by decide))), List.nil_append]
theorem numL_head : ∀ n : Nat, n ≠ 0 → ∃ c r, TL.numL n = c :: r ∧ c ≠ 48 := by
  intro n
  induction n using Nat.strongRecOn with
  | _ n ih =>
    intro h0
    by_cases h : n < 10
    · exact ⟨48 + n, [], TL.numL_lt h, by omega⟩
    · obtain ⟨c, r, e, hc⟩ := ih (n / 10) (by omega) (by omega)
      exact ⟨c, r ++ [48 + n % 10], by rw [TL.numL_step (by omega), e]; rfl, hc⟩
theorem line_len {p : Nat × Nat} (h1 : p.1 < 10000) (h2 : p.2 < 10000) : (lineL p).length ≤ 9 := by
  have e1 := TL.numL_len (n := p.1) (k := 4) (by decide) h1
  have e2 := TL.numL_len (n := p.2) (k := 4) (by decide) h2
  rw [lineL, List.length_append, List.length_cons]; omega
theorem lines_len : ∀ {ps : List (Nat × Nat)}, (∀ p ∈ ps, p.1 < 10000 ∧ p.2 < 10000) → (linesL ps).length ≤ 10 * ps.length
  | [], _ => Nat.le_refl _
  | p :: ps, h => by
    have e1 := line_len (h p (List.mem_cons_self ..)).1 (h p (List.mem_cons_self ..)).2
    have e2 := lines_len (ps := ps) fun q hq => h q (List.mem_cons_of_mem _ hq)
    show ((lineL p ++ [10]) ++ linesL ps).length ≤ 10 * (ps.length + 1)
    rw [List.length_append, List.length_append, List.length_singleton]; omega
theorem cutS_in (l : List Nat) (a b : Nat) : cutS (S (a :: (l ++ [b]))) (some 1) (some (-1)) = S l := by
  have hl : (S (a :: (l ++ [b]))).length = l.length + 2 := by rw [S_len]; simp
  show (⟨(((S (a :: (l ++ [b]))).cps.toList.drop (HT.sIx (S (a :: (l ++ [b]))).length 0 (some ((1 : Nat) : Int)))).take (HT.sIx (S (a :: (l ++ [b]))).length (S (a :: (l ++ [b]))).length (some (-1)) - HT.sIx (S (a :: (l ++ [b]))).length 0 (some ((1 : Nat) : Int)))).toArray⟩ : Str) = ⟨l.toArray⟩
  rw [hl, HT.sIx_nat]
  have e1 : HT.sIx (l.length + 2) (l.length + 2) (some (-1)) = l.length + 1 := by
    show (if (-1 : Int) < 0 then ((-1 : Int) + ((l.length + 2 : Nat) : Int)).toNat else min (-1 : Int).toNat (l.length + 2)) = l.length + 1
    rw [if_pos (by decide)]
    omega
  rw [e1, Nat.min_eq_left (by omega)]
  refine congrArg (fun z : List Nat => (⟨z.toArray⟩ : Str)) ?_
  show ((l ++ [b])).take (l.length + 1 - 1) = l
  rw [Nat.add_sub_cancel]
  exact List.take_left
theorem starts1 (c : Nat) (l : List Nat) : Txt.startswith (S (c :: l)) (S [c]) = true := by
  unfold Txt.startswith
  rw [PySem.StrLaws.subAt_eq]
  have e1 : (S (c :: l)).length = l.length + 1 := S_len _
  have e2 : (S [c]).length = 1 := rfl
  rw [e1, e2, decide_eq_true (by omega : 0 + 1 ≤ l.length + 1)]
  show (true && (((c :: l).drop 0).take 1 == [c])) = true
  rw [List.drop_zero, List.take_succ_cons, List.take_zero, beq_self_eq_true]; rfl
theorem ends1 (l : List Nat) (c : Nat) : Txt.endswith (S (l ++ [c])) (S [c]) = true := by
  unfold Txt.endswith
  rw [PySem.StrLaws.subAt_eq]
  have e1 : (S (l ++ [c])).length = l.length + 1 := by rw [S_len, List.length_append]; rfl
  have e2 : (S [c]).length = 1 := rfl
  rw [e1, e2, decide_eq_true (by omega : 0 + 1 ≤ l.length + 1)]
  show (true && (((l ++ [c]).drop (l.length + 1 - 1)).take 1 == [c])) = true
  rw [Nat.add_sub_cancel, List.drop_left, List.take_succ_cons, List.take_zero, beq_self_eq_true]; rfl
end RJ
end

section
set_option maxRecDepth 100000
set_option maxHeartbeats 8000000
namespace RJ
open PySem PySem.Spec PyProof.Rows L2
abbrev s_is_number_word : Stmt := top 32
abbrev N_is_number_word : List Str := ["word", "sign"]
theorem sc_is_number_word : FnScope N_is_number_word ["word"] (C8.fnScope s_is_number_word) := C8.fnScope_by (by decide +kernel)
abbrev s_is_alphabet_line : Stmt := top 30
abbrev N_is_alphabet_line : List Str := ["line"]
theorem sc_is_alphabet_line : FnScope N_is_alphabet_line ["line"] (C8.fnScope s_is_alphabet_line) := C8.fnScope_by (by decide +kernel)
abbrev s_leading_pairs : Stmt := top 31
abbrev N_leading_pairs : List Str := ["lines", "pairs", "line", "words", "word"]
theorem sc_leading_pairs : FnScope N_leading_pairs ["lines"] (C8.fnScope s_leading_pairs) := C8.fnScope_by (by decide +kernel)
abbrev s_joins_of_lines : Stmt := top 33
abbrev N_joins_of_lines : List Str := ["text", "alphabet", "pairs", "wrong"]
theorem sc_joins_of_lines : FnScope N_joins_of_lines ["text", "alphabet", "pairs"] (C8.fnScope s_joins_of_lines) := C8.fnScope_by (by decide +kernel)
abbrev s_read_joins : Stmt := top 29
abbrev N_read_joins : List Str := ["text", "lines", "behind", "pairs", "joins"]
theorem sc_read_joins : FnScope N_read_joins ["text"] (C8.fnScope s_read_joins) := C8.fnScope_by (by decide +kernel)
abbrev s_write_joins : Stmt := top 28
abbrev N_write_joins : List Str := ["joins", "left", "right"]
theorem sc_write_joins : FnScope N_write_joins ["joins"] (C8.fnScope s_write_joins) := C8.fnScope_by (by decide +kernel)
abbrev s_Joins___iter__ : Stmt := inClass (top 25) 3
abbrev N_Joins___iter__ : List Str := ["self"]
theorem sc_Joins___iter__ : FnScope N_Joins___iter__ ["self"] (C8.fnScope s_Joins___iter__) := C8.fnScope_by (by decide +kernel)
def Sml (ps : List (Nat × Nat)) : Prop := ∀ p ∈ ps, p.1 < 1000 ∧ p.2 < 1000
def sp_iterS (C : Addr) (n0 : Nat) : Sp := fun vs H Q _ => ∃ (p : Addr) (al : List Nat) (ps : List (Nat × Nat)), vs = [.ref p] ∧ JoinsAt C H p al ps ∧
  ∀ it pa us, H pa = some (.tup us) → PairsAt H us ps → H it = none → n0 ≤ it → Q (.ref it) (upd H it (TupS it pa))
def sp_numw : Sp := fun vs H Q _ => ∃ n : Nat, vs = [.str (S (TL.numL n))] ∧ n < 1000 ∧ ∀ H', Same H H' → Q (.bl true) H'
def sp_alline : Sp := fun vs H Q _ => ∃ al : List Nat, vs = [.str (S (headL al))] ∧ alOk al = true ∧ al.length ≤ 30 ∧ ∀ H', Same H H' → Q (.bl true) H'
def sp_leading : Sp := fun vs H Q _ => ∃ (a : Addr) (ps : List (Nat × Nat)), vs = [.ref a] ∧ H a = some (.lst (ps.map fun p => V.str (S (lineL p)))) ∧ Sml ps ∧ ps.length ≤ 100 ∧
  ∀ H' p us, Same H H' → H p = none → H' p = some (.lst us) → PairsAt H' us ps → Q (.ref p) H'
def sp_jlines (C : Addr) : Sp := fun vs H Q _ => ∃ (t al : List Nat) (ps : List (Nat × Nat)) (pa : Addr) (us : List V), vs = [.str (S t), .str (S al), .ref pa] ∧ H pa = some (.lst us) ∧ PairsAt H us ps ∧ alOk al = true ∧ al.Nodup ∧ al.length ≤ 30 ∧ Proper al ps ∧ ps.length ≤ 100 ∧
  ∀ H' p, Same H H' → JoinsAt C H' p al ps → Q (.ref p) H'
def sp_readj (C : Addr) : Sp := fun vs H Q _ => ∃ (al : List Nat) (ps : List (Nat × Nat)), vs = [.str (S (txtL al ps))] ∧ alOk al = true ∧ al.Nodup ∧ al.length ≤ 30 ∧ Proper al ps ∧ ps.length ≤ 60 ∧
  ∀ H' p, Same H H' → JoinsAt C H' p al ps → Q (.ref p) H'
def sp_writej (C : Addr) : Sp := fun vs H Q _ => ∃ (p : Addr) (al : List Nat) (ps : List (Nat × Nat)), vs = [.ref p] ∧ JoinsAt C H p al ps ∧ al.length ≤ 30 ∧ Sml ps ∧ ps.length ≤ 100 ∧ ∀ H', Same H H' → Q (.str (S (txtL al ps))) H'
theorem log_small {n : Nat} (h : n < 1000) : ((n : Nat) : Int).natAbs.log2 < 1920 := by
  rw [Int.natAbs_natCast]
  exact Nat.lt_of_le_of_lt (Nat.log2_le_self n) (by omega)
theorem str_num (n : Nat) : V.str (toString ((n : Nat) : Int)) = V.str (S (TL.numL n)) := congrArg V.str (SX.num_S n)
theorem int_numS {n : Nat} (h : n < 1000) : intText? (S (TL.numL n)) = some ((n : Nat) : Int) := by
  have := TL.int_num (n := n) (Nat.le_trans (TL.numL_len (k := 4) (by decide) (by omega)) (by decide))
  rw [SX.num_S] at this; exact this
theorem split_line (p : Nat × Nat) : Txt.split (S (lineL p)) (Str.ofString " ") = [S (TL.numL p.1), S (TL.numL p.2)] := by
  have := SX.split_S (a := lineL p) (b := [32]) (by simp) (by decide)
  rw [spl_line] at this; exact this
def headV (al : List Nat) (ps : List (Nat × Nat)) : List V := V.str (S (headL al)) :: ps.map fun p => V.str (S (lineL p))
theorem split_txt {al : List Nat} (h : alOk al = true) (ps : List (Nat × Nat)) : (Txt.split (S (txtL al ps)) (Str.ofString "\n")).map V.str = headV al ps ++ [V.str (S [])] := by
  have := SX.split_S (a := txtL al ps) (b := [10]) (by simp) (by decide)
  rw [spl_txt h] at this
  rw [show Txt.split (S (txtL al ps)) (Str.ofString "\n") = Txt.split (S (txtL al ps)) (S [10]) from rfl, this, List.map_map, List.cons_append, List.map_cons, List.map_append, List.map_map]
  rfl
theorem txt_len {al : List Nat} {ps : List (Nat × Nat)} (h : Sml ps) : (txtL al ps).length ≤ al.length + 3 + 10 * ps.length := by
  have := lines_len (ps := ps) fun p hp => ⟨Nat.lt_trans (h p hp).1 (by decide), Nat.lt_trans (h p hp).2 (by decide)⟩
  rw [txtL, headL, List.length_append, List.length_cons, List.length_append, List.length_singleton, List.length_cons]; omega
theorem sml_of {al : List Nat} {ps : List (Nat × Nat)} (h : Proper al ps) (h30 : al.length ≤ 30) (hl : ps.length ≤ 100) : Sml ps := by
  intro p hp
  obtain ⟨i, hi⟩ := List.getElem?_of_mem hp
  have hw := h.wf i p hi
  have := (List.getElem?_eq_some_iff.mp hi).1
  omega
theorem cut_head (xs : List V) (h : xs.length ≤ 61) (h1 : 1 ≤ xs.length) : cutV xs (some 1) (some 61) = xs.drop 1 := by
  show (xs.drop (HT.sIx xs.length 0 (some ((1 : Nat) : Int)))).take (HT.sIx xs.length xs.length (some ((61 : Nat) : Int)) - HT.sIx xs.length 0 (some ((1 : Nat) : Int))) = _
  rw [HT.sIx_nat, HT.sIx_nat, Nat.min_eq_left h1, Nat.min_eq_right h, List.take_of_length_le (by rw [List.length_drop]; omega)]
theorem e_bar : Str.empty ++ Str.ofString "|" = S [124] := S_app [] [124]
theorem e_head (al : List Nat) : Str.empty ++ Str.ofString "|" ++ S al ++ Str.ofString "|\n" = S (headL al ++ [10]) := by
  rw [e_bar, S_app, show Str.ofString "|\n" = S [124, 10] from rfl, S_app]
  refine congrArg S ?_
  show 124 :: (al ++ [124, 10]) = 124 :: ((al ++ [124]) ++ [10])
  rw [List.append_assoc]; rfl
theorem eE : Str.empty = S [] := rfl
theorem eSp : Str.ofString " " = S [32] := rfl
theorem eNl : Str.ofString "\n" = S [10] := rfl
theorem e_line (p : Nat × Nat) : Str.empty ++ S (TL.numL p.1) ++ Str.ofString " " ++ S (TL.numL p.2) ++ Str.ofString "\n" = S (lineL p ++ [10]) := by
  rw [show Str.empty ++ S (TL.numL p.1) = S (TL.numL p.1) from S_app [] _, show Str.ofString " " = S [32] from rfl, show Str.ofString "\n" = S [10] from rfl, S_app, S_app, S_app]
  refine congrArg S ?_
  rw [lineL, List.append_assoc (TL.numL p.1)]; rfl
theorem lines_flat (ps : List (Nat × Nat)) : linesL ps = (ps.map fun p => lineL p ++ [10]).flatten := by
  rw [linesL, List.flatMap_def]
theorem all_rep (n : Nat) : (List.replicate n true).all id = true := by
  rw [List.all_eq_true]
  intro b hb
  rw [List.eq_of_mem_replicate hb]; rfl
theorem init_atL {C x dx pa : Addr} {H H1 : Hp} {al : List Nat} {ps : List (Nat × Nat)} {us : List V} {Q : VK} {E : XK} (s1 : Same H H1) (hpa : H1 pa = some (.lst us)) (hps : PairsAt H1 us ps) (hok : alOk al = true) (hnd : al.Nodup) (h30 : al.length ≤ 30) (hprop : Proper al ps) (hpl : ps.length ≤ 100)
    (nx : H1 x = none) (ndx : H1 dx = none) (q : ∀ H', Same H H' → JoinsAt C H' x al ps → Q (.ref x) H') : sp_init C [.ref x, .str (S al), .ref pa] (upd (upd H1 dx (.own x)) x (.ins C dx [])) (fun v H2 => v = .non ∧ Q (.ref x) H2) E := by
  have sM : ∀ (b : Addr) (o : HO), H1 b = some o → b ≠ x ∧ (upd (upd H1 dx (.own x)) x (.ins C dx [])) b = some o := fun b o e => by
    have hb := ne_of_none e nx
    exact ⟨hb, (upd_ne hb).trans ((upd_ne (ne_of_none e ndx)).trans e)⟩
  exact ⟨x, pa, dx, true, al, ps, us, rfl, upd_same, (sM _ _ hpa).2, hps.same (fun b xs e => (sM b _ e).2), hok, hnd, h30, hprop, hpl, fun H4 sx hj => ⟨rfl, q H4 (s1.trans fun b o e => sx b o (sM b o e).1 (sM b o e).2) hj⟩⟩
section
variable {P : Program} {w : World} {K : PySem.W.Frag} {mg : Str → Option Value} {base : Heap}
theorem ok_iterS {f C : Addr} {fd : FuncData} (F : C8.Fun K "__iter__" "Joins.__iter__" s_Joins___iter__ f fd) (T : Txt K mg) (J : JTxt K C) : FnS P w K mg base 1 f fd ["self"] (sp_iterS C) := by
  refine fnS0 F sc_Joins___iter__ (fun n vs H Q E h => ?_) (fun cdv A outer s H vs Q E hr h => ?_)
  · obtain ⟨p, al, ps, rfl, _⟩ := h; rfl
  · obtain ⟨p, al, ps, rfl, ⟨dx, t, tx, d, e, ws, h1, h2, h3, h4, h5, h6⟩, q⟩ := h
    refine ⟨_, (pss_one (ps_ret (pe_callB (call_iterN (n0 := s.heap.objs.size) (Nat.le_refl _)) (by rfl) T.b_iter (by decide +kernel) (pa_cons (pe_fld (pv 0) rfl) pa_nil)))), ?_⟩
    exact ⟨_, rfl, p, C, dx, _, _, rfl, h1, J.cl, J.n2, f5_pairs al t tx d e, t, ws, rfl, h2, fun it hit hn => q it t ws h2 h3 hit hn⟩
theorem ok_numw {f : Addr} {fd : FuncData} (F : C8.Fun K "is_number_word" "is_number_word" s_is_number_word f fd) (T : Txt K mg) : FnOk P w K mg base C8.CX0 1 f fd ["word"] sp_numw := by
  refine C8.fn0 F sc_is_number_word (fun vs H Q E h => ?_) (fun cdv A outer s H vs Q E hr h => ?_)
  · obtain ⟨n, rfl, _⟩ := h; rfl
  · obtain ⟨n, rfl, hn, q⟩ := h
    refine ⟨_, (pss_cons (ps_if (PW.pt (pw_or (pt_not (pt_chain op_le op_le pe_int (pe_callB call_len_str (by rfl) T.b_len PySem.boot_len (pa_cons (pv 0) pa_nil)) (C8.pe_gc rfl T.c_MOST_DIGITS))) (pw_or1 (pt_not (pt_val (pe_callB (cr_all rfl) (by rfl) T.b_all (by decide +kernel) (pa_cons (pe_lc (own := [("sign", 1)]) (g := gName 1) (tt := tYes) rfl sc_is_number_word.nd (pi_str (pv 0)) (blkOk_by (N := N_is_number_word) (sc := C8.fnScope s_is_number_word) (by decide +kernel)) (fun _ _ _ _ _ => (pg_name (i := 1) sc_is_number_word.nd rfl (Or.inl rfl))) (fun _ _ _ _ _ => pts_nil) (fun _ _ _ _ _ => (pe_chain op_le_str op_le_str pe_str (pv 1) pe_str))) pa_nil))))))) (pss_one (ps_ret pe_bl)) pss_nil)
      (pss_one (ps_ret (pe_or (pe_cmpR op_eq (pv 0) pe_str (nomark _)) (pe_one (pe_cmpR op_ne (pe_ix ix_str (pv 0) pe_int (fun _ _ => rfl)) pe_str (nomark _))))))), ?_⟩
    have hl : (TL.numL n).length ≤ 4 := TL.numL_len (by decide) (by omega)
    have h1 : 1 ≤ (TL.numL n).length := List.length_pos_iff.mpr (TL.numL_ne n)
    refine ⟨_, rfl, S (TL.numL n), rfl, by rw [S_len]; exact small_le (by omega), 1, _, rfl, rfl, _, rfl, ?_⟩
    rw [S_len, decide_eq_true (by omega : (1 : Int) ≤ ((TL.numL n).length : Int))]
    refine iteT ⟨_, _, rfl, rfl, _, rfl, ?_⟩
    rw [decide_eq_true (by omega : ((TL.numL n).length : Int) ≤ 4)]
    refine iteF ?_
    have dg := TL.numL_digits n
    refine ⟨_, rfl, S (TL.numL n), rfl, fun D hD => lc_it walk_str (fun i H' => Same H H' ∧ H' D = some (.lst ((List.replicate i true).map V.bl))) ⟨same_new hD, upd_same⟩ (fun _ _ _ _ => trivial) ?_ ?_⟩
    · rintro i x H2 H3 hi ⟨s2, hd2⟩ ⟨rfl, c, hc, rfl⟩
      rw [S_get] at hc
      have hcd := dg c (List.mem_of_getElem? hc)
      have hil : i < (TL.numL n).length := (List.getElem?_eq_some_iff.mp hc).1
      refine ⟨rfl, _, rfl, S [48], S [c], rfl, rfl, _, rfl, ?_⟩
      rw [lt_cps, decide_eq_false (by omega : ¬ c < 48)]
      refine iteT ⟨S [c], S [57], rfl, rfl, ?_⟩
      rw [lt_cps, decide_eq_false (by omega : ¬ 57 < c)]
      refine ⟨_, hd2, ?_, Same.put s2 hD, ?_⟩
      · rw [List.length_map, List.length_replicate]; exact small1000 (by omega)
      · rw [upd_same, List.replicate_succ', List.map_append]; rfl
    · rintro H1 ⟨s1, hd⟩
      refine ⟨D, _, rfl, SqL.of hd, ?_⟩
      have ha : (List.replicate (S (TL.numL n)).cps.size true).all id = true := by
        rw [List.all_eq_true]
        intro b hb
        rw [List.eq_of_mem_replicate hb]; rfl
      rw [ha]
      refine ⟨_, rfl, ?_⟩
      refine iteF ?_
      refine ⟨_, rfl, rfl, _, rfl, ?_⟩
      by_cases h0 : n = 0
      · subst h0
        rw [decide_eq_true (show V.str (S (TL.numL 0)) = V.str (Str.ofString "0") from rfl)]
        exact iteT (q _ s1)
      · obtain ⟨c, r, e, hc⟩ := numL_head n h0
        cases hd0 : decide (V.str (S (TL.numL n)) = V.str (Str.ofString "0")) with
        | true => exact iteT (q _ s1)
        | false =>
          refine iteF ⟨_, rfl, S (TL.numL n), 0, c, rfl, rfl, by rw [S_len]; exact small_le (by omega), ?_, rfl, ?_⟩
          · show atI (TL.numL n) 0 = some c
            rw [e]; exact atI_nat (xs := c :: r) (j := 0) rfl
          · rw [decide_eq_false (show ¬ V.str ⟨#[c]⟩ = V.str (Str.ofString "0") from fun k => hc (by
              have := S_inj (a := [c]) (b := [48]) (V.str.inj k)
              exact (List.cons.inj this).1))]
            exact q _ s1
theorem ok_alline {f : Addr} {fd : FuncData} (F : C8.Fun K "is_alphabet_line" "is_alphabet_line" s_is_alphabet_line f fd) (T : Txt K mg) (c_is_alphabet : C8.Cal P w K mg base 2 "is_alphabet" sp_is_alphabet []) : FnOk P w K mg base C8.CX0 3 f fd ["line"] sp_alline := by
  refine C8.fn0 F sc_is_alphabet_line (fun vs H Q E h => ?_) (fun cdv A outer s H vs Q E hr h => ?_)
  · obtain ⟨al, rfl, _⟩ := h; rfl
  · obtain ⟨al, rfl, hok, hl, q⟩ := h
    refine ⟨_, (pss_one (ps_ret (pe_and (pe_bm PySem.F.plainAttrs_str PySem.F.slot_str_startswith PySem.F.type_str_startswith mt_startswith (pv 0) (pa_cons pe_str pa_nil)) (pe_and (pe_bm PySem.F.plainAttrs_str PySem.F.slot_str_endswith PySem.F.type_str_endswith mt_endswith (pv 0) (pa_cons pe_str pa_nil)) (pe_one (C8.pe_c c_is_alphabet hr (by first | decide | omega) (by rfl) (pa_cons (pe_slice sl_str (pv 0) (po_some pe_int) (po_some (pe_un un_neg pe_int))) pa_nil))))))), ?_⟩
    refine ⟨_, rfl, rfl, _, _, rfl, rfl, _, rfl, ?_⟩
    rw [show Txt.startswith (S (headL al)) (Str.ofString "|") = true from starts1 124 (al ++ [124])]
    refine iteT ⟨_, rfl, rfl, _, _, rfl, rfl, _, rfl, ?_⟩
    rw [show Txt.endswith (S (headL al)) (Str.ofString "|") = true from ends1 (124 :: al) 124]
    refine iteT ⟨_, rfl, 1, rfl, 1, rfl, -1, rfl, S (headL al), rfl, ?_, ?_⟩
    · rw [S_len]; exact small_le (by rw [headL, List.length_cons, List.length_append, List.length_singleton]; omega)
    have e1 : cutS (S (headL al)) (some 1) (some (-1)) = S al := cutS_in al 124 124
    rw [e1]
    refine ⟨al, rfl, by omega, fun H' s1 => ?_⟩
    rw [hok]
    exact q _ s1
theorem ok_leading {f : Addr} {fd : FuncData} (F : C8.Fun K "leading_pairs" "leading_pairs" s_leading_pairs f fd) (T : Txt K mg) (c_is_number_word : C8.Cal P w K mg base 1 "is_number_word" sp_numw []) : FnOk P w K mg base C8.CX0 2 f fd ["lines"] sp_leading := by
  refine C8.fn0 F sc_leading_pairs (fun vs H Q E h => ?_) (fun cdv A outer s H vs Q E hr h => ?_)
  · obtain ⟨a, ps, rfl, _⟩ := h; rfl
  · obtain ⟨a, ps, rfl, ha, hsm, hpl, q⟩ := h
    refine ⟨_, (pss_cons (ps_set (i := 1) sc_leading_pairs.nd rfl (Or.inl rfl) (pe_lst pa_nil))
      (pss_cons (ps_for PassesOwn.never rfl (pi_list (pv 0)) (pg_name (i := 2) sc_leading_pairs.nd rfl (Or.inl rfl)) (pss_cons (ps_set (i := 3) sc_leading_pairs.nd rfl (Or.inl rfl) (pe_split (pv 2) pe_str))
      (pss_cons (ps_if (PW.pt (pw_or (pt_cmpR op_ne (pe_callB call_len_seq (by rfl) T.b_len PySem.boot_len (pa_cons (pv 3) pa_nil)) pe_int (nomark _)) (pw_or1 (pt_not (pt_val (pe_callB (cr_all rfl) (by rfl) T.b_all (by decide +kernel) (pa_cons (pe_lc (own := [("word", 4)]) (g := gName 4) (tt := tYes) rfl sc_leading_pairs.nd (pi_list (pv 3)) (blkOk_by (N := N_leading_pairs) (sc := C8.fnScope s_leading_pairs) (by decide +kernel)) (fun _ _ _ _ _ => (pg_name (i := 4) sc_leading_pairs.nd rfl (Or.inl rfl))) (fun _ _ _ _ _ => pts_nil) (fun _ _ _ _ _ => (C8.pe_c c_is_number_word hr (by first | decide | omega) (by rfl) (pa_cons (pv 4) pa_nil)))) pa_nil))))))) (pss_one ps_break) pss_nil)
      (pss_one (ps_expr (pe_bm PySem.F.plainAttrs_list PySem.F.slot_list_append PySem.F.type_list_append mt_append (pv 1) (pa_cons (pe_tup (pa_cons (pe_callTy call_int_str (by rfl) T.b_int (by decide +kernel) (pa_cons (pe_ix ix_list (pv 3) pe_int (fun _ _ => rfl)) pa_nil)) (pa_cons (pe_callTy call_int_str (by rfl) T.b_int (by decide +kernel) (pa_cons (pe_ix ix_list (pv 3) pe_int (fun _ _ => rfl)) pa_nil)) pa_nil))) pa_nil)))))))
      (pss_one (ps_ret (pv 1))))), ?_⟩
    refine ⟨Nat.zero_le _, fun D hD => ?_⟩
    have sD : Same H (upd H D (.lst [])) := same_new hD
    refine ⟨_, rfl, a, rfl, ⟨_, SqL.of (sD _ _ ha)⟩, for_it walk_list (fun i σ H' => ∃ (us : List V) (v2 v3 v4 : Option V), σ = [some (.ref a), some (.ref D), v2, v3, v4] ∧ Same H H' ∧ H' D = some (.lst us) ∧ PairsAt H' us (ps.take i))
      ⟨[], none, none, none, rfl, sD, upd_same, .nil⟩ (fun i σ H' _ ⟨_, _, _, _, _, sa, _⟩ => SqL.of (sa _ _ ha)) ?_ ?_⟩
    · rintro i x σ Ha Hb hi ⟨us, v2, v3, v4, rfl, sa, hDa, hus⟩ ⟨rfl, hx⟩
      rw [List.length_map] at hi
      obtain ⟨pr, hpr⟩ : ∃ pr, ps[i]? = some pr := ⟨_, List.getElem?_eq_getElem hi⟩
      have hx2 : x = V.str (S (lineL pr)) := by
        have e1 : (ps.map fun p => V.str (S (lineL p)))[i]? = some x := hx
        rw [List.getElem?_map, hpr] at e1
        exact (Option.some.inj e1).symm
      subst hx2
      have hm := hsm pr (List.mem_of_getElem? hpr)
      have hll := line_len (p := pr) (by omega) (by omega)
      refine ⟨_, rfl, ⟨_, rfl⟩, S (lineL pr), Str.ofString " ", rfl, rfl, rfl, by rw [S_len, sizeLine_eq]; omega, ?_⟩
      rw [split_line]
      intro p3 hp3
      have n3D : p3 ≠ D := fun e => by rw [e, hDa] at hp3; cases hp3
      have s3 := same_new (o := .lst ([S (TL.numL pr.1), S (TL.numL pr.2)].map V.str)) hp3
      refine ⟨_, rfl, p3, _, rfl, .inl (SqL.of upd_same), rfl, _, rfl, ?_⟩
      rw [decide_eq_true (show V.int ((([S (TL.numL pr.1), S (TL.numL pr.2)].map V.str).length : Nat) : Int) = V.int 2 from rfl)]
      refine iteF ?_
      refine ⟨_, rfl, p3, rfl, ⟨_, SqL.of upd_same⟩, fun D2 hD2 => lc_it walk_list (fun j H' => Same (upd Hb p3 (.lst ([S (TL.numL pr.1), S (TL.numL pr.2)].map V.str))) H' ∧ H' D2 = some (.lst ((List.replicate j true).map V.bl))) ⟨same_new hD2, upd_same⟩ (fun _ H' _ ⟨s', _⟩ => SqL.of (s' _ _ upd_same)) ?_ ?_⟩
      · rintro j x H2 H3 hj ⟨s2, hd2⟩ ⟨rfl, hx⟩
        obtain ⟨n, rfl, hn⟩ : ∃ n, x = V.str (S (TL.numL n)) ∧ n < 1000 := by
          match j, hx with
          | 0, hx => exact ⟨pr.1, (Option.some.inj hx).symm, hm.1⟩
          | 1, hx => exact ⟨pr.2, (Option.some.inj hx).symm, hm.2⟩
          | j + 2, _ => exact absurd hj (by simp)
        refine ⟨rfl, _, rfl, n, rfl, hn, fun H4 s4 => ⟨_, s4 _ _ hd2, ?_, Same.put (s2.trans s4) hD2, ?_⟩⟩
        · rw [List.length_map, List.length_replicate]; exact small1000 (by have : j < 2 := hj; omega)
        · rw [upd_same, List.replicate_succ', List.map_append]; rfl
      · rintro H2 ⟨s2, hd2⟩
        refine ⟨D2, _, rfl, SqL.of hd2, ?_⟩
        rw [all_rep]
        refine ⟨_, rfl, iteF ?_⟩
        have h3' := s2 _ _ upd_same
        have hDa2 := s2 _ _ (s3 _ _ hDa)
        have b1 := hm.1
        have b2 := hm.2
        have l1 : (TL.numL pr.1).length ≤ 4 := TL.numL_len (by decide) (by omega)
        have l2 : (TL.numL pr.2).length ≤ 4 := TL.numL_len (by decide) (by omega)
        refine ⟨_, rfl, .inl ⟨rfl, _, SqL.of hDa2⟩, _, rfl, p3, _, 0, V.str (S (TL.numL pr.1)), rfl, rfl, SqL.of h3', atI_nat (j := 0) rfl, S (TL.numL pr.1), _, rfl, int_numS b1, by rw [S_len]; omega, _, rfl, p3, _, 1, V.str (S (TL.numL pr.2)), rfl, rfl, SqL.of h3', atI_nat (j := 1) rfl, S (TL.numL pr.2), _, rfl, int_numS b2, by rw [S_len]; omega, by show 2 ≤ sizeLine; decide, fun g hg => ?_⟩
        have sg := same_new (o := .tup [.int (pr.1 : Int), .int (pr.2 : Int)]) hg
        have hul : us.length = i := by rw [hus.length, List.length_take]; omega
        refine ⟨D, us, _, rfl, rfl, sg _ _ hDa2, small1000 (by omega), ?_⟩
        have sT := SameT.put (o := .lst (us ++ [V.ref g])) (sg _ _ hDa2)
        refine ⟨us ++ [V.ref g], _, _, _, rfl, Same.put ((((sa.trans s3).trans s2)).trans sg) hD, upd_same, ?_⟩
        have et : ps.take (i + 1) = ps.take i ++ [pr] := by rw [List.take_add_one, hpr]; rfl
        rw [et]
        exact Paired.snoc ⟨g, rfl, sT _ _ upd_same⟩ (((hus.same (Same.t s3)).same (Same.t s2)).same (Same.t sg) |>.same sT)
    · rintro σ H2 ⟨us, v2, v3, v4, rfl, s2, hD2, hus⟩
      rw [List.length_map, List.take_length] at hus
      exact ⟨_, rfl, q _ _ us s2 hD hD2 hus⟩
theorem ok_jlines {f C CNotProper : Addr} {fd : FuncData} (F : C8.Fun K "joins_of_lines" "joins_of_lines" s_joins_of_lines f fd) (T : Txt K mg) (GNotProper : mg "NotProper" = some (.ref CNotProper)) (k_Joins : C8.Mak P w K mg base 4 "Joins" C (sp_init C) []) : FnOk P w K mg base C8.CX0 6 f fd ["text", "alphabet", "pairs"] (sp_jlines C) := by
  refine C8.fn0 F sc_joins_of_lines (fun vs H Q E h => ?_) (fun cdv A outer s H vs Q E hr h => ?_)
  · obtain ⟨t, al, ps, pa, us, rfl, _⟩ := h; rfl
  · obtain ⟨t, al, ps, pa, us, rfl, hpa, hps, hok, hnd, h30, hprop, hpl, q⟩ := h
    refine ⟨_, (pss_one (L2N.ps_try_as (i := 3) rfl rfl sc_joins_of_lines.nd rfl rfl (c := .ref CNotProper) ⟨by rfl, by decide, .inl GNotProper⟩ takes0 (fun W pn xe tk po => (pss_one (ps_ret (C8.pe_mk k_Joins hr (by first | decide | omega) (by rfl) (pa_cons (pv 1) (pa_cons (pv 2) pa_nil)))))) (fun a oe cls d pn hz hf => (pss_one ps_never)))), ?_⟩
    refine ⟨_, rfl, _, rfl, fun y dx ny ndx nex => ?_⟩
    exact init_atL (Same.refl H) hpa hps hok hnd h30 hprop hpl ny ndx fun H' s' hj' => q H' y s' hj'
theorem ok_readj {f C : Addr} {fd : FuncData} (F : C8.Fun K "read_joins" "read_joins" s_read_joins f fd) (T : Txt K mg) (c_is_alphabet_line : C8.Cal P w K mg base 3 "is_alphabet_line" sp_alline []) (c_leading_pairs : C8.Cal P w K mg base 2 "leading_pairs" sp_leading []) (c_joins_of_lines : C8.Cal P w K mg base 6 "joins_of_lines" (sp_jlines C) []) : FnOk P w K mg base C8.CX0 7 f fd ["text"] (sp_readj C) := by
  refine C8.fn0 F sc_read_joins (fun vs H Q E h => ?_) (fun cdv A outer s H vs Q E hr h => ?_)
  · obtain ⟨al, ps, rfl, _⟩ := h; rfl
  · obtain ⟨al, ps, rfl, hok, hnd, h30, hprop, hpl, q⟩ := h
    refine ⟨_, (pss_cons (ps_asg (pe_split (pv 0) pe_str) (pg_star1 rfl (pg_name (i := 1) sc_read_joins.nd rfl (Or.inl rfl)) (pg_name (i := 2) sc_read_joins.nd rfl (Or.inl rfl))))
      (pss_cons (ps_if (PW.pt (pw_or (pt_not (pt_truth (pv 1) (fun _ => rfl))) (pw_or1 (pt_not (pt_val (C8.pe_c c_is_alphabet_line hr (by first | decide | omega) (by rfl) (pa_cons (pe_ix ix_list (pv 1) pe_int (fun _ _ => rfl)) pa_nil))))))) (pss_one ps_never) pss_nil)
      (pss_cons (ps_set (i := 3) sc_read_joins.nd rfl (Or.inl rfl) (C8.pe_c c_leading_pairs hr (by first | decide | omega) (by rfl) (pa_cons (pe_slice sl_list (pv 1) (po_some pe_int) (po_some (pe_op op_add (C8.pe_gc rfl T.c_MOST_JOINS) pe_int))) pa_nil)))
      (pss_cons (ps_set (i := 4) sc_read_joins.nd rfl (Or.inl rfl) (C8.pe_c c_joins_of_lines hr (by first | decide | omega) (by rfl) (pa_cons (pv 0) (pa_cons (pe_slice sl_str (pe_ix ix_list (pv 1) pe_int (fun _ _ => rfl)) (po_some pe_int) (po_some (pe_un un_neg pe_int))) (pa_cons (pv 3) pa_nil)))))
      (pss_cons (ps_if (PW.pt (pw_or (pt_cmpR op_lt (pe_op op_add (pe_callB call_len_seq (by rfl) T.b_len PySem.boot_len (pa_cons (pv 3) pa_nil)) pe_int) (pe_callB call_len_seq (by rfl) T.b_len PySem.boot_len (pa_cons (pv 1) pa_nil)) (nomark _)) (pw_or1 (pt_cmpR op_ne (pv 2) pe_str (nomark _))))) (pss_one ps_never) pss_nil)
      (pss_one (ps_ret (pv 4)))))))), ?_⟩
    have hsm := sml_of hprop h30 (by omega)
    have htl := txt_len (al := al) hsm
    refine ⟨_, rfl, ⟨_, rfl⟩, S (txtL al ps), Str.ofString "\n", rfl, rfl, rfl, by rw [S_len, sizeLine_eq]; omega, ?_⟩
    intro p3 hp3
    rw [split_txt hok]
    refine ⟨p3, headV al ps, _, rfl, SqL.of upd_same, fun L hL => ?_⟩
    have s3 : Same H (upd (upd H p3 (HO.lst (headV al ps ++ [V.str (S [])]))) L (HO.lst (headV al ps))) := (same_new hp3).trans (same_new hL)
    have hLL : (upd (upd H p3 (HO.lst (headV al ps ++ [V.str (S [])]))) L (HO.lst (headV al ps))) L = some (.lst (headV al ps)) := upd_same
    revert s3 hLL
    generalize (upd (upd H p3 (HO.lst (headV al ps ++ [V.str (S [])]))) L (HO.lst (headV al ps))) = H3
    intro s3 hLL
    have hlen : (headV al ps).length = ps.length + 1 := by rw [headV, List.length_cons, List.length_map]
    have hh : (headL al).length ≤ 100 := by rw [headL, List.length_cons, List.length_append, List.length_singleton]; omega
    have at0 : atI (headV al ps) 0 = some (V.str (S (headL al))) := atI_nat (j := 0) rfl
    refine ⟨_, rfl, true, .inl ⟨_, SqL.of hLL, rfl⟩, iteF ⟨_, rfl, L, _, 0, V.str (S (headL al)), rfl, rfl, SqL.of hLL, at0, al, rfl, hok, h30, fun H4 s4 => ⟨_, rfl, iteF ?_⟩⟩⟩
    have hL4 := s4 _ _ hLL
    refine ⟨_, rfl, 1, rfl, 60, 1, rfl, rfl, 61, rfl, L, _, rfl, SqL.of hL4, fun p5 hp5 => ?_⟩
    rw [cut_head _ (by omega) (by omega)]
    have s5 := same_new (o := .lst (ps.map fun p => V.str (S (lineL p)))) hp5
    refine ⟨p5, ps, rfl, upd_same, hsm, by omega, fun H6 p6 us s6 hn6 hp6 hps6 => ?_⟩
    have s16 := ((s3.trans s4).trans s5).trans s6
    have hL6 := s6 _ _ (s5 _ _ hL4)
    refine ⟨_, rfl, _, rfl, L, _, 0, V.str (S (headL al)), rfl, rfl, SqL.of hL6, at0, 1, rfl, 1, rfl, -1, rfl, S (headL al), rfl, by rw [S_len]; exact small_le (by omega), _, rfl, txtL al ps, al, ps, p6, us, ?_, hp6, hps6, hok, hnd, h30, hprop, by omega, fun H7 y s7 hj => ?_⟩
    · rw [show cutS (S (headL al)) (some 1) (some (-1)) = S al from cutS_in al 124 124]; rfl
    have hul : us.length = ps.length := hps6.length
    refine ⟨_, rfl, p6, us, rfl, .inl (SqL.of (s7 _ _ hp6)), _, 1, rfl, rfl, _, rfl, L, _, rfl, .inl (SqL.of (s7 _ _ hL6)), _, _, rfl, rfl, _, rfl, ?_⟩
    rw [decide_eq_false (by omega : ¬ ((us.length : Int) + 1 < ((headV al ps).length : Int)))]
    refine iteF ⟨_, rfl, rfl, _, rfl, ?_⟩
    rw [decide_eq_true (show V.str (S []) = V.str (Str.ofString "") from rfl)]
    exact iteF ⟨_, rfl, q H7 y (s16.trans s7) hj⟩
theorem ok_writej {f C : Addr} {fd : FuncData} (F : C8.Fun K "write_joins" "write_joins" s_write_joins f fd) (T : Txt K mg) (J : JTxt K C) (n___iter__ : MetS P w K mg base 1 C "__iter__" (sp_iterS C)) : FnOk P w K mg base C8.CX0 4 f fd ["joins"] (sp_writej C) := by
  refine C8.fn0 F sc_write_joins (fun vs H Q E h => ?_) (fun cdv A outer s H vs Q E hr h => ?_)
  · obtain ⟨p, al, ps, rfl, _⟩ := h; rfl
  · obtain ⟨p, al, ps, rfl, hj, h30, hsm, hpl, q⟩ := h
    refine ⟨_, (pss_one (ps_ret (pe_op op_add_str (pe_joined (PJ.cons pe_str (PJ.cons (pe_fmt (pe_fld (pv 0) rfl)) (PJ.cons pe_str PJ.nil)))) (pe_join pe_str (pe_lc (own := [("left", 1), ("right", 2)]) (g := gTup K 2 (gCons (gName 1) (gCons (gName 2) (gNil)))) (tt := tYes) rfl sc_write_joins.nd (pi_iterS n___iter__ hr (by decide) (pv 0)) (blkOk_by (N := N_write_joins) (sc := C8.fnScope s_write_joins) (by decide +kernel)) (fun _ _ _ _ _ => (pg_tup rfl (pgs_cons (pg_name (i := 1) sc_write_joins.nd rfl (Or.inl rfl)) (pgs_cons (pg_name (i := 2) sc_write_joins.nd rfl (Or.inl rfl)) pgs_nil)))) (fun _ _ _ _ _ => pts_nil) (fun _ _ _ _ _ => (pe_joined (PJ.cons (pe_fmt (pv 1)) (PJ.cons pe_str (PJ.cons (pe_fmt (pv 2)) (PJ.cons pe_str PJ.nil))))))))))), ?_⟩
    obtain ⟨dx, t, tx, d, e, ws, h1, h2, h3, h4, h5, h6⟩ := id hj
    refine ⟨_, rfl, by rw [e_bar, S_len]; exact small_le (by decide), _, rfl, p, C, dx, _, _, rfl, h1, J.cl, J.n1, f5_alphabet al t tx d e, .inl ⟨S al, rfl, by rw [S_len]; exact small_le (by omega), _, rfl, by rw [e_bar, S_app, S_len]; exact small_le (by rw [List.length_append, List.length_singleton]; omega), _, rfl, by rw [e_head, S_len]; exact small_le (by rw [headL, List.length_append, List.length_cons, List.length_append, List.length_singleton, List.length_singleton]; omega), ?_⟩⟩
    rw [e_head]
    refine ⟨⟨_, rfl⟩, _, rfl, p, dx, _, rfl, h1, fun n0 => ⟨p, al, ps, rfl, hj, fun it pa us hpa hps hit hn => ⟨it, pa, rfl, hit, hn, rfl, fun D hD => lc_it (te := fun σ H Q => tJs [tFmt (tVar 1), tC (V.str (Str.ofString " ")), tFmt (tVar 2), tC (V.str (Str.ofString "\n"))] Str.empty σ H fun out H1 => Q (V.str out) H1) walk_tup (fun i H' => Same H H' ∧ H' D = some (.lst ((ps.take i).map fun p => V.str (S (lineL p ++ [10]))))) ⟨same_new hD, upd_same⟩ (fun i H' _ ⟨s', _⟩ => SqT.of (s' _ _ hpa)) ?_ ?_⟩⟩⟩
    · rintro i x H2 H3 hi ⟨s2, hd2⟩ ⟨rfl, hx⟩
      have hil : i < ps.length := by rw [← hps.length]; exact hi
      obtain ⟨pr, hpr⟩ : ∃ pr, ps[i]? = some pr := ⟨_, List.getElem?_eq_getElem hil⟩
      obtain ⟨x', hx', g, rfl, hg⟩ := Paired.at2 hps hpr
      obtain rfl : x = V.ref g := Option.some.inj (hx.symm.trans hx')
      have hm := hsm pr (List.mem_of_getElem? hpr)
      have b1 := hm.1
      have b2 := hm.2
      have l1 : (TL.numL pr.1).length ≤ 4 := TL.numL_len (by decide) (by omega)
      have l2 : (TL.numL pr.2).length ≤ 4 := TL.numL_len (by decide) (by omega)
      refine ⟨g, _, rfl, SqT.of (s2 _ _ hg), rfl, _, _, rfl, _, _, rfl, rfl, rfl, _, rfl, .inr ⟨_, rfl, log_small b1, S (TL.numL pr.1), str_num pr.1, by simp only [eE, eSp, eNl, S_app, S_len, List.length_append, List.length_cons, List.length_nil]; exact small_le (by omega), _, rfl, by simp only [eE, eSp, eNl, S_app, S_len, List.length_append, List.length_cons, List.length_nil]; exact small_le (by omega), _, rfl, .inr ⟨_, rfl, log_small b2, S (TL.numL pr.2), str_num pr.2, by simp only [eE, eSp, eNl, S_app, S_len, List.length_append, List.length_cons, List.length_nil]; exact small_le (by omega), _, rfl, by simp only [eE, eSp, eNl, S_app, S_len, List.length_append, List.length_cons, List.length_nil]; exact small_le (by omega), ?_⟩⟩⟩
      refine ⟨_, hd2, ?_, Same.put s2 hD, ?_⟩
      · rw [List.length_map, List.length_take]; exact small1000 (by omega)
      · rw [upd_same, e_line, map_take_succ hpr]
    · rintro H2 ⟨s2, hd2⟩
      rw [hps.length, List.take_length] at hd2
      have ey : (ps.map fun p => V.str (S (lineL p ++ [10]))) = ((ps.map fun p => lineL p ++ [10]).map S).map V.str := by rw [List.map_map, List.map_map]; rfl
      rw [ey] at hd2
      have hll := lines_len (ps := ps) fun p hp => ⟨Nat.lt_trans (hsm p hp).1 (by decide), Nat.lt_trans (hsm p hp).2 (by decide)⟩
      refine ⟨Str.ofString "", D, _, rfl, rfl, .inl (SqL.of hd2), ?_, ?_⟩
      · rw [SX.lens, ← List.length_flatten, ← lines_flat]
        show _ + _ * 0 ≤ _
        omega
      · have ej : Txt.join (Str.ofString "") ((ps.map fun p => lineL p ++ [10]).map S) = S (linesL ps) := by
          rw [show Str.ofString "" = S [] from rfl, SX.join_S, joinL_nil, ← lines_flat]
        rw [ej]
        refine ⟨_, _, rfl, rfl, ?_, ?_⟩
        · rw [S_len, S_len, sizeLine_eq, headL, List.length_append, List.length_cons, List.length_append, List.length_singleton, List.length_singleton]; omega
        · rw [S_app, show headL al ++ [10] ++ linesL ps = txtL al ps by rw [txtL, List.append_assoc]; rfl]
          exact q H2 s2
end
end RJ
end

section
set_option maxRecDepth 100000
set_option maxHeartbeats 8000000
namespace RJ
open PySem PySem.Spec PyProof.Rows L2
abbrev s_Joins___eq__ : Stmt := inClass (top 25) 4
abbrev N_Joins___eq__ : List Str := ["self", "other"]
theorem sc_Joins___eq__ : FnScope N_Joins___eq__ ["self", "other"] (C8.fnScope s_Joins___eq__) := C8.fnScope_by (by decide +kernel)
theorem eqv_pairsL : ∀ a b : List (Nat × Nat), PyData.eqvAll (a.map pairD) (b.map pairD) = decide (a = b)
  | [], [] => by simp [PyData.eqvAll]
  | [], _ :: _ => by simp [PyData.eqvAll]
  | _ :: _, [] => by simp [PyData.eqvAll]
  | x :: a, y :: b => by
    rw [List.map_cons, List.map_cons, PyData.eqvAll, eqv_pairsL a b, eqv_pair]
    by_cases h : x = y
    · subst h; simp
    · simp [h]
theorem shaped_pairsT (ps : List (Nat × Nat)) : SeqAt.shaped (.tuple (ps.map pairD)) = true := by
  have h1 : PyData.canLayAll0 (ps.map pairD) = true := by
    induction ps with
    | nil => simp [PyData.canLayAll0]
    | cons p ps ih => rw [List.map_cons, PyData.canLayAll0, ih]; simp [pairD, PyData.canLay0, PyData.canLayAll0]
  have h2 : PyData.depthAll (ps.map pairD) ≤ 1 := by
    clear h1
    induction ps with
    | nil => simp [PyData.depthAll]
    | cons p ps ih =>
      rw [List.map_cons, PyData.depthAll]
      have : PyData.depth (pairD p) = 1 := by simp [pairD, PyData.depth, PyData.depthAll]
      omega
  unfold SeqAt.shaped
  rw [PyData.canLay0, h1, PyData.depth, Bool.true_and]
  exact decide_eq_true (by omega)
def sp_jeq (C : Addr) : Sp := fun vs H Q _ => ∃ (p q : Addr) (al al2 : List Nat) (ps ps2 : List (Nat × Nat)), vs = [.ref p, .ref q] ∧ JoinsAt C H p al ps ∧ JoinsAt C H q al2 ps2 ∧ ps.length ≤ 1000 ∧ ps2.length ≤ 1000 ∧ Q (.bl (decide (al = al2 ∧ ps = ps2))) H
section
variable {P : Program} {w : World} {K : PySem.W.Frag} {mg : Str → Option Value} {base : Heap}
theorem ok_jeq {f C : Addr} {fd : FuncData} (F : C8.Fun K "__eq__" "Joins.__eq__" s_Joins___eq__ f fd) (T : Txt K mg) (J : JTxt K C) (GJoins : mg "Joins" = some (.ref C)) (ic : C8.InsC K C) : FnOk P w K mg base C8.CX0 1 f fd ["self", "other"] (sp_jeq C) := by
  refine C8.fn0 F sc_Joins___eq__ (fun vs H Q E h => ?_) (fun cdv A outer s H vs Q E hr h => ?_)
  · obtain ⟨p, q, al, al2, ps, ps2, rfl, _⟩ := h; rfl
  · obtain ⟨p, q, al, al2, ps, ps2, rfl, ⟨dx, t, tx, d, e, ws, h1, h2, h3, h4, h5, h6⟩, ⟨dx', t', tx', d', e', ws', g1, g2, g3, g4, g5, g6⟩, hl, hl2, qq⟩ := h
    have hu64 := hu64_of hr
    refine ⟨_, (pss_one (ps_ret (pe_and (pe_callB (C8.call_isC ic) (by rfl) T.b_isinstance (by decide +kernel) (pa_cons (pv 1) (pa_cons (pe_glob (v := .ref C) rfl GJoins rfl) pa_nil))) (pe_and (pe_cmpR op_eq (pe_fld (pv 0) rfl) (pe_fld (pv 1) rfl) (nomark _)) (pe_one (pe_cmpR (op_eqD hu64) (pe_fld (pv 0) rfl) (pe_fld (pv 1) rfl) (nomark _))))))), ?_⟩
    refine ⟨_, rfl, q, dx', _, rfl, g1, _, rfl, iteT ⟨_, rfl, p, C, dx, _, _, rfl, h1, J.cl, J.n1, f5_alphabet al t tx d e, _, rfl, q, C, dx', _, _, rfl, g1, J.cl, J.n1, f5_alphabet al2 t' tx' d' e', rfl, _, rfl, ?_⟩⟩
    by_cases ha : al = al2
    · subst ha
      rw [decide_eq_true rfl]
      refine iteT ⟨_, rfl, p, C, dx, _, _, rfl, h1, J.cl, J.n2, f5_pairs al t tx d e, _, rfl, q, C, dx', _, _, rfl, g1, J.cl, J.n2, f5_pairs al t' tx' d' e', _, _, .tup (SqT.of h2) (dp_pairs h3), .tup (SqT.of g2) (dp_pairs g3), shaped_pairsT ps, shaped_pairsT ps2, ?_⟩
      rw [show PyData.eqv (.tuple (ps.map pairD)) (.tuple (ps2.map pairD)) = decide (ps = ps2) by rw [PyData.eqv, eqv_pairsL]]
      rw [show decide (al = al ∧ ps = ps2) = decide (ps = ps2) from decide_eq_decide.mpr ⟨fun h => h.2, fun h => ⟨rfl, h⟩⟩] at qq
      exact qq
    · rw [decide_eq_false (fun e => ha (S_inj (V.str.inj e)))]
      rw [decide_eq_false (fun h : al = al2 ∧ ps = ps2 => ha h.1)] at qq
      exact iteF qq
end
end RJ
end

section
set_option maxRecDepth 100000
set_option maxHeartbeats 4000000
namespace RJ
open PySem PySem.Spec PyProof.Rows L2
theorem pick16 (n0 n1 : Nat) : ∃ m : Nat, 1 ≤ m ∧ m ≤ 30 ∧ atI [V.int 1, V.int 2, V.int 3, V.int 2, V.int 3, V.int 4, V.int 5, V.int (1 + (n1 : Int) % 30)] ((n0 : Int) % 8) = some (V.int (m : Int)) := by
  obtain ⟨r, hr, hr8⟩ := emod_nat (n0 : Int) 8 (by decide)
  obtain ⟨c, hc, hc30⟩ := emod_nat (n1 : Int) 30 (by decide)
  rw [hr, hc]
  rcases r with _ | _ | _ | _ | _ | _ | _ | _ | r
  · exact ⟨1, by omega, by omega, rfl⟩
  · exact ⟨2, by omega, by omega, rfl⟩
  · exact ⟨3, by omega, by omega, rfl⟩
  · exact ⟨2, by omega, by omega, rfl⟩
  · exact ⟨3, by omega, by omega, rfl⟩
  · exact ⟨4, by omega, by omega, rfl⟩
  · exact ⟨5, by omega, by omega, rfl⟩
  · exact ⟨1 + c, by omega, by omega, rfl⟩
  · omega
theorem pairs_sameN {H : Hp} {n : Nat} {z g : Addr} {us ws : List V} {ps : List (Nat × Nat)} (hz : H z = some (.tup us)) (hg : H g = some (.tup ws)) (hu : PairsAt H us ps) (hw : PairsAt H ws ps) (hl : ps.length ≤ 1000) : SameD H (n + 2) (.ref z) (.ref g) := by
  refine .inr ⟨z, g, us, ws, rfl, rfl, hz, hg, by rw [hu.length]; exact hl, ?_⟩
  have gen : ∀ {T : List (Nat × Nat)} {us ws : List V}, PairsAt H us T → PairsAt H ws T → Paired (SameD H (n + 1)) us ws := by
    intro T
    induction T with
    | nil => intro us ws h1 h2; cases h1; cases h2; exact .nil
    | cons e T ih =>
      intro us ws h1 h2
      cases h1 with
      | cons a1 t1 => cases h2 with
        | cons a2 t2 =>
          refine .cons ?_ (ih t1 t2)
          obtain ⟨y, rfl, hy⟩ := a1
          obtain ⟨y2, rfl, hy2⟩ := a2
          exact .inr ⟨y, y2, _, _, rfl, rfl, hy, hy2, by simp, .cons (SameD.flat rfl n) (.cons (SameD.flat rfl n) .nil)⟩
  exact gen hu hw
/-! ### an alphabet with the line and the blank among its signs -/
theorem cutS_upto (l : List Nat) (k : Nat) : cutS (S l) none (some (k : Int)) = S (l.take k) := by
  show (⟨(((S l).cps.toList.drop (HT.sIx (S l).length 0 none)).take (HT.sIx (S l).length (S l).length (some (k : Int)) - HT.sIx (S l).length 0 none)).toArray⟩ : Str) = ⟨(l.take k).toArray⟩
  rw [HT.sIx_nat, HT.sIx_none, S_len]
  have e : (l.drop 0).take (min k l.length - 0) = l.take k := by
    rw [List.drop_zero, Nat.sub_zero]
    by_cases h : k ≤ l.length
    · rw [Nat.min_eq_left h]
    · rw [Nat.min_eq_right (by omega), List.take_length, List.take_of_length_le (by omega)]
  exact congrArg (fun z : List Nat => (⟨z.toArray⟩ : Str)) e
theorem strike (l : List Nat) (c : Nat) (y z : Str) (hy : y = S [c]) (hz : z = S []) : Txt.replace (S l) y z = S (l.filter (· != c)) := by
  subst hy; subst hz
  exact TL.ext_tl (PyProof.Rows.replace_strikes (S l) c)
def barL (al : List Nat) : List Nat := (((al.filter (· != 124)).filter (· != 32)).take 28) ++ [124, 32]
theorem barL_nodup {al : List Nat} (h : al.Nodup) : (barL al).Nodup := by
  have h1 : (((al.filter (· != 124)).filter (· != 32)).take 28).Nodup := ((h.filter _).filter _).sublist (List.take_sublist _ _)
  have h2 : ∀ c ∈ ((al.filter (· != 124)).filter (· != 32)).take 28, c ≠ 124 ∧ c ≠ 32 := fun c hc => by
    have := List.mem_of_mem_take hc
    rw [List.mem_filter, List.mem_filter] at this
    exact ⟨by simpa using this.1.2, by simpa using this.2⟩
  refine List.nodup_append.mpr ⟨h1, by decide, fun a ha b hb e => ?_⟩
  subst e
  rcases List.mem_cons.mp hb with e | e
  · exact (h2 a ha).1 e
  · exact (h2 a ha).2 (List.mem_singleton.mp e)
theorem barL_len (al : List Nat) : (barL al).length ≤ 30 ∧ 1 ≤ (barL al).length := by
  rw [barL, List.length_append, List.length_take]
  show min 28 _ + 2 ≤ 30 ∧ 1 ≤ min 28 _ + 2
  omega
theorem barL_SG {al : List Nat} (h : ∀ c ∈ al, c ∈ SG) : ∀ c ∈ barL al, c ∈ SG := by
  intro c hc
  rcases List.mem_append.mp hc with hc | hc
  · have := List.mem_of_mem_take hc
    rw [List.mem_filter, List.mem_filter] at this
    exact h c this.1.1
  · rcases List.mem_cons.mp hc with rfl | hc
    · decide +kernel
    · rw [List.mem_singleton.mp hc]; decide +kernel
/-! ### different pairs of letters -/
theorem run_two {b : Nat} {p : Nat × Nat} : ∀ (ps : List (Nat × Nat)) (k : Nat), p ∉ ps → run b ps k [p.1, p.2] = [p.1, p.2]
  | [], _, _ => rfl
  | q :: ps, k, h => by
    have hq : ¬ (p.1 = q.1 ∧ p.2 = q.2) := fun e => h (by rw [show p = q from Prod.ext e.1 e.2]; exact List.mem_cons_self ..)
    show run b ps (k + 1) (pass q.1 q.2 (b + k) [p.1, p.2]) = _
    rw [pass, if_neg hq]
    exact run_two ps (k + 1) fun z => h (List.mem_cons_of_mem _ z)
theorem proper_pairs {al : List Nat} (hnd : al.Nodup) {K : Nat} {f : Nat → Nat × Nat} (h : ∀ k, k < K → (f k).1 < al.length ∧ (f k).2 < al.length) (hf : ∀ i j, i < j → j < K → f i ≠ f j) : Proper al ((List.range K).map f) := by
  intro i p e
  have hi : i < K := by have := (List.getElem?_eq_some_iff.mp e).1; rwa [List.length_map, List.length_range] at this
  have ep : p = f i := by
    rw [List.getElem?_map, List.getElem?_range hi] at e
    exact (Option.some.inj e).symm
  subst ep
  obtain ⟨b1, b2⟩ := h i hi
  have t1 : (textsOf al (((List.range K).map f).take i)).getD (f i).1 [] = [al[(f i).1]] := texts_letter (List.getElem?_eq_getElem b1)
  have t2 : (textsOf al (((List.range K).map f).take i)).getD (f i).2 [] = [al[(f i).2]] := texts_letter (List.getElem?_eq_getElem b2)
  refine ⟨by rw [textsOf_len]; omega, by rw [textsOf_len]; omega, by rw [t1, t2]; show 2 ≤ 40; decide, ?_⟩
  rw [t1, t2]
  have el : lets al ([al[(f i).1]] ++ [al[(f i).2]]) = [(f i).1, (f i).2] := by
    show [al.idxOf al[(f i).1], al.idxOf al[(f i).2]] = _
    rw [hnd.idxOf_getElem _ b1, hnd.idxOf_getElem _ b2]
  rw [el]
  refine run_two _ 0 fun hm => ?_
  rw [← List.map_take, List.take_range, Nat.min_eq_left (by omega)] at hm
  obtain ⟨j, hj, ej⟩ := List.mem_map.mp hm
  exact hf j i (List.mem_range.mp hj) hi ej
def pairM (m n k : Nat) : Nat × Nat := (k % m, (k / m + n) % m)
theorem mod_shift {x y m n : Nat} (h : x < y) (hy : y < m) : (x + n) % m ≠ (y + n) % m := by
  intro e
  have := Nat.sub_mod_eq_zero_of_mod_eq e.symm
  rw [show y + n - (x + n) = y - x by omega] at this
  have h2 : (y - x) % m = y - x := Nat.mod_eq_of_lt (by omega)
  omega
theorem pairM_ne {m n : Nat} {i j : Nat} (hij : i < j) (hj : j < m * m) : pairM m n i ≠ pairM m n j := by
  intro e
  have hm : 0 < m := by
    cases m with
    | zero => omega
    | succ _ => exact Nat.succ_pos _
  have e1 : i % m = j % m := congrArg Prod.fst e
  have e2 : (i / m + n) % m = (j / m + n) % m := congrArg Prod.snd e
  have d1 := Nat.div_add_mod i m
  have d2 := Nat.div_add_mod j m
  have hle : i / m ≤ j / m := Nat.div_le_div_right (Nat.le_of_lt hij)
  have hjm : j / m < m := Nat.div_lt_of_lt_mul hj
  by_cases c : i / m = j / m
  · rw [c, e1] at d1; omega
  · exact mod_shift (Nat.lt_of_le_of_ne hle c) hjm e2
theorem proper_pairM {al : List Nat} (hnd : al.Nodup) {K n : Nat} (h1 : 1 ≤ al.length) (hK : K ≤ al.length * al.length) : Proper al ((List.range K).map (pairM al.length n)) :=
  proper_pairs hnd (fun k _ => ⟨Nat.mod_lt _ h1, Nat.mod_lt _ h1⟩) fun i j hij hj => pairM_ne hij (Nat.lt_of_lt_of_le hj hK)
end RJ
end

section
set_option maxRecDepth 100000
set_option maxHeartbeats 16000000
namespace RJ
open PySem PySem.Spec PyProof.Rows L2
def sp_law (K : PySem.W.Frag) : Sp := fun vs H Q _ => ∃ (a : Addr) (zs : List Int), vs = [.ref a] ∧ SqL K H a (zs.map V.int) ∧ zs.length ≤ 63 ∧ ∀ H', Q (.bl true) H'
section
variable {P : Program} {w : World} {K : PySem.W.Frag} {mg : Str → Option Value} {base : Heap}
theorem ok_law {f C : Addr} {fd : FuncData} (F : C8.Fun K "law" "law" s_law f fd) (T : Txt K mg) (J : JTxt K C) (c__law_numbers : C8.Cal P w K mg base 1 "_law_numbers" sp_numbers []) (c__law_alphabet : C8.Cal P w K mg base 1 "_law_alphabet" sp_alphabet [])
    (c__law_list : C8.Cal P w K mg base 4 "_law_list" sp_list []) (k_Joins : C8.Mak P w K mg base 4 "Joins" C (sp_init C) []) (m___eq__ : C8.Met P w K mg base 1 C "__eq__" (sp_jeq C) []) (c_write_joins : C8.Cal P w K mg base 4 "write_joins" (sp_writej C) []) (c_read_joins : C8.Cal P w K mg base 7 "read_joins" (sp_readj C) []) (c__law_same : C8.Cal P w K mg base 3 "_law_same" (sp_same 2) []) : FnOk P w K mg base C8.CX0 8 f fd ["script"] (sp_law K) := by
  refine C8.fn0 F sc_law (fun vs H Q E h => ?_) (fun cdv A outer s H vs Q E hr h => ?_)
  · obtain ⟨a, zs, rfl, _⟩ := h; rfl
  · obtain ⟨a, zs, rfl, hS, hlen, q⟩ := h
    have hu64 := hu64_of hr
    refine ⟨_, (pss_cons (ps_for PassesOwn.never rfl (pi_range1 rfl T.b_range (pa_cons (pe_callB (call_min2 rfl) (by rfl) T.b_min (by decide +kernel) (pa_cons (pe_callB call_len_seq (by rfl) T.b_len PySem.boot_len (pa_cons (pv 0) pa_nil)) (pa_cons pe_int pa_nil))) pa_nil)) (pg_name (i := 1) sc_law.nd rfl (Or.inl rfl)) (pss_cons (ps_set (i := 2) sc_law.nd rfl (Or.inl rfl) (C8.pe_c c__law_numbers hr (by first | decide | omega) (by rfl) (pa_cons (pe_ix ix_list (pv 0) (pv 1) (fun _ _ => rfl)) (pa_cons (pv 1) (pa_cons pe_int pa_nil)))))
      (pss_cons (ps_set (i := 3) sc_law.nd rfl (Or.inl rfl) (C8.pe_c c__law_alphabet hr (by first | decide | omega) (by rfl) (pa_cons (pv 2) (pa_cons pe_int (pa_cons (pe_ix ix_list (pe_lst (pa_cons pe_int (pa_cons pe_int (pa_cons pe_int (pa_cons pe_int (pa_cons pe_int (pa_cons pe_int (pa_cons pe_int (pa_cons (pe_op op_add pe_int (pe_op op_mod (pe_callTy call_int1 (by rfl) T.b_int (by decide +kernel) (pa_cons (pe_ix ix_list (pv 2) pe_int (fun _ _ => rfl)) pa_nil)) pe_int)) pa_nil))))))))) (pe_op op_mod (pe_callTy call_int1 (by rfl) T.b_int (by decide +kernel) (pa_cons (pe_ix ix_list (pv 2) pe_int (fun _ _ => rfl)) pa_nil)) pe_int) (fun _ _ => rfl)) pa_nil)))))
      (pss_cons (ps_if (pt_cmpR op_eq (pe_op op_mod (pe_callTy call_int1 (by rfl) T.b_int (by decide +kernel) (pa_cons (pe_ix ix_list (pv 2) pe_int (fun _ _ => rfl)) pa_nil)) pe_int) pe_int (nomark _)) (pss_one (ps_set (i := 3) sc_law.nd rfl (Or.inl rfl) (pe_joinT (pet_callB (cr_sortedStr rfl) (by rfl) T.b_sorted (by decide +kernel) (pat_cons (CwR.pet_op op_add_str (pet_slice sl_str (CwR.pet_replT (CwR.pet_replC (pv 3))) po_none (po_some pe_int)) (CwR.PET.of pe_str)) pat_nil))))) pss_nil)
      (pss_cons (ps_set (i := 4) sc_law.nd rfl (Or.inl rfl) (C8.pe_c c__law_list hr (by first | decide | omega) (by rfl) (pa_cons (pv 2) (pa_cons pe_int (pa_cons (pv 3) (pa_cons (pe_op op_mod (pe_callTy call_int1 (by rfl) T.b_int (by decide +kernel) (pa_cons (pe_ix ix_list (pv 2) pe_int (fun _ _ => rfl)) pa_nil)) pe_int) pa_nil))))))
      (pss_cons (ps_if (pt_cmpR op_eq (pe_op op_mod (pe_callTy call_int1 (by rfl) T.b_int (by decide +kernel) (pa_cons (pe_ix ix_list (pv 2) pe_int (fun _ _ => rfl)) pa_nil)) pe_int) pe_int (nomark _)) (pss_cons (ps_set (i := 3) sc_law.nd rfl (Or.inl rfl) (C8.pe_c c__law_alphabet hr (by first | decide | omega) (by rfl) (pa_cons (pv 2) (pa_cons pe_int (pa_cons pe_int pa_nil)))))
      (pss_cons (ps_set (i := 5) sc_law.nd rfl (Or.inl rfl) (pe_callB call_len_str (by rfl) T.b_len PySem.boot_len (pa_cons (pv 3) pa_nil)))
      (pss_cons (ps_set (i := 6) sc_law.nd rfl (Or.inl rfl) (pe_lst pa_nil))
      (pss_cons (ps_for PassesOwn.never rfl (pi_range1 rfl T.b_range (pa_cons (pe_op op_sub (pe_callB (call_min2 rfl) (by rfl) T.b_min (by decide +kernel) (pa_cons (pe_op op_sub pe_int (pe_op op_mod (pe_callTy call_int1 (by rfl) T.b_int (by decide +kernel) (pa_cons (pe_ix ix_list (pv 2) pe_int (fun _ _ => rfl)) pa_nil)) pe_int)) (pa_cons (pe_op op_mul (pv 5) (pv 5)) pa_nil))) pe_int) pa_nil)) (pg_name (i := 7) sc_law.nd rfl (Or.inl rfl)) (pss_one (ps_expr (pe_bm PySem.F.plainAttrs_list PySem.F.slot_list_append PySem.F.type_list_append mt_append (pv 6) (pa_cons (pe_tup (pa_cons (pe_op op_mod (pe_callTy call_int1 (by rfl) T.b_int (by decide +kernel) (pa_cons (pv 7) pa_nil)) (pv 5)) (pa_cons (pe_op op_mod (pe_callTy call_int1 (by rfl) T.b_int (by decide +kernel) (pa_cons (pe_op op_add (pe_op op_fdiv (pv 7) (pv 5)) (pe_ix ix_list (pv 2) pe_int (fun _ _ => rfl))) pa_nil)) (pv 5)) pa_nil))) pa_nil)))))
      (pss_one (ps_set (i := 4) sc_law.nd rfl (Or.inl rfl) (pe_tup (pa_cons (pv 6) (pa_cons (pe_lst pa_nil) pa_nil))))))))) pss_nil)
      (pss_cons (ps_set (i := 8) sc_law.nd rfl (Or.inl rfl) (pe_op op_add_str (pe_op op_add_str pe_str (pv 3)) pe_str))
      (pss_cons (ps_for PassesOwn.never rfl (pi_list (pe_ix ix_tup (pv 4) pe_int (fun _ _ => rfl))) (pg_name (i := 9) sc_law.nd rfl (Or.inl rfl)) (pss_one (ps_set (i := 8) sc_law.nd rfl (Or.inl rfl) (pe_op op_add_str (pe_op op_add_str (pe_op op_add_str (pe_op op_add_str (pv 8) (pe_callTy call_str_int (by rfl) T.b_str (by decide +kernel) (pa_cons (pe_ix ix_tup (pv 9) pe_int (fun _ _ => rfl)) pa_nil))) pe_str) (pe_callTy call_str_int (by rfl) T.b_str (by decide +kernel) (pa_cons (pe_ix ix_tup (pv 9) pe_int (fun _ _ => rfl)) pa_nil))) pe_str))))
      (pss_cons (ps_set (i := 10) sc_law.nd rfl (Or.inl rfl) (C8.pe_mk k_Joins hr (by first | decide | omega) (by rfl) (pa_cons (pv 3) (pa_cons (pe_tupleOf (by rfl) T.b_tuple (pe_ix ix_tup (pv 4) pe_int (fun _ _ => rfl))) pa_nil))))
      (pss_cons (ps_if (pt_not (pt_val (C8.pe_c c__law_same hr (by first | decide | omega) (by rfl) (pa_cons (C8.pe_c c_write_joins hr (by first | decide | omega) (by rfl) (pa_cons (pv 10) pa_nil)) (pa_cons (pv 8) pa_nil))))) (pss_one (ps_ret pe_bl)) pss_nil)
      (pss_cons (ps_set (i := 11) sc_law.nd rfl (Or.inl rfl) (C8.pe_c c_read_joins hr (by first | decide | omega) (by rfl) (pa_cons (pv 8) pa_nil)))
      (pss_one (ps_if (PW.pt (pw_or (pt_not (pt_cmpR (op_own m___eq__ hr (by decide)) (pv 11) (pv 10) (nomark _))) (pw_or (pt_not (pt_val (C8.pe_c c__law_same hr (by first | decide | omega) (by rfl) (pa_cons (pe_fld (pv 11) rfl) (pa_cons (pv 3) pa_nil))))) (pw_or1 (pt_not (pt_val (C8.pe_c c__law_same hr (by first | decide | omega) (by rfl) (pa_cons (pe_fld (pv 11) rfl) (pa_cons (pe_tupleOf (by rfl) T.b_tuple (pe_ix ix_tup (pv 4) pe_int (fun _ _ => rfl))) pa_nil))))))))) (pss_one (ps_ret pe_bl)) pss_nil)))))))))))))
      (pss_one (ps_ret pe_bl))), ?_⟩
    obtain ⟨n, hn, hn5, hnz⟩ : ∃ n : Nat, (if (8 : Int) < (zs.length : Int) then (8 : Int) else (zs.length : Int)) = (n : Int) ∧ n ≤ 8 ∧ n ≤ zs.length := by
      by_cases c : (8 : Int) < (zs.length : Int)
      · exact ⟨8, by rw [if_pos c]; rfl, Nat.le_refl _, by omega⟩
      · exact ⟨zs.length, by rw [if_neg c], by omega, Nat.le_refl _⟩
    refine ⟨_, rfl, a, _, rfl, .inl hS, _, _, rfl, ?_⟩
    rw [List.length_map, hn]
    refine ⟨_, rfl, by omega, by omega, for_it walk_range (fun i σ H' => ∃ (v1 v2 v3 v4 v5 v6 v7 v8 v9 v10 v11 : Option V), σ = [some (.ref a), v1, v2, v3, v4, v5, v6, v7, v8, v9, v10, v11] ∧ Same H H')
      ⟨none, none, none, none, none, none, none, none, none, none, none, rfl, Same.refl H⟩ (fun _ _ _ _ _ => trivial) ?_ ?_⟩
    · rintro i x σ Ha Hb hi ⟨v1, v2, v3, v4, v5, v6, v7, v8, v9, v10, v11, rfl, sa⟩ ⟨rfl, hx⟩
      obtain rfl : x = V.int (i : Int) := hx.trans (congrArg V.int (Int.zero_add _))
      have hin : i < n := by simpa using hi
      obtain ⟨z, hz⟩ : ∃ z, (zs.map V.int)[i]? = some (V.int z) := ⟨zs[i]'(by omega), by rw [List.getElem?_map, List.getElem?_eq_getElem (by omega)]; rfl⟩
      -- numbers
      refine ⟨_, rfl, _, rfl, a, _, _, _, rfl, rfl, sa.seq hS, atI_nat hz, _, rfl, z, i, 90, rfl, by omega, by omega, by omega, fun H1 p ns s1 hp0 hnl hns hp => ?_⟩
      obtain ⟨n0, hn0⟩ : ∃ n, ns[0]? = some n := ⟨_, List.getElem?_eq_getElem (by omega)⟩
      obtain ⟨n1, hn1⟩ : ∃ n, ns[1]? = some n := ⟨_, List.getElem?_eq_getElem (by omega)⟩
      obtain ⟨n2, hn2⟩ : ∃ n, ns[2]? = some n := ⟨_, List.getElem?_eq_getElem (by omega)⟩
      obtain ⟨n3, hn3⟩ : ∃ n, ns[3]? = some n := ⟨_, List.getElem?_eq_getElem (by omega)⟩
      obtain ⟨m, hm1, hm30, hm⟩ := pick16 n0 n1
      obtain ⟨m2, hm2, hm17⟩ := emod_nat (n2 : Int) 17 (by decide)
      obtain ⟨m45, hm45, hm45b⟩ := emod_nat (n2 : Int) 45 (by decide)
      have a0 : atI (iv ns) 0 = some (V.int (n0 : Int)) := atI_nat (iv_at hn0)
      have a1 : atI (iv ns) 1 = some (V.int (n1 : Int)) := atI_nat (iv_at hn1)
      have a2 : atI (iv ns) 2 = some (V.int (n2 : Int)) := atI_nat (iv_at hn2)
      have a3 : atI (iv ns) 3 = some (V.int (n3 : Int)) := atI_nat (iv_at hn3)
      -- alphabet
      refine ⟨_, rfl, _, rfl, p, _, _, _, rfl, rfl, SqL.of hp, a1, .inl ⟨_, rfl, _, _, rfl, rfl, by show (0 : Int) < 30; decide, _, _, rfl, rfl, by show 8 ≤ sizeLine; decide, fun D hD => ?_⟩⟩
      have hpD : (upd H1 D (.lst [V.int 1, V.int 2, V.int 3, V.int 2, V.int 3, V.int 4, V.int 5, V.int (1 + (n1 : Int) % 30)])) p = some (.lst (iv ns)) := (upd_ne (ne_of_none hp hD)).trans hp
      have sD : Same H1 (upd H1 D (.lst [V.int 1, V.int 2, V.int 3, V.int 2, V.int 3, V.int 4, V.int 5, V.int (1 + (n1 : Int) % 30)])) := same_new hD
      refine ⟨_, rfl, p, _, _, _, rfl, rfl, SqL.of hpD, a0, .inl ⟨_, rfl, _, _, rfl, rfl, by show (0 : Int) < 8; decide, D, _, _, _, rfl, rfl, SqL.of upd_same, hm, p, ns, 60, m, rfl, hpD, by omega, by omega, hm1, hm30, fun H2 al s2 hok hnd h1 h30 hSG => ?_⟩⟩
      have s12 : Same Hb H2 := s1.trans (sD.trans s2)
      have hp2 := s2 _ _ hpD
      have hal : ∀ c ∈ al, c ∈ SG := hSG.1
      clear hpD sD hD hp s2 hp0 s1 hSG
      dsimp only [gName]
      show tTest _ _ _ _
      generalize hM : tSeq (tAsg (tCall sp_list _ _ _) _) _ _ = M
      have key : ∀ (al : List Nat) (H2 : Hp), Same Hb H2 → H2 p = some (.lst (iv ns)) → alOk al = true → al.Nodup → 1 ≤ al.length → al.length ≤ 30 → M [some (.ref a), some (.int (i : Int)), some (.ref p), some (.str (S al)), v4, v5, v6, v7, v8, v9, v10, v11] H2 := by
        clear hal h30 h1 hnd hok hp2 s12
        intro al H2 s12 hp2 hok hnd h1 h30
        rw [← hM]
        clear hM
        -- a list
        refine ⟨_, rfl, _, rfl, _, rfl, p, _, _, _, rfl, rfl, SqL.of hp2, a2, .inl ⟨_, rfl, _, _, rfl, rfl, by show (0 : Int) < 17; decide, p, ns, al, 10, m2, congrArg (fun z => [V.ref p, V.int ((10 : Nat) : Int), V.str (S al), V.int z]) hm2, hp2, by omega, by omega, by omega, h1, by omega, fun H3 r pp tx us ps s3 hr0 hpp hps htx hprop hpl => ?_⟩⟩
        have s13 := s12.trans s3
        have hp3 := s3 _ _ hp2
        dsimp only [gName]
        show tTest _ _ _ _
        generalize hN : tSeq (tAsg (tOp _ (tOp _ (tC _) (tVar 3)) (tC _)) _) _ _ = N2
        have key2 : ∀ (al : List Nat) (H3 : Hp) (r pp : Addr) (w : V) (us : List V) (ps : List (Nat × Nat)) (v5 v6 v7 : Option V), alOk al = true → al.Nodup → 1 ≤ al.length → al.length ≤ 30 → Same Hb H3 → H3 r = some (.tup [.ref pp, w]) → H3 pp = some (.lst us) → PairsAt H3 us ps → Proper al ps → ps.length ≤ 60 →
            N2 [some (.ref a), some (.int (i : Int)), some (.ref p), some (.str (S al)), some (.ref r), v5, v6, v7, v8, v9, v10, v11] H3 := by
          clear hr0 hpp hps htx hprop hpl s13 hp3 s3 h30 h1 hnd hok hp2 s12
          intro al H3 r pp w us ps v5 v6 v7 hok hnd h1 h30 s13 hr0 hpp hps hprop hpl
          rw [← hN]
          clear hN
          have hsm := sml_of hprop h30 (by omega)
          have hhl : (headL al).length ≤ 40 := by rw [headL, List.length_cons, List.length_append, List.length_singleton]; omega
          refine ⟨_, rfl, _, _, rfl, rfl, ?_, S (124 :: al), S [124, 10], congrArg V.str (S_app [124] al), rfl, by rw [S_len, S_len]; exact small_le (by show al.length + 1 + 2 ≤ 1000; omega), ?_⟩
          · rw [S_len]; exact small_le (by show 1 + al.length ≤ 1000; omega)
          rw [show S (124 :: al) ++ S [124, 10] = S (headL al ++ [10]) by rw [S_app]; refine congrArg S ?_; show 124 :: (al ++ [124, 10]) = 124 :: ((al ++ [124]) ++ [10]); rw [List.append_assoc]; rfl]
          refine ⟨_, rfl, r, _, _, _, rfl, rfl, SqT.of hr0, rfl, pp, rfl, ⟨_, SqL.of hpp⟩, for_it walk_list (fun k σ H' => ∃ (w9 : Option V), σ = [some (.ref a), some (.int (i : Int)), some (.ref p), some (.str (S al)), some (.ref r), v5, v6, v7, some (.str (S (headL al ++ [10] ++ linesL (ps.take k)))), w9, v10, v11] ∧ Same H3 H')
            ⟨v9, ?_, Same.refl H3⟩ (fun k σ H' _ ⟨_, _, sk⟩ => SqL.of (sk _ _ hpp)) ?_ ?_⟩
          · show _ = [some (.ref a), some (.int (i : Int)), some (.ref p), some (.str (S al)), some (.ref r), v5, v6, v7, some (.str (S (headL al ++ [10] ++ []))), v9, v10, v11]
            rw [List.append_nil]; rfl
          · rintro k x σ Hc Hd hk ⟨w9, rfl, sk⟩ ⟨rfl, hx⟩
            have hkl : k < ps.length := by rw [← hps.length]; exact hk
            obtain ⟨pr, hpr⟩ : ∃ pr, ps[k]? = some pr := ⟨_, List.getElem?_eq_getElem hkl⟩
            obtain ⟨x', hx', g, rfl, hg⟩ := Paired.at2 hps hpr
            obtain rfl : x = V.ref g := Option.some.inj (hx.symm.trans hx')
            have hm := hsm pr (List.mem_of_getElem? hpr)
            have b1 := hm.1
            have b2 := hm.2
            have l1 : (TL.numL pr.1).length ≤ 4 := TL.numL_len (by decide) (by omega)
            have l2 : (TL.numL pr.2).length ≤ 4 := TL.numL_len (by decide) (by omega)
            have lt := lines_len (ps := ps.take k) fun q hq => have hq' := hsm q (List.mem_of_mem_take hq); ⟨by omega, by omega⟩
            rw [List.length_take, Nat.min_eq_left (Nat.le_of_lt hkl)] at lt
            have lb : (headL al ++ [10] ++ linesL (ps.take k)).length ≤ 700 := by rw [List.length_append, List.length_append, List.length_singleton]; omega
            have hgc := sk _ _ hg
            refine ⟨_, rfl, _, rfl, g, _, _, _, rfl, rfl, SqT.of hgc, rfl, _, rfl, log_small b1, S (headL al ++ [10] ++ linesL (ps.take k)), S (TL.numL pr.1), rfl, str_num pr.1, by rw [S_len, S_len]; exact small_le (by first | omega | (show _ + 1 ≤ 1000; omega)),
              S (headL al ++ [10] ++ linesL (ps.take k) ++ TL.numL pr.1), S [32], congrArg V.str (S_app _ _), rfl, by rw [S_len, S_len, List.length_append]; exact small_le (by show _ + _ + 1 ≤ 1000; omega),
              _, rfl, g, _, _, _, rfl, rfl, SqT.of hgc, rfl, _, rfl, log_small b2, S (headL al ++ [10] ++ linesL (ps.take k) ++ TL.numL pr.1 ++ [32]), S (TL.numL pr.2), congrArg V.str (S_app _ _), str_num pr.2, by rw [S_len, S_len, List.length_append, List.length_append]; exact small_le (by show _ + _ + 1 + _ ≤ 1000; omega),
              S (headL al ++ [10] ++ linesL (ps.take k) ++ TL.numL pr.1 ++ [32] ++ TL.numL pr.2), S [10], congrArg V.str (S_app _ _), rfl, by rw [S_len, S_len, List.length_append, List.length_append, List.length_append]; exact small_le (by show _ + _ + 1 + _ + 1 ≤ 1000; omega), ?_⟩
            refine ⟨some (V.ref g), ?_, sk⟩
            rw [S_app, show headL al ++ [10] ++ linesL (ps.take k) ++ TL.numL pr.1 ++ [32] ++ TL.numL pr.2 ++ [10] = headL al ++ [10] ++ linesL (ps.take (k + 1)) by
              rw [List.take_add_one, hpr]
              show _ = headL al ++ [10] ++ linesL (ps.take k ++ [pr])
              rw [linesL, linesL, List.flatMap_append]
              show _ = headL al ++ [10] ++ (_ ++ ((lineL pr ++ [10]) ++ []))
              rw [lineL]
              simp only [List.append_assoc, List.append_nil, List.cons_append, List.nil_append]]
            rfl
          rintro σ H4 ⟨w9, rfl, s4⟩
          rw [hps.length, List.take_length, show headL al ++ [10] ++ linesL ps = txtL al ps by rw [txtL, List.append_assoc]; rfl]
          refine ⟨_, rfl, _, rfl, r, _, _, _, rfl, rfl, SqT.of (s4 _ _ hr0), rfl, .inl ⟨pp, us, rfl, SqL.of (s4 _ _ hpp), fun pa hpa y dx ny ndx nex => ?_⟩⟩
          have npa : pa ≠ y := ne_of_none upd_same ny
          have npd : pa ≠ dx := ne_of_none upd_same ndx
          have sM : ∀ (b : Addr) (o : HO), H4 b = some o → b ≠ y ∧ (upd (upd (upd H4 pa (.tup us)) dx (.own y)) y (.ins C dx [])) b = some o := fun b o e => by
            have e1 : (upd H4 pa (.tup us)) b = some o := (upd_ne (ne_of_none e hpa)).trans e
            have hby := ne_of_none e1 ny
            exact ⟨hby, (upd_ne hby).trans ((upd_ne (ne_of_none e1 ndx)).trans e1)⟩
          refine ⟨y, pa, dx, false, al, ps, us, rfl, upd_same, (upd_ne npa).trans ((upd_ne npd).trans upd_same), (hps.same (Same.t s4)).same (fun b xs e => (sM b _ e).2), hok, hnd, h30, hprop, by omega, fun H5 sx hj => ⟨rfl, ?_⟩⟩
          have s5 : Same H4 H5 := fun b o e => sx b o (sM b o e).1 (sM b o e).2
          clear sM sx npa npd ny ndx nex hpa
          have s15 := (s13.trans s4).trans s5
          refine ⟨_, rfl, y, al, ps, rfl, hj, h30, hsm, by omega, fun H6 s6 => ⟨_, rfl, _, _, rfl, SameD.flat rfl 2, fun H7 s7 => ⟨_, rfl, iteF ?_⟩⟩⟩
          refine ⟨_, rfl, al, ps, rfl, hok, hnd, h30, hprop, hpl, fun H8 y2 s8 hj2 => ?_⟩
          have s58 := (s6.trans s7).trans s8
          have hj8 := hj.same s58
          have hpp8 := s58 _ _ (s5 _ _ (s4 _ _ hpp))
          have hr8 := s58 _ _ (s5 _ _ (s4 _ _ hr0))
          have hps8 := hps.same (Same.t ((s4.trans s5).trans s58))
          obtain ⟨dx9, t9, tx9, d9, e9, w9', k1, k2, k3, _⟩ := id hj2
          obtain ⟨dx8, t8, tx8, d8, e8, w8, l1, l2, l3, _⟩ := id hj8
          refine ⟨_, rfl, _, rfl, y2, y, dx9, dx8, _, _, rfl, rfl, k1, l1, y2, y, al, al, ps, ps, rfl, hj2, hj8, by omega, by omega, _, rfl, _, rfl, ?_⟩
          dsimp only
          rw [decide_eq_true (show al = al ∧ ps = ps from ⟨rfl, rfl⟩)]
          refine iteF ⟨_, rfl, y2, C, dx9, _, _, rfl, k1, J.cl, J.n1, rfl, _, rfl, _, _, rfl, SameD.flat rfl 2, fun H9 s9 => ⟨_, rfl, iteF ?_⟩⟩
          refine ⟨_, rfl, y2, C, dx9, _, _, rfl, s9 _ _ k1, J.cl, J.n2, rfl, _, rfl, r, _, _, _, rfl, rfl, SqT.of (s9 _ _ hr8), rfl, .inl ⟨pp, us, rfl, SqL.of (s9 _ _ hpp8), fun pb hpb => ?_⟩⟩
          have sb := s9.trans (same_new (o := .tup us) hpb)
          refine ⟨_, _, rfl, pairs_sameN (n := 0) (sb _ _ k2) upd_same (k3.same (Same.t sb)) (hps8.same (Same.t sb)) (by omega), fun H10 s10 => ⟨_, rfl, iteF ?_⟩⟩
          exact ⟨_, _, _, _, _, _, _, _, _, _, _, rfl, sa.trans (((s15.trans s58).trans sb).trans s10)⟩
        refine ⟨_, rfl, p, _, _, _, rfl, rfl, SqL.of hp3, a3, .inl ⟨_, rfl, _, _, rfl, rfl, by show (0 : Int) < 8; decide, rfl, _, rfl, ?_⟩⟩
        cases decide (V.int ((n3 : Int) % 8) = V.int 1) with
        | false => exact iteF (key2 al H3 r pp _ us ps v5 v6 v7 hok hnd h1 h30 s13 hr0 hpp hps hprop (by omega))
        | true =>
          refine iteT ⟨_, rfl, p, ns, 60, 20, rfl, hp3, by omega, by omega, by omega, by omega, fun H4 al4 s4 hok4 hnd4 h14 h304 _ => ?_⟩
          have s14 := s13.trans s4
          have hp4 := s4 _ _ hp3
          clear hr0 hpp hps htx hprop hpl
          refine ⟨_, rfl, S al4, rfl, by rw [S_len]; exact small_le (by omega), ?_⟩
          rw [S_len]
          refine ⟨Nat.zero_le _, fun Dd hDd => ?_⟩
          have sD := same_new (o := .lst []) hDd
          refine ⟨_, rfl, p, _, _, _, rfl, rfl, SqL.of (sD _ _ hp4), a2, .inl ⟨_, rfl, _, _, rfl, rfl, by show (0 : Int) < 45; decide, _, _, rfl, rfl, _, rfl, _, rfl, _, _, rfl, rfl, .inr ⟨by omega, by omega⟩, _, _, rfl, _, _, rfl, rfl, _, rfl, ?_⟩⟩
          obtain ⟨Kn, hKn, hK60, hKm⟩ : ∃ Kn : Nat, (if (al4.length : Int) * (al4.length : Int) < 61 - (n2 : Int) % 45 then (al4.length : Int) * (al4.length : Int) else 61 - (n2 : Int) % 45) - 1 = (Kn : Int) ∧ Kn ≤ 60 ∧ Kn ≤ al4.length * al4.length := by
            have hmm : (al4.length : Int) * (al4.length : Int) = ((al4.length * al4.length : Nat) : Int) := (Int.natCast_mul _ _).symm
            have hm1' : 1 ≤ al4.length * al4.length := Nat.mul_le_mul h14 h14
            rw [hm45, hmm]
            by_cases c : ((al4.length * al4.length : Nat) : Int) < 61 - (m45 : Int)
            · exact ⟨al4.length * al4.length - 1, by rw [if_pos c]; omega, by omega, by omega⟩
            · exact ⟨61 - m45 - 1, by rw [if_neg c]; omega, by omega, by omega⟩
          rw [hKn]
          refine ⟨by omega, by omega, for_it walk_range (fun k σ H' => ∃ (ws : List V) (w7 : Option V), σ = [some (.ref a), some (.int (i : Int)), some (.ref p), some (.str (S al4)), some (.ref r), some (.int (al4.length : Int)), some (.ref Dd), w7, v8, v9, v10, v11] ∧ Same H4 H' ∧ H' Dd = some (.lst ws) ∧ PairsAt H' ws ((List.range k).map (pairM al4.length n1)))
            ⟨[], v7, rfl, sD, upd_same, .nil⟩ (fun _ _ _ _ _ => trivial) ?_ ?_⟩
          · rintro k x σ Hc Hd hk ⟨ws, w7, rfl, sb, hDb, hP⟩ ⟨rfl, hx⟩
            obtain rfl : x = V.int (k : Int) := hx.trans (congrArg V.int (Int.zero_add _))
            have hkn : k < Kn := by simpa using hk
            have hml : (0 : Int) < (al4.length : Int) := by omega
            have hpc := sb _ _ hp4
            refine ⟨_, rfl, .inl ⟨rfl, _, SqL.of hDb⟩, _, rfl, .inl ⟨_, rfl, _, rfl, _, _, rfl, rfl, hml, _, rfl, _, rfl, _, _, rfl, rfl, ⟨by omega, by omega⟩, _, rfl, p, _, _, _, rfl, rfl, SqL.of hpc, a1, _, _, rfl, rfl, .inl ⟨_, rfl, _, rfl, _, _, rfl, rfl, hml, by show 2 ≤ sizeLine; decide, fun g hg => ?_⟩⟩⟩
            have ev : [V.int ((k : Int) % (al4.length : Int)), V.int (((k : Int) / (al4.length : Int) + (n1 : Int)) % (al4.length : Int))] = iv [(pairM al4.length n1 k).1, (pairM al4.length n1 k).2] := by
              show [V.int ((k : Int) % (al4.length : Int)), V.int (((k : Int) / (al4.length : Int) + (n1 : Int)) % (al4.length : Int))] = [V.int (((k % al4.length : Nat)) : Int), V.int ((((k / al4.length + n1) % al4.length : Nat)) : Int)]
              rw [Int.natCast_emod, Int.natCast_emod, Int.natCast_add, Int.natCast_ediv]
            rw [ev]
            have sg := same_new (o := .tup (iv [(pairM al4.length n1 k).1, (pairM al4.length n1 k).2])) hg
            have hwl : ws.length = k := by rw [hP.length, List.length_map, List.length_range]
            refine ⟨Dd, ws, _, rfl, rfl, sg _ _ hDb, small1000 (by omega), ?_⟩
            have sT := SameT.put (o := .lst (ws ++ [V.ref g])) (sg _ _ hDb)
            refine ⟨ws ++ [V.ref g], _, rfl, Same.put (sb.trans sg) hDd, upd_same, ?_⟩
            rw [List.range_succ, List.map_append]
            exact Paired.snoc ⟨g, rfl, sT _ _ upd_same⟩ ((hP.same (Same.t sg)).same sT)
          · rintro σ H5 ⟨ws, w7, rfl, s5, hD5, hP5⟩
            have hP5 : PairsAt H5 ws ((List.range Kn).map (pairM al4.length n1)) := by simpa using hP5
            refine ⟨_, rfl, Nat.zero_le _, fun D2 hD2 => ?_⟩
            have s6 := same_new (o := .lst []) hD2
            refine ⟨by show 2 ≤ sizeLine; decide, fun r2 hr2 => ?_⟩
            have s7 := same_new (o := .tup [V.ref Dd, V.ref D2]) hr2
            have hpr : Proper al4 ((List.range Kn).map (pairM al4.length n1)) := proper_pairM hnd4 h14 hKm
            exact key2 al4 _ r2 Dd _ ws _ _ _ _ hok4 hnd4 h14 h304 (((s14.trans s5).trans s6).trans s7) upd_same (s7 _ _ (s6 _ _ hD5)) (hP5.same (Same.t (s6.trans s7))) hpr (by rw [List.length_map, List.length_range]; omega)
      refine ⟨_, rfl, p, _, _, _, rfl, rfl, SqL.of hp2, a3, .inl ⟨_, rfl, _, _, rfl, rfl, by show (0 : Int) < 4; decide, rfl, _, rfl, ?_⟩⟩
      cases decide (V.int ((n3 : Int) % 4) = V.int 0) with
      | false => exact iteF (key al H2 s12 hp2 hok hnd h1 h30)
      | true =>
        refine iteT ?_
        have f1 : (al.filter (· != 124)).length ≤ al.length := List.length_filter_le _ _
        have f2 : ((al.filter (· != 124)).filter (· != 32)).length ≤ (al.filter (· != 124)).length := List.length_filter_le _ _
        have f3 : (((al.filter (· != 124)).filter (· != 32)).take 28).length ≤ 28 := by rw [List.length_take]; omega
        have bl := barL_len al
        refine ⟨⟨_, rfl⟩, _, rfl, S al, rfl, by rw [S_len]; show al.length + (al.length + 1) * 0 ≤ 16777216; omega, S (al.filter (· != 124)), congrArg V.str (strike al 124 _ _ rfl rfl), by rw [S_len]; show (al.filter (· != 124)).length + _ * 0 ≤ 16777216; omega, 28, rfl,
          S ((al.filter (· != 124)).filter (· != 32)), congrArg V.str (strike _ 32 _ _ rfl rfl), by rw [S_len]; exact small_le (by omega), S (((al.filter (· != 124)).filter (· != 32)).take 28), S [124, 32], congrArg V.str (cutS_upto _ 28), rfl, by rw [S_len, S_len]; exact small_le (by show _ + 2 ≤ 1000; omega), S (barL al), by rw [S_app]; rfl, by rw [S_len]; omega, fun ys D hperm hsort hD => ?_⟩
        rw [show PyProof.Rows.signs (S (barL al)) = sv (barL al) from rfl] at hperm
        obtain ⟨al', rfl, hpal⟩ := sv_perm hperm
        have nd' : al'.Nodup := hpal.nodup_iff.mpr (barL_nodup hnd)
        have len' := hpal.length_eq
        have asc' := asc_sorted hsort nd'
        have ok' := alOk_of asc' (fun c hc => barL_SG hal c (hpal.mem_iff.mp hc)) (by omega) (by omega)
        have sD := same_new (o := .lst ((sv al').map V.str)) hD
        refine ⟨Str.ofString "", D, sv al', rfl, rfl, .inl (SqL.of upd_same), ?_, ?_⟩
        · rw [sum1]; show al'.length + _ * 0 ≤ 16777216; omega
        · rw [show Txt.join (Str.ofString "") (sv al') = S al' from join1 al']
          exact key al' _ (s12.trans sD) (sD _ _ hp2) ok' nd' (by omega) (by omega)
    · rintro σ H5 ⟨v1, v2, v3, v4, v5, v6, v7, v8, v9, v10, v11, rfl, s5⟩
      exact q _
end
end RJ
end

section
set_option maxRecDepth 100000
set_option maxHeartbeats 4000000
namespace RJ
open PySem PySem.Spec PyProof.Rows L2
theorem all_mk {l : PySem.W.OpenLaw} {w : World} {K : PySem.W.Frag} {h : Heap} {mg : Str → Option Value} {fa C f0 f1 f2 f3 f4 f5 f6 f7 f8 f9 f10 f11 f12 f13 f14 f15 f16 f17 f18 f19 f20 f21 f22 f23 f24 f25 f26 f27 f28 f29 f30 : Addr} (X : K.In h) (G : h.Ns mainGlobals mg) (hfa : mg "law" = some (.ref fa))
    {od0 an0 od1 an1 od2 an2 od3 an3 od4 an4 od5 an5 od6 an6 od7 an7 od8 an8 od9 an9 od10 an10 od11 an11 od12 an12 od13 an13 od14 an14 od15 an15 od16 an16 od17 an17 od18 an18 od19 an19 od20 an20 od21 an21 od22 an22 od23 an23 od24 an24 od25 an25 od26 an26 od27 an27 od28 an28 od29 an29 od30 an30 : Option Addr} {sl0 sl1 sl2 sl3 sl4 sl5 sl6 sl7 sl8 sl9 sl10 sl11 sl12 sl13 sl14 sl15 sl16 sl17 sl18 sl19 sl20 sl21 sl22 sl23 sl24 sl25 sl26 sl27 sl28 sl29 sl30 : Array (Option Value)} {oc0 kV0 dc0 pm0 cd0 ct0 oc1 kV1 dc1 pm1 cd1 ct1 oc2 kV2 dc2 pm2 cd2 ct2 oc3 kV3 dc3 pm3 cd3 ct3 oc4 kV4 dc4 pm4 cd4 ct4 oc5 kV5 dc5 pm5 cd5 ct5 oc6 kV6 dc6 pm6 cd6 ct6 oc7 kV7 dc7 pm7 cd7 ct7 oc8 kV8 dc8 pm8 cd8 ct8 oc9 kV9 dc9 pm9 cd9 ct9 oc10 kV10 dc10 pm10 cd10 ct10 oc11 kV11 dc11 pm11 cd11 ct11 oc12 kV12 dc12 pm12 cd12 ct12 oc13 kV13 dc13 pm13 cd13 ct13 oc14 kV14 dc14 pm14 cd14 ct14 oc15 kV15 dc15 pm15 cd15 ct15 oc16 kV16 dc16 pm16 cd16 ct16 oc17 kV17 dc17 pm17 cd17 ct17 oc18 kV18 dc18 pm18 cd18 ct18 oc19 kV19 dc19 pm19 cd19 ct19 oc20 kV20 dc20 pm20 cd20 ct20 oc21 kV21 dc21 pm21 cd21 ct21 oc22 kV22 dc22 pm22 cd22 ct22 oc23 kV23 dc23 pm23 cd23 ct23 oc24 kV24 dc24 pm24 cd24 ct24 oc25 kV25 dc25 pm25 cd25 ct25 oc26 kV26 dc26 pm26 cd26 ct26 oc27 kV27 dc27 pm27 cd27 ct27 oc28 kV28 dc28 pm28 cd28 ct28 oc29 kV29 dc29 pm29 cd29 ct29 oc30 kV30 dc30 pm30 cd30 ct30 : Value} {tk0 tk1 tk2 tk3 : Tok} {CNotProper  : Addr}
    (aC : PySem.W.nsIn K mainGlobals "Joins" = some (some (.ref C))) (a0 : PySem.W.nsIn K mainGlobals "is_integer" = some (some (.ref f0))) (l0 : K.lookup f0 = some ⟨oc0, od0, .func (PySem.W.fnOf "is_integer" "is_integer" (C8.fnArgs s_is_integer) (C8.fnBody s_is_integer) (C8.fnScope s_is_integer) .none kV0 dc0 pm0 an0 cd0 ct0), sl0⟩) (c0 : PySem.W.codeIn K cd0 "is_integer" = true)
    (k0 : PySem.W.keepIn K (.ref f0) = true) (a1 : PySem.W.nsIn K mainGlobals "is_number_below" = some (some (.ref f1))) (l1 : K.lookup f1 = some ⟨oc1, od1, .func (PySem.W.fnOf "is_number_below" "is_number_below" (C8.fnArgs s_is_number_below) (C8.fnBody s_is_number_below) (C8.fnScope s_is_number_below) .none kV1 dc1 pm1 an1 cd1 ct1), sl1⟩) (c1 : PySem.W.codeIn K cd1 "is_number_below" = true)
    (k1 : PySem.W.keepIn K (.ref f1) = true) (a2 : PySem.W.nsIn K mainGlobals "is_sign" = some (some (.ref f2))) (l2 : K.lookup f2 = some ⟨oc2, od2, .func (PySem.W.fnOf "is_sign" "is_sign" (C8.fnArgs s_is_sign) (C8.fnBody s_is_sign) (C8.fnScope s_is_sign) .none kV2 dc2 pm2 an2 cd2 ct2), sl2⟩) (c2 : PySem.W.codeIn K cd2 "is_sign" = true)
    (k2 : PySem.W.keepIn K (.ref f2) = true) (a3 : PySem.W.nsIn K mainGlobals "is_alphabet" = some (some (.ref f3))) (l3 : K.lookup f3 = some ⟨oc3, od3, .func (PySem.W.fnOf "is_alphabet" "is_alphabet" (C8.fnArgs s_is_alphabet) (C8.fnBody s_is_alphabet) (C8.fnScope s_is_alphabet) .none kV3 dc3 pm3 an3 cd3 ct3), sl3⟩) (c3 : PySem.W.codeIn K cd3 "is_alphabet" = true)
    (k3 : PySem.W.keepIn K (.ref f3) = true) (a4 : PySem.W.nsIn K mainGlobals "check_alphabet" = some (some (.ref f4))) (l4 : K.lookup f4 = some ⟨oc4, od4, .func (PySem.W.fnOf "check_alphabet" "check_alphabet" (C8.fnArgs s_check_alphabet) (C8.fnBody s_check_alphabet) (C8.fnScope s_check_alphabet) .none kV4 dc4 pm4 an4 cd4 ct4), sl4⟩) (c4 : PySem.W.codeIn K cd4 "check_alphabet" = true)
    (k4 : PySem.W.keepIn K (.ref f4) = true) (a5 : PySem.W.nsIn K mainGlobals "check_number" = some (some (.ref f5))) (l5 : K.lookup f5 = some ⟨oc5, od5, .func (PySem.W.fnOf "check_number" "check_number" (C8.fnArgs s_check_number) (C8.fnBody s_check_number) (C8.fnScope s_check_number) .none kV5 dc5 pm5 an5 cd5 ct5), sl5⟩) (c5 : PySem.W.codeIn K cd5 "check_number" = true)
    (k5 : PySem.W.keepIn K (.ref f5) = true) (a6 : PySem.W.nsIn K mainGlobals "letter_row" = some (some (.ref f6))) (l6 : K.lookup f6 = some ⟨oc6, od6, .func (PySem.W.fnOf "letter_row" "letter_row" (C8.fnArgs s_letter_row) (C8.fnBody s_letter_row) (C8.fnScope s_letter_row) .none kV6 dc6 pm6 an6 cd6 ct6), sl6⟩) (c6 : PySem.W.codeIn K cd6 "letter_row" = true)
    (k6 : PySem.W.keepIn K (.ref f6) = true) (a7 : PySem.W.nsIn K mainGlobals "join_neighbors" = some (some (.ref f7))) (l7 : K.lookup f7 = some ⟨oc7, od7, .func (PySem.W.fnOf "join_neighbors" "join_neighbors" (C8.fnArgs s_join_neighbors) (C8.fnBody s_join_neighbors) (C8.fnScope s_join_neighbors) .none kV7 dc7 pm7 an7 cd7 ct7), sl7⟩) (c7 : PySem.W.codeIn K cd7 "join_neighbors" = true)
    (k7 : PySem.W.keepIn K (.ref f7) = true) (a8 : PySem.W.nsIn K mainGlobals "lowest_join" = some (some (.ref f8))) (l8 : K.lookup f8 = some ⟨oc8, od8, .func (PySem.W.fnOf "lowest_join" "lowest_join" (C8.fnArgs s_lowest_join) (C8.fnBody s_lowest_join) (C8.fnScope s_lowest_join) .none kV8 dc8 pm8 an8 cd8 ct8), sl8⟩) (c8 : PySem.W.codeIn K cd8 "lowest_join" = true)
    (k8 : PySem.W.keepIn K (.ref f8) = true) (a9 : PySem.W.nsIn K mainGlobals "join_down" = some (some (.ref f9))) (l9 : K.lookup f9 = some ⟨oc9, od9, .func (PySem.W.fnOf "join_down" "join_down" (C8.fnArgs s_join_down) (C8.fnBody s_join_down) (C8.fnScope s_join_down) .none kV9 dc9 pm9 an9 cd9 ct9), sl9⟩) (c9 : PySem.W.codeIn K cd9 "join_down" = true)
    (k9 : PySem.W.keepIn K (.ref f9) = true) (a10 : PySem.W.nsIn K mainGlobals "may_follow" = some (some (.ref f10))) (l10 : K.lookup f10 = some ⟨oc10, od10, .func (PySem.W.fnOf "may_follow" "may_follow" (C8.fnArgs s_may_follow) (C8.fnBody s_may_follow) (C8.fnScope s_may_follow) .none kV10 dc10 pm10 an10 cd10 ct10), sl10⟩) (c10 : PySem.W.codeIn K cd10 "may_follow" = true)
    (k10 : PySem.W.keepIn K (.ref f10) = true) (a11 : PySem.W.findIn K (.ref C) "__init__" = some (some (.ref f11))) (i11 : PySem.W.isFn K (.ref f11) = true) (l11 : K.lookup f11 = some ⟨oc11, od11, .func (PySem.W.fnOf "__init__" "Joins.__init__" (C8.fnArgs s_Joins___init__) (C8.fnBody s_Joins___init__) (C8.fnScope s_Joins___init__) .none kV11 dc11 pm11 an11 cd11 ct11), sl11⟩)
    (c11 : PySem.W.codeIn K cd11 "Joins.__init__" = true) (k11 : PySem.W.keepIn K (.ref f11) = true) (a12 : PySem.W.findIn K (.ref C) "__len__" = some (some (.ref f12))) (i12 : PySem.W.isFn K (.ref f12) = true)
    (l12 : K.lookup f12 = some ⟨oc12, od12, .func (PySem.W.fnOf "__len__" "Joins.__len__" (C8.fnArgs s_Joins___len__) (C8.fnBody s_Joins___len__) (C8.fnScope s_Joins___len__) .none kV12 dc12 pm12 an12 cd12 ct12), sl12⟩) (c12 : PySem.W.codeIn K cd12 "Joins.__len__" = true) (k12 : PySem.W.keepIn K (.ref f12) = true) (a13 : PySem.W.findIn K (.ref C) "__iter__" = some (some (.ref f13)))
    (i13 : PySem.W.isFn K (.ref f13) = true) (l13 : K.lookup f13 = some ⟨oc13, od13, .func (PySem.W.fnOf "__iter__" "Joins.__iter__" (C8.fnArgs s_Joins___iter__) (C8.fnBody s_Joins___iter__) (C8.fnScope s_Joins___iter__) .none kV13 dc13 pm13 an13 cd13 ct13), sl13⟩) (c13 : PySem.W.codeIn K cd13 "Joins.__iter__" = true) (k13 : PySem.W.keepIn K (.ref f13) = true)
    (a14 : PySem.W.findIn K (.ref C) "__eq__" = some (some (.ref f14))) (i14 : PySem.W.isFn K (.ref f14) = true) (l14 : K.lookup f14 = some ⟨oc14, od14, .func (PySem.W.fnOf "__eq__" "Joins.__eq__" (C8.fnArgs s_Joins___eq__) (C8.fnBody s_Joins___eq__) (C8.fnScope s_Joins___eq__) .none kV14 dc14 pm14 an14 cd14 ct14), sl14⟩) (c14 : PySem.W.codeIn K cd14 "Joins.__eq__" = true)
    (k14 : PySem.W.keepIn K (.ref f14) = true) (a15 : PySem.W.findIn K (.ref C) "first" = some (some (.ref f15))) (i15 : PySem.W.isFn K (.ref f15) = true) (l15 : K.lookup f15 = some ⟨oc15, od15, .func (PySem.W.fnOf "first" "Joins.first" (C8.fnArgs s_Joins_first) (C8.fnBody s_Joins_first) (C8.fnScope s_Joins_first) .none kV15 dc15 pm15 an15 cd15 ct15), sl15⟩)
    (c15 : PySem.W.codeIn K cd15 "Joins.first" = true) (k15 : PySem.W.keepIn K (.ref f15) = true) (a16 : PySem.W.nsIn K mainGlobals "write_joins" = some (some (.ref f16))) (l16 : K.lookup f16 = some ⟨oc16, od16, .func (PySem.W.fnOf "write_joins" "write_joins" (C8.fnArgs s_write_joins) (C8.fnBody s_write_joins) (C8.fnScope s_write_joins) .none kV16 dc16 pm16 an16 cd16 ct16), sl16⟩)
    (c16 : PySem.W.codeIn K cd16 "write_joins" = true) (k16 : PySem.W.keepIn K (.ref f16) = true) (a17 : PySem.W.nsIn K mainGlobals "read_joins" = some (some (.ref f17))) (l17 : K.lookup f17 = some ⟨oc17, od17, .func (PySem.W.fnOf "read_joins" "read_joins" (C8.fnArgs s_read_joins) (C8.fnBody s_read_joins) (C8.fnScope s_read_joins) .none kV17 dc17 pm17 an17 cd17 ct17), sl17⟩)
    (c17 : PySem.W.codeIn K cd17 "read_joins" = true) (k17 : PySem.W.keepIn K (.ref f17) = true) (a18 : PySem.W.nsIn K mainGlobals "is_alphabet_line" = some (some (.ref f18))) (l18 : K.lookup f18 = some ⟨oc18, od18, .func (PySem.W.fnOf "is_alphabet_line" "is_alphabet_line" (C8.fnArgs s_is_alphabet_line) (C8.fnBody s_is_alphabet_line) (C8.fnScope s_is_alphabet_line) .none kV18 dc18 pm18 an18 cd18 ct18), sl18⟩)
    (c18 : PySem.W.codeIn K cd18 "is_alphabet_line" = true) (k18 : PySem.W.keepIn K (.ref f18) = true) (a19 : PySem.W.nsIn K mainGlobals "leading_pairs" = some (some (.ref f19))) (l19 : K.lookup f19 = some ⟨oc19, od19, .func (PySem.W.fnOf "leading_pairs" "leading_pairs" (C8.fnArgs s_leading_pairs) (C8.fnBody s_leading_pairs) (C8.fnScope s_leading_pairs) .none kV19 dc19 pm19 an19 cd19 ct19), sl19⟩)
    (c19 : PySem.W.codeIn K cd19 "leading_pairs" = true) (k19 : PySem.W.keepIn K (.ref f19) = true) (a20 : PySem.W.nsIn K mainGlobals "is_number_word" = some (some (.ref f20))) (l20 : K.lookup f20 = some ⟨oc20, od20, .func (PySem.W.fnOf "is_number_word" "is_number_word" (C8.fnArgs s_is_number_word) (C8.fnBody s_is_number_word) (C8.fnScope s_is_number_word) .none kV20 dc20 pm20 an20 cd20 ct20), sl20⟩)
    (c20 : PySem.W.codeIn K cd20 "is_number_word" = true) (k20 : PySem.W.keepIn K (.ref f20) = true) (a21 : PySem.W.nsIn K mainGlobals "joins_of_lines" = some (some (.ref f21))) (l21 : K.lookup f21 = some ⟨oc21, od21, .func (PySem.W.fnOf "joins_of_lines" "joins_of_lines" (C8.fnArgs s_joins_of_lines) (C8.fnBody s_joins_of_lines) (C8.fnScope s_joins_of_lines) .none kV21 dc21 pm21 an21 cd21 ct21), sl21⟩)
    (c21 : PySem.W.codeIn K cd21 "joins_of_lines" = true) (k21 : PySem.W.keepIn K (.ref f21) = true) (a22 : PySem.W.nsIn K mainGlobals "_law_numbers" = some (some (.ref f22))) (l22 : K.lookup f22 = some ⟨oc22, od22, .func (PySem.W.fnOf "_law_numbers" "_law_numbers" (C8.fnArgs s__law_numbers) (C8.fnBody s__law_numbers) (C8.fnScope s__law_numbers) .none kV22 dc22 pm22 an22 cd22 ct22), sl22⟩)
    (c22 : PySem.W.codeIn K cd22 "_law_numbers" = true) (k22 : PySem.W.keepIn K (.ref f22) = true) (a23 : PySem.W.nsIn K mainGlobals "_law_same" = some (some (.ref f23))) (l23 : K.lookup f23 = some ⟨oc23, od23, .func (PySem.W.fnOf "_law_same" "_law_same" (C8.fnArgs s__law_same) (C8.fnBody s__law_same) (C8.fnScope s__law_same) .none kV23 dc23 pm23 an23 cd23 ct23), sl23⟩)
    (c23 : PySem.W.codeIn K cd23 "_law_same" = true) (k23 : PySem.W.keepIn K (.ref f23) = true) (a24 : PySem.W.nsIn K mainGlobals "_law_alphabet" = some (some (.ref f24))) (l24 : K.lookup f24 = some ⟨oc24, od24, .func (PySem.W.fnOf "_law_alphabet" "_law_alphabet" (C8.fnArgs s__law_alphabet) (C8.fnBody s__law_alphabet) (C8.fnScope s__law_alphabet) .none kV24 dc24 pm24 an24 cd24 ct24), sl24⟩)
    (c24 : PySem.W.codeIn K cd24 "_law_alphabet" = true) (k24 : PySem.W.keepIn K (.ref f24) = true) (a25 : PySem.W.nsIn K mainGlobals "_law_join_all" = some (some (.ref f25))) (l25 : K.lookup f25 = some ⟨oc25, od25, .func (PySem.W.fnOf "_law_join_all" "_law_join_all" (C8.fnArgs s__law_join_all) (C8.fnBody s__law_join_all) (C8.fnScope s__law_join_all) .none kV25 dc25 pm25 an25 cd25 ct25), sl25⟩)
    (c25 : PySem.W.codeIn K cd25 "_law_join_all" = true) (k25 : PySem.W.keepIn K (.ref f25) = true) (a26 : PySem.W.nsIn K mainGlobals "_law_staged" = some (some (.ref f26))) (l26 : K.lookup f26 = some ⟨oc26, od26, .func (PySem.W.fnOf "_law_staged" "_law_staged" (C8.fnArgs s__law_staged) (C8.fnBody s__law_staged) (C8.fnScope s__law_staged) .none kV26 dc26 pm26 an26 cd26 ct26), sl26⟩)
    (c26 : PySem.W.codeIn K cd26 "_law_staged" = true) (k26 : PySem.W.keepIn K (.ref f26) = true) (a27 : PySem.W.nsIn K mainGlobals "_law_letters" = some (some (.ref f27))) (l27 : K.lookup f27 = some ⟨oc27, od27, .func (PySem.W.fnOf "_law_letters" "_law_letters" (C8.fnArgs s__law_letters) (C8.fnBody s__law_letters) (C8.fnScope s__law_letters) .none kV27 dc27 pm27 an27 cd27 ct27), sl27⟩)
    (c27 : PySem.W.codeIn K cd27 "_law_letters" = true) (k27 : PySem.W.keepIn K (.ref f27) = true) (a28 : PySem.W.nsIn K mainGlobals "_law_is_proper" = some (some (.ref f28))) (l28 : K.lookup f28 = some ⟨oc28, od28, .func (PySem.W.fnOf "_law_is_proper" "_law_is_proper" (C8.fnArgs s__law_is_proper) (C8.fnBody s__law_is_proper) (C8.fnScope s__law_is_proper) .none kV28 dc28 pm28 an28 cd28 ct28), sl28⟩)
    (c28 : PySem.W.codeIn K cd28 "_law_is_proper" = true) (k28 : PySem.W.keepIn K (.ref f28) = true) (a29 : PySem.W.nsIn K mainGlobals "_law_list" = some (some (.ref f29))) (l29 : K.lookup f29 = some ⟨oc29, od29, .func (PySem.W.fnOf "_law_list" "_law_list" (C8.fnArgs s__law_list) (C8.fnBody s__law_list) (C8.fnScope s__law_list) .none kV29 dc29 pm29 an29 cd29 ct29), sl29⟩)
    (c29 : PySem.W.codeIn K cd29 "_law_list" = true) (k29 : PySem.W.keepIn K (.ref f29) = true) (a30 : PySem.W.nsIn K mainGlobals "law" = some (some (.ref f30))) (l30 : K.lookup f30 = some ⟨oc30, od30, .func (PySem.W.fnOf "law" "law" (C8.fnArgs s_law) (C8.fnBody s_law) (C8.fnScope s_law) .none kV30 dc30 pm30 an30 cd30 ct30), sl30⟩)
    (c30 : PySem.W.codeIn K cd30 "law" = true) (k30 : PySem.W.keepIn K (.ref f30) = true) (pgC : PySem.W.plainGet K C Str.empty = true) (hdC : PySem.W.hasDictIn K C = true)
    (poC : PySem.W.plainOver K C = true) (saC : PySem.W.findIn K (.ref C) "__setattr__" = some (some (.builtin "object.__setattr__"))) (mkC : PySem.W.makesIn K C = true) (kcC : PySem.W.keepIn K (.ref C) = true)
    (nC0 : PySem.W.findIn K (.ref C) "alphabet" = some none) (nC1 : PySem.W.findIn K (.ref C) "pairs" = some none) (nC2 : PySem.W.findIn K (.ref C) "_texts" = some none) (nC3 : PySem.W.findIn K (.ref C) "_ranks" = some none)
    (nC4 : PySem.W.findIn K (.ref C) "_pieces_by_text" = some none) (yjC : PySem.W.findIn K (.ref C) "__class__" = some (some (.builtin "object.__class__"))) (ymC : PySem.W.mroIn K C (.type "object") = some true) (yeC : PySem.W.kitOne K (.ref C) (.ref C) = some true)
    (ANotProper : PySem.W.nsIn K mainGlobals "NotProper" = some (some (.ref CNotProper))) (zsuper : PySem.W.nsIn K mainGlobals "super" = some none) (zopq : PySem.W.nsIn K PySem.cStatics "thirdparty.any" = some none) (hn0 : PySem.W.specialIn K (.builtin "object.__class__") "__get__" = some (some (.builtin "getset_descriptor.__get__")))
    (ht0 : PySem.W.takesIn K (.builtin "object.__class__") = some true) (htop : (l.prog.main.scope.names.lookup ("super" : Str)).isSome = false) (z0 : PySem.W.nsIn K mainGlobals "isinstance" = some none) (z1 : PySem.W.nsIn K mainGlobals "len" = some none)
    (z2 : PySem.W.nsIn K mainGlobals "min" = some none) (z3 : PySem.W.nsIn K mainGlobals "all" = some none) (z4 : PySem.W.nsIn K mainGlobals "abs" = some none) (z5 : PySem.W.nsIn K mainGlobals "int" = some none)
    (z6 : PySem.W.nsIn K mainGlobals "bool" = some none) (z7 : PySem.W.nsIn K mainGlobals "str" = some none) (z8 : PySem.W.nsIn K mainGlobals "tuple" = some none) (z9 : PySem.W.nsIn K mainGlobals "list" = some none)
    (z10 : PySem.W.nsIn K mainGlobals "zip" = some none) (z11 : PySem.W.nsIn K mainGlobals "enumerate" = some none) (z12 : PySem.W.nsIn K mainGlobals "range" = some none) (z13 : PySem.W.nsIn K mainGlobals "sorted" = some none)
    (z14 : PySem.W.nsIn K mainGlobals "iter" = some none) (v0 : PySem.W.nsIn K mainGlobals "MOST_LETTERS" = some (some (.int 30 tk0))) (v1 : PySem.W.nsIn K mainGlobals "MOST_JOINS" = some (some (.int 60 tk1))) (v2 : PySem.W.nsIn K mainGlobals "MOST_SIGNS_OF_PIECE" = some (some (.int 40 tk2)))
    (v3 : PySem.W.nsIn K mainGlobals "MOST_DIGITS" = some (some (.int 4 tk3))) :
    ∃ fd : FuncData, (∀ (s : Shared) (v : Value), BindsTo s fd ⟨[v], []⟩ [("script", v)]) ∧ ∀ base : Heap, K.In base → base.Ns mainGlobals mg → FnOk l.prog w K mg base C8.CX0 8 fa fd ["script"] (sp_law K) := by
  have e := hfa.symm.trans (PySem.W.mg_of X G a30)
  cases e
  have T : Txt K mg := ⟨PySem.W.mg_none_of X G z0, PySem.W.mg_none_of X G z1, PySem.W.mg_none_of X G z2, PySem.W.mg_none_of X G z3, PySem.W.mg_none_of X G z4, PySem.W.mg_none_of X G z5, PySem.W.mg_none_of X G z6, PySem.W.mg_none_of X G z7, PySem.W.mg_none_of X G z8, PySem.W.mg_none_of X G z9, PySem.W.mg_none_of X G z10, PySem.W.mg_none_of X G z11, PySem.W.mg_none_of X G z12, PySem.W.mg_none_of X G z13, PySem.W.mg_none_of X G z14, ⟨_, PySem.W.mg_of X G v0, ⟨_, rfl⟩⟩, ⟨_, PySem.W.mg_of X G v1, ⟨_, rfl⟩⟩, ⟨_, PySem.W.mg_of X G v2, ⟨_, rfl⟩⟩, ⟨_, PySem.W.mg_of X G v3, ⟨_, rfl⟩⟩⟩
  have J : JTxt K C := ⟨⟨pgC, hdC, poC, saC⟩, nC0, nC1, nC2, nC3, nC4⟩
  have GJoins : mg "Joins" = some (.ref C) := PySem.W.mg_of X G aC
  have ic : C8.InsC K C := ⟨J.cl, yjC, hn0, ht0, ymC, yeC⟩
  have F0 : C8.Fun K "is_integer" "is_integer" s_is_integer f0 _ := ⟨⟨_, _, _, _, _, _, _, _, _, _, rfl, l0, c0⟩⟩
  have b0 := F0.binds rfl (ps := ["value"]) fun _ _ _ _ _ _ us hl => match us, hl with | [_], _ => rfl
  have F1 : C8.Fun K "is_number_below" "is_number_below" s_is_number_below f1 _ := ⟨⟨_, _, _, _, _, _, _, _, _, _, rfl, l1, c1⟩⟩
  have b1 := F1.binds rfl (ps := ["value", "end"]) fun _ _ _ _ _ _ us hl => match us, hl with | [_, _], _ => rfl
  have F2 : C8.Fun K "is_sign" "is_sign" s_is_sign f2 _ := ⟨⟨_, _, _, _, _, _, _, _, _, _, rfl, l2, c2⟩⟩
  have b2 := F2.binds rfl (ps := ["sign"]) fun _ _ _ _ _ _ us hl => match us, hl with | [_], _ => rfl
  have F3 : C8.Fun K "is_alphabet" "is_alphabet" s_is_alphabet f3 _ := ⟨⟨_, _, _, _, _, _, _, _, _, _, rfl, l3, c3⟩⟩
  have b3 := F3.binds rfl (ps := ["text"]) fun _ _ _ _ _ _ us hl => match us, hl with | [_], _ => rfl
  have F4 : C8.Fun K "check_alphabet" "check_alphabet" s_check_alphabet f4 _ := ⟨⟨_, _, _, _, _, _, _, _, _, _, rfl, l4, c4⟩⟩
  have b4 := F4.binds rfl (ps := ["text"]) fun _ _ _ _ _ _ us hl => match us, hl with | [_], _ => rfl
  have F5 : C8.Fun K "check_number" "check_number" s_check_number f5 _ := ⟨⟨_, _, _, _, _, _, _, _, _, _, rfl, l5, c5⟩⟩
  have b5 := F5.binds rfl (ps := ["number", "end"]) fun _ _ _ _ _ _ us hl => match us, hl with | [_, _], _ => rfl
  have F6 : C8.Fun K "letter_row" "letter_row" s_letter_row f6 _ := ⟨⟨_, _, _, _, _, _, _, _, _, _, rfl, l6, c6⟩⟩
  have b6 := F6.binds rfl (ps := ["alphabet", "text"]) fun _ _ _ _ _ _ us hl => match us, hl with | [_, _], _ => rfl
  have F7 : C8.Fun K "join_neighbors" "join_neighbors" s_join_neighbors f7 _ := ⟨⟨_, _, _, _, _, _, _, _, _, _, rfl, l7, c7⟩⟩
  have b7 := F7.binds rfl (ps := ["row", "pair", "piece"]) fun _ _ _ _ _ _ us hl => match us, hl with | [_, _, _], _ => rfl
  have F8 : C8.Fun K "lowest_join" "lowest_join" s_lowest_join f8 _ := ⟨⟨_, _, _, _, _, _, _, _, _, _, rfl, l8, c8⟩⟩
  have b8 := F8.binds rfl (ps := ["ranks", "row"]) fun _ _ _ _ _ _ us hl => match us, hl with | [_, _], _ => rfl
  have F9 : C8.Fun K "join_down" "join_down" s_join_down f9 _ := ⟨⟨_, _, _, _, _, _, _, _, _, _, rfl, l9, c9⟩⟩
  have b9 := F9.binds rfl (ps := ["ranks", "letters", "row"]) fun _ _ _ _ _ _ us hl => match us, hl with | [_, _, _], _ => rfl
  have F10 : C8.Fun K "may_follow" "may_follow" s_may_follow f10 _ := ⟨⟨_, _, _, _, _, _, _, _, _, _, rfl, l10, c10⟩⟩
  have b10 := F10.binds rfl (ps := ["alphabet", "texts", "ranks", "pair"]) fun _ _ _ _ _ _ us hl => match us, hl with | [_, _, _, _], _ => rfl
  have F11 : C8.Fun K "__init__" "Joins.__init__" s_Joins___init__ f11 _ := ⟨⟨_, _, _, _, _, _, _, _, _, _, rfl, l11, c11⟩⟩
  have b11 := F11.binds rfl (ps := ["self", "alphabet", "pairs"]) fun _ _ _ _ _ _ us hl => match us, hl with | [_, _, _], _ => rfl
  have F12 : C8.Fun K "__len__" "Joins.__len__" s_Joins___len__ f12 _ := ⟨⟨_, _, _, _, _, _, _, _, _, _, rfl, l12, c12⟩⟩
  have b12 := F12.binds rfl (ps := ["self"]) fun _ _ _ _ _ _ us hl => match us, hl with | [_], _ => rfl
  have F13 : C8.Fun K "__iter__" "Joins.__iter__" s_Joins___iter__ f13 _ := ⟨⟨_, _, _, _, _, _, _, _, _, _, rfl, l13, c13⟩⟩
  have b13 := F13.binds rfl (ps := ["self"]) fun _ _ _ _ _ _ us hl => match us, hl with | [_], _ => rfl
  have F14 : C8.Fun K "__eq__" "Joins.__eq__" s_Joins___eq__ f14 _ := ⟨⟨_, _, _, _, _, _, _, _, _, _, rfl, l14, c14⟩⟩
  have b14 := F14.binds rfl (ps := ["self", "other"]) fun _ _ _ _ _ _ us hl => match us, hl with | [_, _], _ => rfl
  have F15 : C8.Fun K "first" "Joins.first" s_Joins_first f15 _ := ⟨⟨_, _, _, _, _, _, _, _, _, _, rfl, l15, c15⟩⟩
  have b15 := F15.binds rfl (ps := ["self", "many"]) fun _ _ _ _ _ _ us hl => match us, hl with | [_, _], _ => rfl
  have F16 : C8.Fun K "write_joins" "write_joins" s_write_joins f16 _ := ⟨⟨_, _, _, _, _, _, _, _, _, _, rfl, l16, c16⟩⟩
  have b16 := F16.binds rfl (ps := ["joins"]) fun _ _ _ _ _ _ us hl => match us, hl with | [_], _ => rfl
  have F17 : C8.Fun K "read_joins" "read_joins" s_read_joins f17 _ := ⟨⟨_, _, _, _, _, _, _, _, _, _, rfl, l17, c17⟩⟩
  have b17 := F17.binds rfl (ps := ["text"]) fun _ _ _ _ _ _ us hl => match us, hl with | [_], _ => rfl
  have F18 : C8.Fun K "is_alphabet_line" "is_alphabet_line" s_is_alphabet_line f18 _ := ⟨⟨_, _, _, _, _, _, _, _, _, _, rfl, l18, c18⟩⟩
  have b18 := F18.binds rfl (ps := ["line"]) fun _ _ _ _ _ _ us hl => match us, hl with | [_], _ => rfl
  have F19 : C8.Fun K "leading_pairs" "leading_pairs" s_leading_pairs f19 _ := ⟨⟨_, _, _, _, _, _, _, _, _, _, rfl, l19, c19⟩⟩
  have b19 := F19.binds rfl (ps := ["lines"]) fun _ _ _ _ _ _ us hl => match us, hl with | [_], _ => rfl
  have F20 : C8.Fun K "is_number_word" "is_number_word" s_is_number_word f20 _ := ⟨⟨_, _, _, _, _, _, _, _, _, _, rfl, l20, c20⟩⟩
  have b20 := F20.binds rfl (ps := ["word"]) fun _ _ _ _ _ _ us hl => match us, hl with | [_], _ => rfl
  have F21 : C8.Fun K "joins_of_lines" "joins_of_lines" s_joins_of_lines f21 _ := ⟨⟨_, _, _, _, _, _, _, _, _, _, rfl, l21, c21⟩⟩
  have b21 := F21.binds rfl (ps := ["text", "alphabet", "pairs"]) fun _ _ _ _ _ _ us hl => match us, hl with | [_, _, _], _ => rfl
  have F22 : C8.Fun K "_law_numbers" "_law_numbers" s__law_numbers f22 _ := ⟨⟨_, _, _, _, _, _, _, _, _, _, rfl, l22, c22⟩⟩
  have b22 := F22.binds rfl (ps := ["cell", "at", "many"]) fun _ _ _ _ _ _ us hl => match us, hl with | [_, _, _], _ => rfl
  have F23 : C8.Fun K "_law_same" "_law_same" s__law_same f23 _ := ⟨⟨_, _, _, _, _, _, _, _, _, _, rfl, l23, c23⟩⟩
  have b23 := F23.binds rfl (ps := ["actual", "expected"]) fun _ _ _ _ _ _ us hl => match us, hl with | [_, _], _ => rfl
  have F24 : C8.Fun K "_law_alphabet" "_law_alphabet" s__law_alphabet f24 _ := ⟨⟨_, _, _, _, _, _, _, _, _, _, rfl, l24, c24⟩⟩
  have b24 := F24.binds rfl (ps := ["numbers", "k", "many"]) fun _ _ _ _ _ _ us hl => match us, hl with | [_, _, _], _ => rfl
  have F25 : C8.Fun K "_law_join_all" "_law_join_all" s__law_join_all f25 _ := ⟨⟨_, _, _, _, _, _, _, _, _, _, rfl, l25, c25⟩⟩
  have b25 := F25.binds rfl (ps := ["row", "pair", "made"]) fun _ _ _ _ _ _ us hl => match us, hl with | [_, _, _], _ => rfl
  have F26 : C8.Fun K "_law_staged" "_law_staged" s__law_staged f26 _ := ⟨⟨_, _, _, _, _, _, _, _, _, _, rfl, l26, c26⟩⟩
  have b26 := F26.binds rfl (ps := ["many", "pairs", "row"]) fun _ _ _ _ _ _ us hl => match us, hl with | [_, _, _], _ => rfl
  have F27 : C8.Fun K "_law_letters" "_law_letters" s__law_letters f27 _ := ⟨⟨_, _, _, _, _, _, _, _, _, _, rfl, l27, c27⟩⟩
  have b27 := F27.binds rfl (ps := ["alphabet", "text"]) fun _ _ _ _ _ _ us hl => match us, hl with | [_, _], _ => rfl
  have F28 : C8.Fun K "_law_is_proper" "_law_is_proper" s__law_is_proper f28 _ := ⟨⟨_, _, _, _, _, _, _, _, _, _, rfl, l28, c28⟩⟩
  have b28 := F28.binds rfl (ps := ["alphabet", "texts", "pairs", "pair"]) fun _ _ _ _ _ _ us hl => match us, hl with | [_, _, _, _], _ => rfl
  have F29 : C8.Fun K "_law_list" "_law_list" s__law_list f29 _ := ⟨⟨_, _, _, _, _, _, _, _, _, _, rfl, l29, c29⟩⟩
  have b29 := F29.binds rfl (ps := ["numbers", "k", "alphabet", "many"]) fun _ _ _ _ _ _ us hl => match us, hl with | [_, _, _, _], _ => rfl
  have F30 : C8.Fun K "law" "law" s_law fa _ := ⟨⟨_, _, _, _, _, _, _, _, _, _, rfl, l30, c30⟩⟩
  refine ⟨PySem.W.fnOf "law" "law" (C8.fnArgs s_law) (C8.fnBody s_law) (C8.fnScope s_law) .none kV30 dc30 pm30 an30 cd30 ct30, fun s v => .of_eq rfl, fun base _ _ => ?_⟩
  have GNotProper : mg "NotProper" = some (.ref CNotProper) := PySem.W.mg_of X G ANotProper
  have hsuper : mg "super" = none := PySem.W.mg_none_of X G zsuper
  have c_is_integer : C8.Cal l.prog w K mg base 1 "is_integer" sp_is_integer [] := ⟨⟨f0, _, _, _, ok_is_integer F0 T, PySem.W.mg_of X G a0, k0, b0, .nil⟩⟩
  have c_is_number_below : C8.Cal l.prog w K mg base 2 "is_number_below" sp_is_number_below [] := ⟨⟨f1, _, _, _, ok_is_number_below F1 T c_is_integer, PySem.W.mg_of X G a1, k1, b1, .nil⟩⟩
  have c_is_sign : C8.Cal l.prog w K mg base 1 "is_sign" sp_is_sign [] := ⟨⟨f2, _, _, _, ok_is_sign F2 T, PySem.W.mg_of X G a2, k2, b2, .nil⟩⟩
  have c_is_alphabet : C8.Cal l.prog w K mg base 2 "is_alphabet" sp_is_alphabet [] := ⟨⟨f3, _, _, _, ok_is_alphabet F3 T c_is_sign, PySem.W.mg_of X G a3, k3, b3, .nil⟩⟩
  have c_check_alphabet : C8.Cal l.prog w K mg base 3 "check_alphabet" sp_check_alphabet [] := ⟨⟨f4, _, _, _, ok_check_alphabet F4 T c_is_alphabet, PySem.W.mg_of X G a4, k4, b4, .nil⟩⟩
  have c_letter_row : C8.Cal l.prog w K mg base 1 "letter_row" sp_letter_row [] := ⟨⟨f6, _, _, _, ok_letter_row F6 T, PySem.W.mg_of X G a6, k6, b6, .nil⟩⟩
  have c_join_neighbors : C8.Cal l.prog w K mg base 1 "join_neighbors" sp_join_neighbors [] := ⟨⟨f7, _, _, _, ok_join_neighbors F7 T, PySem.W.mg_of X G a7, k7, b7, .nil⟩⟩
  have c_lowest_join : C8.Cal l.prog w K mg base 1 "lowest_join" sp_lowest_join [] := ⟨⟨f8, _, _, _, ok_lowest_join F8 T, PySem.W.mg_of X G a8, k8, b8, .nil⟩⟩
  have c_join_down : C8.Cal l.prog w K mg base 2 "join_down" sp_join_down [] := ⟨⟨f9, _, _, _, ok_join_down F9 T c_lowest_join c_join_neighbors, PySem.W.mg_of X G a9, k9, b9, .nil⟩⟩
  have c_may_follow : C8.Cal l.prog w K mg base 3 "may_follow" sp_may_follow [] := ⟨⟨f10, _, _, _, ok_may_follow F10 T c_is_number_below c_join_down c_letter_row, PySem.W.mg_of X G a10, k10, b10, .nil⟩⟩
  have k_Joins : C8.Mak l.prog w K mg base 4 "Joins" C (sp_init C) [] := ⟨⟨f11, _, _, _, ⟨mkC, a11, i11, kcC⟩, ok_init F11 T J c_check_alphabet c_may_follow, PySem.W.mg_of X G aC, b11, .nil⟩⟩
  have m___len__ : C8.Met l.prog w K mg base 1 C "__len__" (sp_len C) [] := ⟨⟨f12, _, _, _, J.cl, ⟨a12, i12, k12⟩, ok_len F12 T J, b12, .nil⟩⟩
  have c_check_number : C8.Cal l.prog w K mg base 3 "check_number" sp_check_number [] := ⟨⟨f5, _, _, _, ok_check_number F5 T c_is_number_below, PySem.W.mg_of X G a5, k5, b5, .nil⟩⟩
  have m_first : C8.Met l.prog w K mg base 6 C "first" (sp_first C) [] := ⟨⟨f15, _, _, _, J.cl, ⟨a15, i15, k15⟩, ok_first F15 T J c_check_number k_Joins, b15, .nil⟩⟩
  have c__law_numbers : C8.Cal l.prog w K mg base 1 "_law_numbers" sp_numbers [] := ⟨⟨f22, _, _, _, ok_numbers F22 T, PySem.W.mg_of X G a22, k22, b22, .nil⟩⟩
  have c_same0 : C8.Cal l.prog w K mg base 1 "_law_same" (sp_same 0) [] := ⟨⟨f23, _, _, _, ok_same0 F23 T, PySem.W.mg_of X G a23, k23, b23, .nil⟩⟩
  have c_same1 : C8.Cal l.prog w K mg base 2 "_law_same" (sp_same 1) [] := ⟨⟨f23, _, _, _, ok_sameS F23 T c_same0, PySem.W.mg_of X G a23, k23, b23, .nil⟩⟩
  have c_same2 : C8.Cal l.prog w K mg base 3 "_law_same" (sp_same 2) [] := ⟨⟨f23, _, _, _, ok_sameS F23 T c_same1, PySem.W.mg_of X G a23, k23, b23, .nil⟩⟩
  have c_same3 : C8.Cal l.prog w K mg base 4 "_law_same" (sp_same 3) [] := ⟨⟨f23, _, _, _, ok_sameS F23 T c_same2, PySem.W.mg_of X G a23, k23, b23, .nil⟩⟩
  have c__law_alphabet : C8.Cal l.prog w K mg base 1 "_law_alphabet" sp_alphabet [] := ⟨⟨f24, _, _, _, ok_alphabet F24 T, PySem.W.mg_of X G a24, k24, b24, .nil⟩⟩
  have c__law_join_all : C8.Cal l.prog w K mg base 1 "_law_join_all" sp_join_all [] := ⟨⟨f25, _, _, _, ok_join_all F25 T, PySem.W.mg_of X G a25, k25, b25, .nil⟩⟩
  have c__law_staged : C8.Cal l.prog w K mg base 2 "_law_staged" sp_staged [] := ⟨⟨f26, _, _, _, ok_staged F26 T c__law_join_all, PySem.W.mg_of X G a26, k26, b26, .nil⟩⟩
  have c__law_letters : C8.Cal l.prog w K mg base 1 "_law_letters" sp_letter_row [] := ⟨⟨f27, _, _, _, ok_letters F27 T, PySem.W.mg_of X G a27, k27, b27, .nil⟩⟩
  have c__law_is_proper : C8.Cal l.prog w K mg base 3 "_law_is_proper" sp_is_proper [] := ⟨⟨f28, _, _, _, ok_is_proper F28 T c__law_staged c__law_letters, PySem.W.mg_of X G a28, k28, b28, .nil⟩⟩
  have c__law_list : C8.Cal l.prog w K mg base 4 "_law_list" sp_list [] := ⟨⟨f29, _, _, _, ok_list F29 T c__law_is_proper, PySem.W.mg_of X G a29, k29, b29, .nil⟩⟩
  have n___iter__ : MetS l.prog w K mg base 1 C "__iter__" (sp_iterS C) := ⟨⟨f13, _, _, J.cl, ⟨a13, i13, k13⟩, ok_iterS F13 T J, b13⟩⟩
  have m___eq__ : C8.Met l.prog w K mg base 1 C "__eq__" (sp_jeq C) [] := ⟨⟨f14, _, _, _, J.cl, ⟨a14, i14, k14⟩, ok_jeq F14 T J GJoins ic, b14, .nil⟩⟩
  have c_is_number_word : C8.Cal l.prog w K mg base 1 "is_number_word" sp_numw [] := ⟨⟨f20, _, _, _, ok_numw F20 T, PySem.W.mg_of X G a20, k20, b20, .nil⟩⟩
  have c_is_alphabet_line : C8.Cal l.prog w K mg base 3 "is_alphabet_line" sp_alline [] := ⟨⟨f18, _, _, _, ok_alline F18 T c_is_alphabet, PySem.W.mg_of X G a18, k18, b18, .nil⟩⟩
  have c_leading_pairs : C8.Cal l.prog w K mg base 2 "leading_pairs" sp_leading [] := ⟨⟨f19, _, _, _, ok_leading F19 T c_is_number_word, PySem.W.mg_of X G a19, k19, b19, .nil⟩⟩
  have c_joins_of_lines : C8.Cal l.prog w K mg base 6 "joins_of_lines" (sp_jlines C) [] := ⟨⟨f21, _, _, _, ok_jlines F21 T GNotProper k_Joins, PySem.W.mg_of X G a21, k21, b21, .nil⟩⟩
  have c_read_joins : C8.Cal l.prog w K mg base 7 "read_joins" (sp_readj C) [] := ⟨⟨f17, _, _, _, ok_readj F17 T c_is_alphabet_line c_leading_pairs c_joins_of_lines, PySem.W.mg_of X G a17, k17, b17, .nil⟩⟩
  have c_write_joins : C8.Cal l.prog w K mg base 4 "write_joins" (sp_writej C) [] := ⟨⟨f16, _, _, _, ok_writej F16 T J n___iter__, PySem.W.mg_of X G a16, k16, b16, .nil⟩⟩
  exact ok_law F30 T J c__law_numbers c__law_alphabet c__law_list k_Joins m___eq__ c_write_joins c_read_joins c_same2
theorem walk {l : PySem.W.OpenLaw} {q : Program} {loose : List Str} {XP : (Str → Option Value) → Heap → Prop} {YP : World → Heap → Prop} {d : DefRec} {K : Params → PySem.W.Frag} (hn : l.most = some 63) (hdf : d.params.defaults = [])
    (hY : ∀ (w : World) (h : Heap), YP w h → (K w.params).In h)
    (F : ∀ (w : World) (mg : Str → Option Value) (fa : Addr) (h : Heap), (K w.params).In h → h.Ns mainGlobals mg → mg d.name = some (.ref fa) →
      ∃ fd : FuncData, (∀ (s : Shared) (u : Value), BindsTo s fd ⟨[u], []⟩ [("script", u)]) ∧ ∀ base : Heap, (K w.params).In base → base.Ns mainGlobals mg → FnOk l.prog w (K w.params) mg base C8.CX0 8 fa fd ["script"] (sp_law (K w.params))) :
    PySem.W.WalkO q loose XP YP l.row.toRowW d [] (fun f vs => PySem.call f vs) :=
  L2.walk_of (n := 63) (k := 8) (x := "script") (CX := fun _ => C8.CX0) (sp := fun w => sp_law (K w.params)) hn (by decide) hdf ⟨rfl, by decide, by decide⟩ hY F (fun _ _ a ns hl _ hS => ⟨a, ns, rfl, hS, hl, fun _ => rfl⟩) fun _ _ _ _ _ z => z
end RJ
end

section
open PySem PySem.W PyProof.Rows
set_option maxRecDepth 100000 in
set_option maxHeartbeats 0 in
theorem PySem.Challenge.cw_rankedjoins_k03_lists_as_texts_holds : PySem.Challenge.rw_rankedjoins_k03_lists_as_texts.Holds := by
  w_on; o_law; k_head; (case hw => w_witness2)
  k_fill
  refine RJ.walk (l := PySem.Challenge.rw_rankedjoins_k03_lists_as_texts) rfl rfl (fun w h Y => PySem.W.kIn_of Y) ?F
  case F =>
    intro w mg fa h KX G hmg
    refine' RJ.all_mk KX G hmg ?aC ?a0 ?l0 ?c0 ?k0 ?a1 ?l1 ?c1 ?k1 ?a2 ?l2 ?c2 ?k2 ?a3 ?l3 ?c3 ?k3 ?a4 ?l4 ?c4 ?k4 ?a5 ?l5 ?c5 ?k5 ?a6 ?l6 ?c6 ?k6 ?a7 ?l7 ?c7 ?k7 ?a8 ?l8 ?c8 ?k8 ?a9 ?l9 ?c9 ?k9 ?a10 ?l10 ?c10 ?k10 ?a11 ?i11 ?l11 ?c11 ?k11 ?a12 ?i12 ?l12 ?c12 ?k12 ?a13 ?i13 ?l13 ?c13 ?k13 ?a14 ?i14 ?l14 ?c14 ?k14 ?a15 ?i15 ?l15 ?c15 ?k15 ?a16 ?l16 ?c16 ?k16 ?a17 ?l17 ?c17 ?k17 ?a18 ?l18 ?c18 ?k18 ?a19 ?l19 ?c19 ?k19 ?a20 ?l20 ?c20 ?k20 ?a21 ?l21 ?c21 ?k21 ?a22 ?l22 ?c22 ?k22 ?a23 ?l23 ?c23 ?k23 ?a24 ?l24 ?c24 ?k24 ?a25 ?l25 ?c25 ?k25 ?a26 ?l26 ?c26 ?k26 ?a27 ?l27 ?c27 ?k27 ?a28 ?l28 ?c28 ?k28 ?a29 ?l29 ?c29 ?k29 ?a30 ?l30 ?c30 ?k30 ?pgC ?hdC ?poC ?saC ?mkC ?kcC ?nC0 ?nC1 ?nC2 ?nC3 ?nC4 ?yjC ?ymC ?yeC ?ANotProper ?zsuper ?zopq ?hn0 ?ht0 ?htop ?z0 ?z1 ?z2 ?z3 ?z4 ?z5 ?z6 ?z7 ?z8 ?z9 ?z10 ?z11 ?z12 ?z13 ?z14 ?v0 ?v1 ?v2 ?v3
    (case aC => k_is); (case a0 => k_is); (case l0 => k_is); (case c0 => k_is); (case k0 => k_is); (case a1 => k_is)
    (case l1 => k_is); (case c1 => k_is); (case k1 => k_is); (case a2 => k_is); (case l2 => k_is); (case c2 => k_is)
    (case k2 => k_is); (case a3 => k_is); (case l3 => k_is); (case c3 => k_is); (case k3 => k_is); (case a4 => k_is)
    (case l4 => k_is); (case c4 => k_is); (case k4 => k_is); (case a5 => k_is); (case l5 => k_is); (case c5 => k_is)
    (case k5 => k_is); (case a6 => k_is); (case l6 => k_is); (case c6 => k_is); (case k6 => k_is); (case a7 => k_is)
    (case l7 => k_is); (case c7 => k_is); (case k7 => k_is); (case a8 => k_is); (case l8 => k_is); (case c8 => k_is)
    (case k8 => k_is); (case a9 => k_is); (case l9 => k_is); (case c9 => k_is); (case k9 => k_is); (case a10 => k_is)
    (case l10 => k_is); (case c10 => k_is); (case k10 => k_is); (case a11 => k_is); (case i11 => k_is); (case l11 => k_is)
    (case c11 => k_is); (case k11 => k_is); (case a12 => k_is); (case i12 => k_is); (case l12 => k_is); (case c12 => k_is)
    (case k12 => k_is); (case a13 => k_is); (case i13 => k_is); (case l13 => k_is); (case c13 => k_is); (case k13 => k_is)
    (case a14 => k_is); (case i14 => k_is); (case l14 => k_is); (case c14 => k_is); (case k14 => k_is); (case a15 => k_is)
    (case i15 => k_is); (case l15 => k_is); (case c15 => k_is); (case k15 => k_is); (case a16 => k_is); (case l16 => k_is)
    (case c16 => k_is); (case k16 => k_is); (case a17 => k_is); (case l17 => k_is); (case c17 => k_is); (case k17 => k_is)
    (case a18 => k_is); (case l18 => k_is); (case c18 => k_is); (case k18 => k_is); (case a19 => k_is); (case l19 => k_is)
    (case c19 => k_is); (case k19 => k_is); (case a20 => k_is); (case l20 => k_is); (case c20 => k_is); (case k20 => k_is)
    (case a21 => k_is); (case l21 => k_is); (case c21 => k_is); (case k21 => k_is); (case a22 => k_is); (case l22 => k_is)
    (case c22 => k_is); (case k22 => k_is); (case a23 => k_is); (case l23 => k_is); (case c23 => k_is); (case k23 => k_is)
    (case a24 => k_is); (case l24 => k_is); (case c24 => k_is); (case k24 => k_is); (case a25 => k_is); (case l25 => k_is)
    (case c25 => k_is); (case k25 => k_is); (case a26 => k_is); (case l26 => k_is); (case c26 => k_is); (case k26 => k_is)
    (case a27 => k_is); (case l27 => k_is); (case c27 => k_is); (case k27 => k_is); (case a28 => k_is); (case l28 => k_is)
    (case c28 => k_is); (case k28 => k_is); (case a29 => k_is); (case l29 => k_is); (case c29 => k_is); (case k29 => k_is)
    (case a30 => k_is); (case l30 => k_is); (case c30 => k_is); (case k30 => k_is); (case pgC => k_is); (case hdC => k_is)
    (case poC => k_is); (case saC => k_is); (case mkC => k_is); (case kcC => k_is); (case nC0 => k_is); (case nC1 => k_is)
    (case nC2 => k_is); (case nC3 => k_is); (case nC4 => k_is); (case yjC => k_is); (case ymC => k_is); (case yeC => kit_is)
    (case ANotProper => k_is); (case zsuper => k_is); (case zopq => k_is); (case hn0 => k_is); (case ht0 => k_is); (case htop => decide +kernel)
    (case z0 => k_is); (case z1 => k_is); (case z2 => k_is); (case z3 => k_is); (case z4 => k_is); (case z5 => k_is)
    (case z6 => k_is); (case z7 => k_is); (case z8 => k_is); (case z9 => k_is); (case z10 => k_is); (case z11 => k_is)
    (case z12 => k_is); (case z13 => k_is); (case z14 => k_is); (case v0 => k_is); (case v1 => k_is); (case v2 => k_is)
    (case v3 => k_is)
end
