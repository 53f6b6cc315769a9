import PyProof.Rows.All
import Wide.All
import OpenK.AllK
import Wide.FinOn
import HandS.Text
import HandS.ForMost
import HandS.ForExc
import HandS.IsInst
import HandS.Zip
import HandS.Star
import HandS.TupAny
import HandS.Lambda
import HandS.ExcIs
import HandS.ExcCtx
import HandS.HotCalls
import HandS.Wide
import PyProof.FactsAll.list_3
import HandS.List
import HandS.CallLocal
import PyProof.ListMulRoad
import PyProof.FactsAll.tuple_2
import HandS.TupMul
import HandS.Walk
import HandS.Iter
import HandS.Conv
import PyProof.CompFree
import PyProof.Conv_int_bool
import PyProof.WalkInts
import PyProof.SumWalkG
import PyProof.Rows.SumAny
import HandS.ExcValue
import HandS.OwnEq
import HandS.Comp
import OpenK.KOps
import HandS.EndTab
import KE.KNestM
import PySem.Challenge.RW_foldchains_k11_whole_feeds
set_option Elab.async false
set_option linter.all false
set_option maxRecDepth 100000
set_option maxHeartbeats 4000000
/-! The chains and their texts in plain Lean. -/
namespace FC
open PySem L2 TL

/-! ### steps and chains -/
def tab : List (Str × List Str) :=
  [("line", ["a", "b"]), ("turn", ["m", "r", "a", "b"]), ("keep", ["m", "r"]), ("every", ["k", "r"]), ("twice", []), ("sums", []), ("anew", ["m", "r"]), ("gaps", []), ("groups", ["k"]), ("count", [])]
def bnd : List (Str × Int × Int) := [("a", -3, 3), ("b", -9, 9), ("m", 2, 3), ("k", 2, 3)]
def lohi (l : Str) (ahead : Int) : Int × Int := if l = "r" then (0, ahead - 1) else (bnd.lookup l).getD (0, 0)
def within : List Str → List V → Int → Bool
  | [], [], _ => true
  | l :: ls, .int n :: xs, ahead => !(decide (n < (lohi l ahead).1) || decide (n > (lohi l ahead).2)) && within ls xs n
  | _, _, _ => false
def stepOkN (name : Str) (rest : List V) : Bool := match tab.lookup name with
  | some ls => decide (ls.length = rest.length) && within ls rest 0
  | none => false
def stepOk : List V → Bool
  | .str name :: rest => stepOkN name rest
  | _ => false
def lims : List (Nat × List Str) := [(2, ["sums", "anew", "gaps", "groups", "count"]), (2, ["turn", "keep", "anew"]), (1, ["twice"])]
def headIn (names : List Str) : List V → Bool
  | .str n :: _ => decide (n ∈ names)
  | _ => false
def limOk (steps : List (List V)) : Bool := lims.all fun p => decide ((steps.filter (headIn p.2)).length ≤ p.1)
def chainOk (steps : List (List V)) : Bool := decide (steps.length ≤ 4) && (steps.all stepOk && limOk steps)

/-! ### texts -/
def partText : V → Str
  | .str s => s
  | .int i => Str.ofString (toString i)
  | _ => Str.empty
def stepText (ys : List V) : Str := Txt.join " " (ys.map partText)
def chainText (c : List (List V)) : Str := Txt.join " | " (c.map stepText)
def numTab : List (Str × Int) := [("-9", -9), ("-8", -8), ("-7", -7), ("-6", -6), ("-5", -5), ("-4", -4), ("-3", -3), ("-2", -2), ("-1", -1),
  ("0", 0), ("1", 1), ("2", 2), ("3", 3), ("4", 4), ("5", 5), ("6", 6), ("7", 7), ("8", 8), ("9", 9)]
def num (w : Str) : V := match numTab.lookup w with
  | some n => .int n
  | none => .non
def readStep (p : Str) : List V := match Txt.split p " " with
  | name :: ws => .str name :: ws.map num
  | [] => []
def parts (z : Str) : List Str := if z = Str.empty then [] else Txt.split z " | "
def parse (z : Str) : List (List V) := (parts z).map readStep

/-! ### joining what was split, splitting what was joined -/
theorem spl_ne (S : List Nat) : ∀ (k : Nat) (acc l : List Nat), spl S k acc l ≠ []
  | 0, acc, [] => by simp [spl]
  | k + 1, acc, [] => by simp [spl]
  | 0, acc, c :: r => by
    show (if pre S (c :: r) = true then acc :: spl S (S.length - 1) [] r else spl S 0 (acc ++ [c]) r) ≠ []
    split
    · simp
    · exact spl_ne S 0 _ r
  | k + 1, acc, c :: r => spl_ne S k acc r
theorem joinL_cons {S p : List Nat} {r : List (List Nat)} (h : r ≠ []) : joinL S (p :: r) = p ++ (S ++ joinL S r) := by
  cases r with
  | nil => exact absurd rfl h
  | cons q r => rfl
theorem joinL_spl {S : List Nat} (hS : S ≠ []) : ∀ (n : Nat) (acc l : List Nat), l.length ≤ n → joinL S (spl S 0 acc l) = acc ++ l
  | _, acc, [], _ => by simp [spl, joinL]
  | 0, acc, c :: r, h => by simp at h
  | n + 1, acc, c :: r, h => by
    have hr : r.length ≤ n := by simpa using h
    by_cases hp : pre S (c :: r) = true
    · rw [spl_hit hp, joinL_cons (spl_ne _ _ _ _), spl_pass, joinL_spl hS n [] _ (by rw [List.length_drop]; omega), List.nil_append]
      have e : (c :: r).take S.length = S := eq_of_beq hp
      have e2 := List.take_append_drop S.length (c :: r)
      rw [e] at e2
      have hd : (c :: r).drop S.length = r.drop (S.length - 1) := by
        cases S with
        | nil => exact absurd rfl hS
        | cons s S => simp
      rw [hd] at e2
      rw [e2]
    · rw [spl_miss (by simpa using hp), joinL_spl hS n (acc ++ [c]) r hr]
      simp
theorem join_split {y : Str} {s : Nat} {S : List Nat} (ey : tl y = s :: S) (hk : y.cps.all (· < 256) = true) (x : Str) : Txt.join y (Txt.split x y) = x := by
  refine ext_tl ?_
  rw [join_eq, tl_join, split_spl x y (by rw [ey]; simp) (kind_ok hk), joinL_spl (by rw [ey]; simp) _ _ _ (Nat.le_refl _), List.nil_append]
/-- a bar within blanks -/
theorem spl_bar {p rest acc : List Nat} (h : 124 ∉ p) : spl [32, 124, 32] 0 acc (p ++ ([32, 124, 32] ++ rest)) = (acc ++ p) :: spl [32, 124, 32] 0 [] rest := by
  refine spl_part (by simp) fun i hi => ?_
  have hlt : i < (p ++ ([32, 124, 32] ++ rest)).length := by rw [List.length_append]; omega
  cases e : pre [32, 124, 32] ((p ++ ([32, 124, 32] ++ rest)).drop i) with
  | false => rfl
  | true =>
    exfalso
    have e1 : ((p ++ ([32, 124, 32] ++ rest)).drop i).take 3 = [32, 124, 32] := eq_of_beq e
    have e2 := congrArg (fun l => l[1]?) e1
    simp only [List.getElem?_take, List.getElem?_drop] at e2
    by_cases hq : i + 1 < p.length
    · rw [List.getElem?_append_left hq] at e2
      simp at e2
      have : p[i + 1] = 124 := by
        rw [List.getElem?_eq_getElem hq] at e2
        exact Option.some.inj e2
      exact h (this ▸ List.getElem_mem hq)
    · have hq : i + 1 = p.length := by omega
      rw [hq, List.getElem?_append_right (Nat.le_refl _)] at e2
      simp at e2
theorem spl_barLast {p acc : List Nat} (h : 124 ∉ p) : spl [32, 124, 32] 0 acc p = [acc ++ p] := by
  refine spl_last fun i hi => ?_
  cases e : pre [32, 124, 32] (p.drop i) with
  | false => rfl
  | true =>
    exfalso
    have e1 : (p.drop i).take 3 = [32, 124, 32] := eq_of_beq e
    have e2 := congrArg (fun l => l[1]?) e1
    simp only [List.getElem?_take, List.getElem?_drop] at e2
    by_cases hq : i + 1 < p.length
    · rw [List.getElem?_eq_getElem hq] at e2
      simp at e2
      exact h (e2 ▸ List.getElem_mem hq)
    · rw [List.getElem?_eq_none (by omega)] at e2
      simp at e2
theorem spl_barJoin : ∀ {ps : List (List Nat)}, ps ≠ [] → (∀ p ∈ ps, 124 ∉ p) → spl [32, 124, 32] 0 [] (joinL [32, 124, 32] ps) = ps
  | [], h, _ => absurd rfl h
  | [p], _, hp => by
    show spl [32, 124, 32] 0 [] p = [p]
    rw [spl_barLast (hp p (List.mem_singleton.mpr rfl)), List.nil_append]
  | p :: q :: r, _, hp => by
    show spl [32, 124, 32] 0 [] (p ++ ([32, 124, 32] ++ joinL [32, 124, 32] (q :: r))) = p :: q :: r
    rw [spl_bar (hp p (List.mem_cons_self ..)), List.nil_append, spl_barJoin (by simp) fun z hz => hp z (List.mem_cons_of_mem _ hz)]
theorem tl_sp : tl (" " : Str) = 32 :: [] := by decide +kernel
theorem tl_bar : tl (" | " : Str) = [32, 124, 32] := by decide +kernel
theorem all_sp : (" " : Str).cps.all (· < 256) = true := by decide +kernel
theorem all_bar : (" | " : Str).cps.all (· < 256) = true := by decide +kernel
theorem split_bar {ps : List Str} (hne : ps ≠ []) (hp : ∀ p ∈ ps, 124 ∉ tl p) : Txt.split (Txt.join " | " ps) " | " = ps := by
  refine map_tl_inj ?_
  rw [split_spl _ _ (by rw [tl_bar]; simp) (kind_ok all_bar), join_eq, tl_join, tl_bar]
  refine spl_barJoin (fun e => hne (List.map_eq_nil_iff.mp e)) fun p h => ?_
  obtain ⟨z, hz, rfl⟩ := List.mem_map.mp h
  exact hp z hz
theorem split_sp {ps : List Str} (hne : ps ≠ []) (hp : ∀ p ∈ ps, 32 ∉ tl p) : Txt.split (Txt.join " " ps) " " = ps := split_join tl_sp all_sp hne hp
theorem join_sp (x : Str) : Txt.join " " (Txt.split x " ") = x := join_split tl_sp all_sp x
theorem join_bar (x : Str) : Txt.join " | " (Txt.split x " | ") = x := join_split (s := 32) (S := [124, 32]) tl_bar all_bar x
theorem split_ne (x y : Str) : Txt.split x y ≠ [] := by
  unfold Txt.split
  split
  · simp
  · split
    · simp
    · unfold PySem.Builtin.Str.partsBetween
      exact fun z => by
        first
          | exact absurd z (by simp)
          | (cases h : PySem.Builtin.Str.occurrences x y 0 x.length (x.length + 1) <;> simp_all)

/-! ### what a step's numbers are -/
def names : List Str := tab.map (·.1)
theorem lookup_mem {α β : Type} [BEq α] [LawfulBEq α] : ∀ {l : List (α × β)} {k : α} {v : β}, l.lookup k = some v → (k, v) ∈ l
  | [], _, _, h => by simp at h
  | (a, b) :: r, k, v, h => by
    rw [List.lookup_cons] at h
    split at h
    · rename_i e
      have e := eq_of_beq e
      cases h
      subst e
      exact List.mem_cons_self
    · exact List.mem_cons_of_mem _ (lookup_mem h)
theorem lohi_in (l : Str) (a : Int) (ha : a ≤ 9) : -9 ≤ (lohi l a).1 ∧ (lohi l a).2 ≤ 9 := by
  unfold lohi
  split
  · constructor
    · show (-9 : Int) ≤ 0
      decide
    · show a - 1 ≤ 9
      omega
  · cases h : bnd.lookup l with
    | none => exact ⟨by decide, by decide⟩
    | some p =>
      have m := lookup_mem h
      have all : ∀ q ∈ bnd, -9 ≤ q.2.1 ∧ q.2.2 ≤ 9 := by decide +kernel
      exact all _ m
theorem within_ints : ∀ {ls : List Str} {xs : List V} {a : Int}, a ≤ 9 → within ls xs a = true → ∃ ns : List Int, xs = ns.map V.int ∧ (∀ n ∈ ns, -9 ≤ n ∧ n ≤ 9) ∧ ns.length = ls.length
  | [], [], _, _, _ => ⟨[], rfl, by simp, rfl⟩
  | l :: ls, .int n :: xs, a, ha, h => by
    unfold within at h
    simp only [Bool.and_eq_true, Bool.not_eq_true', Bool.or_eq_false_iff, decide_eq_false_iff_not] at h
    obtain ⟨⟨h1, h2⟩, h3⟩ := h
    have b := lohi_in l a ha
    have hn : -9 ≤ n ∧ n ≤ 9 := by omega
    obtain ⟨ns, e, q, hl⟩ := within_ints (ls := ls) (xs := xs) (a := n) hn.2 h3
    exact ⟨n :: ns, by rw [e]; rfl, by
      intro m hm
      rcases List.mem_cons.mp hm with z | z
      · rw [z]; exact hn
      · exact q m z, by simp [hl]⟩
  | [], _ :: _, _, _, h => by simp [within] at h
  | _ :: _, [], _, _, h => by simp [within] at h
  | _ :: _, .non :: _, _, _, h => by simp [within] at h
  | _ :: _, .bl _ :: _, _, _, h => by simp [within] at h
  | _ :: _, .str _ :: _, _, _, h => by simp [within] at h
  | _ :: _, .byt _ :: _, _, _, h => by simp [within] at h
  | _ :: _, .flt _ :: _, _, _, h => by simp [within] at h
  | _ :: _, .ref _ :: _, _, _, h => by simp [within] at h
  | _ :: _, .ty _ :: _, _, _, h => by simp [within] at h
theorem stepOk_shape {ys : List V} (h : stepOk ys = true) : ∃ (name : Str) (ns : List Int), ys = .str name :: ns.map V.int ∧ name ∈ names ∧ (∀ n ∈ ns, -9 ≤ n ∧ n ≤ 9) ∧ ns.length ≤ 4 := by
  match ys, h with
  | .str name :: rest, h =>
    have h : stepOkN name rest = true := h
    unfold stepOkN at h
    cases e : tab.lookup name with
    | none => rw [e] at h; simp at h
    | some ls =>
      rw [e] at h
      simp only [Bool.and_eq_true, decide_eq_true_eq] at h
      obtain ⟨ns, e1, e2, e3⟩ := within_ints (by decide) h.2
      have m := lookup_mem e
      have all : ∀ q ∈ tab, q.2.length ≤ 4 := by decide +kernel
      exact ⟨name, ns, by rw [e1], List.mem_map.mpr ⟨_, m, rfl⟩, e2, by rw [e3]; exact all _ m⟩
  | [], h => simp [stepOk] at h
  | .non :: _, h => simp [stepOk] at h
  | .bl _ :: _, h => simp [stepOk] at h
  | .int _ :: _, h => simp [stepOk] at h
  | .byt _ :: _, h => simp [stepOk] at h
  | .flt _ :: _, h => simp [stepOk] at h
  | .ref _ :: _, h => simp [stepOk] at h
  | .ty _ :: _, h => simp [stepOk] at h
def small : List Int := [-9, -8, -7, -6, -5, -4, -3, -2, -1, 0, 1, 2, 3, 4, 5, 6, 7, 8, 9]
theorem small_of {n : Int} (h : -9 ≤ n ∧ n ≤ 9) : n ∈ small := by
  have : n = -9 ∨ n = -8 ∨ n = -7 ∨ n = -6 ∨ n = -5 ∨ n = -4 ∨ n = -3 ∨ n = -2 ∨ n = -1 ∨ n = 0 ∨ n = 1 ∨ n = 2 ∨ n = 3 ∨ n = 4 ∨ n = 5 ∨ n = 6 ∨ n = 7 ∨ n = 8 ∨ n = 9 := by omega
  simp only [small, List.mem_cons]
  omega
theorem num_back : ∀ n ∈ small, num (partText (.int n)) = .int n ∧ 32 ∉ tl (partText (.int n)) ∧ 124 ∉ tl (partText (.int n)) ∧ (partText (.int n)).length ≤ 2 := by decide +kernel
theorem num_text : ∀ p ∈ numTab, partText (.int p.2) = p.1 := by decide +kernel
theorem names_free : ∀ x ∈ names, 32 ∉ tl x ∧ 124 ∉ tl x ∧ x.length ≤ 6 := by decide +kernel
theorem num_some {w : Str} {n : Int} (h : num w = .int n) : partText (.int n) = w := by
  unfold num at h
  cases e : numTab.lookup w with
  | none => rw [e] at h; cases h
  | some m =>
    rw [e] at h
    cases h
    exact num_text _ (lookup_mem e)
theorem readStep_text {ys : List V} (h : stepOk ys = true) : readStep (stepText ys) = ys := by
  obtain ⟨name, ns, rfl, hn, hs, _⟩ := stepOk_shape h
  have e : Txt.split (stepText (.str name :: ns.map V.int)) " " = (V.str name :: ns.map V.int).map partText := by
    refine split_sp (by simp) fun p hp => ?_
    obtain ⟨v, hv, rfl⟩ := List.mem_map.mp hp
    rcases List.mem_cons.mp hv with z | z
    · rw [z]; exact (names_free _ hn).1
    · obtain ⟨n, hn', rfl⟩ := List.mem_map.mp z
      exact (num_back n (small_of (hs n hn'))).2.1
  unfold readStep
  rw [e]
  show V.str name :: ((ns.map V.int).map partText).map num = _
  rw [List.map_map, List.map_map]
  congr 1
  refine List.map_congr_left fun n hn' => ?_
  exact (num_back n (small_of (hs n hn'))).1
theorem joinL_mem {S : List Nat} {c : Nat} : ∀ {ps : List (List Nat)}, c ∈ joinL S ps → c ∈ S ∨ ∃ p ∈ ps, c ∈ p
  | [], h => by simp [joinL] at h
  | [p], h => .inr ⟨p, by simp, h⟩
  | p :: q :: r, h => by
    have h : c ∈ p ++ (S ++ joinL S (q :: r)) := h
    rw [List.mem_append, List.mem_append] at h
    rcases h with h | h | h
    · exact .inr ⟨p, by simp, h⟩
    · exact .inl h
    · rcases joinL_mem h with z | ⟨p', h1, h2⟩
      · exact .inl z
      · exact .inr ⟨p', List.mem_cons_of_mem _ h1, h2⟩
theorem stepText_free {ys : List V} (h : stepOk ys = true) : 124 ∉ tl (stepText ys) := by
  obtain ⟨name, ns, rfl, hn, hs, _⟩ := stepOk_shape h
  unfold stepText
  rw [join_eq, tl_join, tl_sp]
  intro z
  rcases joinL_mem z with z | ⟨p, hp, hc⟩
  · simp at z
  · obtain ⟨q, hq, rfl⟩ := List.mem_map.mp hp
    obtain ⟨v, hv, rfl⟩ := List.mem_map.mp hq
    rcases List.mem_cons.mp hv with z | z
    · rw [z] at hc; exact (names_free _ hn).2.1 hc
    · obtain ⟨n, hn', rfl⟩ := List.mem_map.mp z
      exact (num_back n (small_of (hs n hn'))).2.2.1 hc
theorem join_cons_ne {S : List Nat} {p : List Nat} {r : List (List Nat)} (h : p ≠ []) : joinL S (p :: r) ≠ [] := by
  cases r with
  | nil => exact h
  | cons q r =>
    show p ++ (S ++ joinL S (q :: r)) ≠ []
    simp [h]
theorem names_ne : ∀ x ∈ names, tl x ≠ [] := by decide +kernel
theorem stepText_ne {ys : List V} (h : stepOk ys = true) : tl (stepText ys) ≠ [] := by
  obtain ⟨name, ns, rfl, hn, hs, _⟩ := stepOk_shape h
  unfold stepText
  rw [join_eq, tl_join]
  exact join_cons_ne (names_ne _ hn)
theorem chainText_ne {c : List (List V)} (hc : c ≠ []) (h : ∀ ys ∈ c, stepOk ys = true) : chainText c ≠ Str.empty := by
  cases c with
  | nil => exact absurd rfl hc
  | cons ys c =>
    intro e
    have e := congrArg tl e
    unfold chainText at e
    rw [join_eq, tl_join] at e
    exact join_cons_ne (stepText_ne (h ys (by simp))) e
theorem chainOk_steps {c : List (List V)} (h : chainOk c = true) : ∀ ys ∈ c, stepOk ys = true := by
  unfold chainOk at h
  simp only [Bool.and_eq_true, List.all_eq_true] at h
  exact h.2.1
theorem chainOk_len {c : List (List V)} (h : chainOk c = true) : c.length ≤ 4 := by
  unfold chainOk at h
  simp only [Bool.and_eq_true, decide_eq_true_eq] at h
  exact h.1
/-- parsing is the inverse of formatting -/
theorem parse_text {c : List (List V)} (h : chainOk c = true) : parse (chainText c) = c := by
  have hs := chainOk_steps h
  unfold parse parts
  by_cases hc : c = []
  · subst hc
    rfl
  · rw [if_neg (chainText_ne hc hs)]
    unfold chainText
    rw [split_bar (by simpa using hc) (fun p hp => by
      obtain ⟨ys, hy, rfl⟩ := List.mem_map.mp hp
      exact stepText_free (hs ys hy)), List.map_map]
    have : ∀ ys ∈ c, (readStep ∘ stepText) ys = ys := fun ys hy => readStep_text (hs ys hy)
    exact (List.map_congr_left this).trans (List.map_id _)
theorem text_readStep {p : Str} (h : stepOk (readStep p) = true) : stepText (readStep p) = p := by
  obtain ⟨name, ns, e, hn, hs, _⟩ := stepOk_shape h
  unfold readStep at e h ⊢
  cases es : Txt.split p " " with
  | nil => exact absurd es (split_ne _ _)
  | cons x ws =>
    rw [es] at e
    injection e with e1 e2
    show Txt.join " " (partText (.str x) :: (ws.map num).map partText) = p
    have : (ws.map num).map partText = ws := by
      rw [List.map_map]
      refine (List.map_congr_left (g := id) fun w hw => ?_).trans (List.map_id _)
      have hm : num w ∈ ns.map V.int := by rw [← e2]; exact List.mem_map.mpr ⟨w, hw, rfl⟩
      obtain ⟨n, _, en⟩ := List.mem_map.mp hm
      show partText (num w) = w
      rw [← en]
      exact num_some en.symm
    rw [this]
    show Txt.join " " (x :: ws) = p
    rw [← es]
    exact join_sp p
/-- what is parsed and is a chain has the text that was parsed -/
theorem text_parse {z : Str} (h : chainOk (parse z) = true) : chainText (parse z) = z := by
  have hs := chainOk_steps h
  unfold parse parts at hs ⊢
  by_cases hz : z = Str.empty
  · rw [if_pos hz, hz]
    rfl
  · rw [if_neg hz] at hs ⊢
    unfold chainText
    rw [List.map_map]
    have : ∀ p ∈ Txt.split z " | ", (stepText ∘ readStep) p = id p := fun p hp => text_readStep (hs _ (List.mem_map.mpr ⟨p, hp, rfl⟩))
    rw [List.map_congr_left this, List.map_id]
    exact join_bar z
end FC
set_option Elab.async false
set_option linter.all false
set_option maxRecDepth 100000
namespace FC
open PySem L2
def top (i : Nat) : Stmt := PySem.Challenge.pw_foldchains_k11_whole_feeds.main.body.getD i (.Pass ⟨0, 0, 0, 0⟩)
abbrev sIsChain : Stmt := top 13
abbrev sCheck : Stmt := top 14
abbrev sIsWhole : Stmt := top 15
abbrev sIsStep : Stmt := top 16
abbrev sWithin : Stmt := top 17
abbrev sLimits : Stmt := top 18
-- no sFormat
-- no sParse
-- no sStepText
-- no sReadStep
abbrev sCell : Stmt := top 42
abbrev sDrawn : Stmt := top 43
abbrev sRoll : Stmt := top 44
abbrev sRounds : Stmt := top 45
abbrev sTerm : Stmt := top 46
abbrev sTold : Stmt := top 47
abbrev sRest : Stmt := top 48
abbrev sStep : Stmt := top 49
abbrev sChain : Stmt := top 50
abbrev sLaw : Stmt := top 55
/-- the built-in names that the program and the law use -/
structure Blt (mg : Str → Option Value) : Prop where
  isi : mg "isinstance" = none
  int : mg "int" = none
  bool : mg "bool" = none
  str : mg "str" = none
  tuple : mg "tuple" = none
  len : mg "len" = none
  all : mg "all" = none
  zip : mg "zip" = none
  range : mg "range" = none
  max : mg "max" = none
  min : mg "min" = none
  sum : mg "sum" = none
  vErr : mg "ValueError" = none
end FC
namespace FC
open PySem L2
/-- a def that may be called by its name -/
structure Cal (P : Program) (w : World) (K : PySem.W.Frag) (mg : Str → Option Value) (base : Heap) (CX : CXT) (k : Nat) (x : Str) (ps : List Str) (sp : Sp) : Prop where
  ex : ∃ f fd, FnOk P w K mg base CX k f fd ps sp ∧ mg x = some (.ref f) ∧ PySem.W.keepIn K (.ref f) = true ∧ Binds K fd ps []
def tCal (sp : Sp) (E : XK) (t : TA) : TE := fun σ H Q => t σ H fun vs H1 => sp vs H1 Q E
section
variable {X : Cx} {CX : CXT} {k : Nat} {x : Str} {ps : List Str} {sp : Sp} {E : XK} {e : Expr} {es : List Expr} {t : TA} {p pos : Pos}
theorem pe_cal (C : Cal X.prog X.w X.K X.mg X.base CX k x ps sp) (hr : Room k X.A) (hx : Passes CX X E) (ha : PA X (e :: es) t) (hg : Gl X x := by rfl) (hdb : (x == ("__debug__" : Str)) = false := by decide)
    (he : starEach (e :: es) X.env = (false, eval e X.env) :: starEach es X.env := by rfl) (hpl : (backTo pos (starEach es X.env)).any (·.1) = false := by rfl) :
    PE X (.Call (.Name x p) (e :: es) [] pos) (tCal sp E t) := by
  obtain ⟨f, fd, G, m, kp, b⟩ := C.ex
  have h := pe_call (E := E) (pos := pos) (p := p) G hr hg m kp b .nil hx ha hdb he hpl
  refine ⟨fun pins s σ H Q I q => h.run pins s σ H Q I ?_⟩
  have mono := ha
  refine (show tCall sp [] E t σ H Q from ?_)
  unfold tCall
  unfold tCal at q
  simpa using q
end
end FC
namespace FC
open PySem L2
/-! ### the tables of the module as they stand behind the top -/
structure LetT (K : PySem.W.Frag) (w : World) (d : Addr) : Prop where
  kd : ∃ es n, KDict K w d es n
  at_ : ∀ z, ∃ r, PySem.W.nsIn K d z = some r ∧ match tab.lookup z with
    | none => r = none
    | some ls => ∃ a, r = some (.ref a) ∧ ∀ H, SqT K H a (ls.map V.str)
structure BndT (K : PySem.W.Frag) (w : World) (d : Addr) : Prop where
  kd : ∃ es n, KDict K w d es n
  at_ : ∀ p ∈ bnd, ∃ a, PySem.W.nsIn K d p.1 = some (some (.ref a)) ∧ ∀ H, SqT K H a [.int p.2.1, .int p.2.2]
structure NumT (K : PySem.W.Frag) (w : World) (d : Addr) : Prop where
  kd : ∃ es n, KDict K w d es n
  at_ : ∀ z, ∃ r, PySem.W.nsIn K d z = some r ∧ match numTab.lookup z with
    | none => r = none
    | some i => ∃ t, r = some (.int i t)
structure LimT (K : PySem.W.Frag) (a : Addr) : Prop where
  at_ : ∃ rs : List Addr, (∀ H, SqT K H a (rs.map V.ref)) ∧ rs.length = lims.length ∧ ∀ (i : Nat) (p : Nat × List Str) (r : Addr), lims[i]? = some p → rs[i]? = some r →
    ∃ c, (∀ H, SqT K H r [.int (p.1 : Nat), .ref c]) ∧ ∀ H, SqT K H c (p.2.map V.str)
end FC
namespace FC
open PySem L2
/-- an own exception class of the module, told of its written part -/
structure ExcT (K : PySem.W.Frag) (mg : Str → Option Value) (x : Str) (C : Addr) : Prop where
  gC : mg x = some (.ref C)
  q : PySem.W.excIn K C [.type "ValueError", .type "Exception", .type "BaseException", .type "object"] "ValueError.__new__" = true
  kC : PySem.W.keepIn K (.ref C) = true
  bP : PySem.W.subIn K (.ref C) (.type "BaseException") = some true
  tP : PySem.W.typeIn K (.ref C) = some (.type "type")
/-- a def that may let out an exception whose context is None -/
theorem okN {P : Program} {w : World} {K : PySem.W.Frag} {mg : Str → Option Value} {base : Heap} {x : Str} {st : Stmt} {f : Addr} {fd : FuncData} {N ps : List Str} {k : Nat} {sp : Sp} (F : Fun K x x st f fd) (S : FnScope N ps (defScope st))
    (len : ∀ vs H Q E, sp vs H Q E → vs.length = ps.length)
    (body : ∀ (c : Value) (A : Around) (outer : List Env) (s : Shared) (H : Hp) (vs : List V) (Q : VK) (E : XK), Room k (A.deeper (PyProof.Rows.envOfC x (defScope st) s.heap.objs.size f c)) → sp vs H Q E →
      ∃ t, PSs (cxOf (L2N.CX P w) P w K mg base N x (defScope st) f c A outer s H E) (defBody st) t ∧ t { nx := fun _ H' => Q .non H', rt := Q } (start N vs) H) :
    FnOk P w K mg base (L2N.CX P w) (k + 1) f fd ps sp := by
  obtain ⟨oc, od, kV, doc, pm, an, c, ct, osl, rfl, lk, hcd⟩ := F.ex
  exact fn_of lk hcd S len fun A outer s H vs Q E hr h => body c A outer s H vs Q E hr h
/-- none of its exceptions is known here: the call lets none out -/
theorem passN {X : Cx} : Passes (L2N.CX X.prog X.w) X E0 := fun _ _ _ _ _ _ _ h => by
  obtain ⟨_, _, _, _, _, _, _, _, _, _, _, _, z⟩ := h
  exact z.elim
end FC
namespace FC
open PySem L2
/-- an expression told in other words -/
theorem pe_as {X : Cx} {e : Expr} {t t' : TE} (h : PE X e t) (i : ∀ σ H Q, t' σ H Q → t σ H Q) : PE X e t' := ⟨fun pins s σ H Q I q => h.run pins s σ H Q I (i σ H Q q)⟩
end FC
set_option Elab.async false
set_option linter.all false
set_option maxRecDepth 100000
set_option maxHeartbeats 4000000
/-! l.extend(t) by a tuple; a call of a name that holds one of several defs. -/
namespace FC
open PySem PySem.Spec PyProof.Rows L2
theorem list_extend_tup (l : Addr) (items : Array Value) (n : Nat) (b : Addr) (items2 : Array Value) (n2 : Nat) (dd : Option Addr) (sl : Array (Option Value)) (hs0 : ¬(!items.isEmpty && Builtin.List.listTooLong (items.size + items2.size)) = true) (hs1 : items.size ≤ sizeLine) (hs2 : items.size + items2.size ≤ sizeLine + 1) :
    Meets (Builtin.«list.extend» ⟨[.ref l, .ref b], []⟩) (fun _ R s => s.heap.get? l = some { cls := .type "list", dict := none, data := .seq items n, slots := #[] } ∧ s.heap.get? b = some { cls := .type "tuple", dict := dd, data := .seq items2 n2, slots := sl } ∧ R (.ok (.ret Value.none)) { s with heap := s.heap.update l (Obj.mapSeq fun x => x ++ items2), toks := s.toks }) :=
  .of_wp fun prog w A R s h => by
    obtain ⟨hp, g, d, tk, os⟩ := s; obtain ⟨hl, hb, h⟩ := h; have f1 := AutoSeq1.idx_int; have f2 := AutoSeq1.sub_tuple_tuple; have f3 := AutoSeq1.sub_list_list; have f4 := AutoSeq1.sub_tuple_list; have f5 := AutoSeq1.sub_list_tuple
    have hz' : (items ++ items2).size ≤ sizeLine + 1 := by rw [Array.size_append]; exact hs2
    wp_walk using (wpAny_updateSeq hl rfl (hz := hs1) (_hz' := hz')), wpAny_loadPart' hl, wpAny_loadPart' hb; exact ⟨_, rfl, h⟩
def rExtT (K : PySem.W.Frag) : V → List V → Hp → VK → Prop := fun x vs H Q => ∃ l b xs zs, x = .ref l ∧ vs = [.ref b] ∧ H l = some (.lst xs) ∧ SqT K H b zs ∧ xs.length + zs.length ≤ sizeLine ∧ Q .non (upd H l (.lst (xs ++ zs)))
section
variable {X : Cx}
theorem mt_extT : MtM X "list.extend" (rExtT X.K) := by
  intro pins s σ H x vs v us Q I rx rv h
  obtain ⟨l, b, xs, zs, rfl, rfl, hH, hB, hz, q⟩ := h
  cases rx
  obtain ⟨u, rfl, ru⟩ := rv.one
  cases ru
  obtain ⟨z, its, n, r, hl, e⟩ := I.lstM hH
  obtain ⟨its2, r2, ⟨⟨cls, dd, data, sl⟩, ho, hc, n2, hd⟩, hs⟩ := I.tuple hB
  simp only at hc hd
  subst hc hd
  have hl2 := r2.length
  have hsz : its.toArray.size + its2.toArray.size ≤ sizeLine := by rw [List.size_toArray, List.size_toArray]; omega
  have hlong : ¬ (!its.toArray.isEmpty && Builtin.List.listTooLong (its.toArray.size + its2.toArray.size)) = true := by
    rw [notLongL hsz, Bool.and_false]
    exact Bool.false_ne_true
  refine call_meets F.slot_list_extend ⟨_, e, rfl⟩ F.entry_list_extend (F.args_list_extend_2 _ _)
    (list_extend_tup l its.toArray n b its2.toArray n2 dd sl hlong (by rw [List.size_toArray]; omega) (by omega)) ⟨e, ho, ?_⟩
  refine ⟨.non, _, I.lset (its' := its ++ its2) hH e (by simp) (r.append r2) ?_, rfl, q⟩
  rw [List.length_append]
  omega
/-- the i-th slot holds some def, whose promise is told where it is called -/
def tCallH (P : Program) (w : World) (K : PySem.W.Frag) (mg : Str → Option Value) (base : Heap) (k i : Nat) (t : TA) : TE := fun σ H Q => ∃ f sp, σ[i]? = some (some (.ref f)) ∧ Held P w K mg base k f sp ∧ t σ H fun vs H1 => sp vs H1 Q (fun _ _ _ => False)
variable {k i : Nat} {x : Str} {p pos : Pos} {e : Expr} {es : List Expr} {t : TA}
theorem pe_callHd (hr : Room k X.A) (hN : X.N[i]? = some x) (hv : Vis X.env.scope x) (ha : PA X (e :: es) t)
    (hdb : (x == ("__debug__" : Str)) = false := by decide) (hcd : (x == ("__classdict__" : Str)) = false := by decide)
    (he : starEach (e :: es) X.env = (false, eval e X.env) :: starEach es X.env := by rfl) (hpl : (backTo pos (starEach es X.env)).any (·.1) = false := by rfl) : PE X (.Call (.Name x p) (e :: es) [] pos) (tCallH X.prog X.w X.K X.mg X.base k i t) := by
  refine ⟨fun pins s σ H Q I h => ?_⟩
  obtain ⟨f, sp, hs, ⟨fd, ps, F, hk, hb⟩, ht⟩ := h
  refine (pe_callL (i := i) (f := f) (sp := sp) (dvs := []) (E := fun _ _ _ => False) F hr hN hv hk hb .nil (fun _ _ _ _ _ _ _ z => z.elim) ha hdb hcd he hpl).run pins s σ H Q I ⟨hs, ?_⟩
  have e0 : (fun (vs : List V) (H1 : Hp) => sp (vs ++ []) H1 Q (fun _ _ _ => False)) = fun vs H1 => sp vs H1 Q (fun _ _ _ => False) := by
    funext vs H1
    rw [List.append_nil]
  show t σ H (fun vs H1 => sp (vs ++ []) H1 Q (fun _ _ _ => False))
  rw [e0]
  exact ht
end
theorem Cal.held {P : Program} {w : World} {K : PySem.W.Frag} {mg : Str → Option Value} {base : Heap} {k : Nat} {x : Str} {ps : List Str} {sp : Sp} {f : Addr} (C : ∃ fd, FnOk P w K mg base (fun _ _ _ _ _ _ => False) k f fd ps sp ∧ PySem.W.keepIn K (.ref f) = true ∧ Binds K fd ps []) : Held P w K mg base k f sp := by
  obtain ⟨fd, h⟩ := C
  exact ⟨fd, ps, h⟩
end FC
set_option Elab.async false
set_option linter.all false
set_option maxRecDepth 100000
set_option maxHeartbeats 4000000
/-! tuple * int, by 0 and by 1 too. -/
namespace FC
open PySem PySem.Spec PyProof.Rows L2
theorem tuple_mul1 (l : Addr) (items : Array Value) (n : Nat) (dd : Option Addr) (sl : Array (Option Value)) (u : Tok) :
    Meets (Builtin.«tuple.__mul__» ⟨[.ref l, .int 1 u], []⟩) (fun _ R s => s.heap.get? l = some { cls := .type "tuple", dict := dd, data := .seq items n, slots := sl } ∧ R (.ok (.ret (Value.ref l))) s) :=
  .of_wp fun prog w A R s h => by
    obtain ⟨hp, g, d, tk, os⟩ := s
    obtain ⟨hl, h⟩ := h
    have f1 := AutoSeq1.idx_int
    have c0 : (decide ((1 : Int) < -(2 ^ 63)) || decide ((1 : Int) ≥ 2 ^ 63)) = false := by decide
    have c1 : (items.isEmpty || (1 : Int) == 1) = true := by rw [show ((1 : Int) == 1) = true from rfl, Bool.or_true]
    wp_walk using wpAny_loadPart' hl
    repeat (first
      | (refine wpAny_ite_false (decide_eq_false (by rw [c0]; exact Bool.false_ne_true)) ?_; wp_walk using wpAny_loadPart' hl)
      | (refine wpAny_ite_true (decide_eq_true c1) ?_; wp_walk using wpAny_loadPart' hl))
    exact ⟨_, rfl, h⟩
theorem tuple_mul0 (l : Addr) (items : Array Value) (n : Nat) (dd : Option Addr) (sl : Array (Option Value)) (u : Tok) (hne : items.isEmpty = false) :
    Meets (Builtin.«tuple.__mul__» ⟨[.ref l, .int 0 u], []⟩) (fun _ R s => s.heap.get? l = some { cls := .type "tuple", dict := dd, data := .seq items n, slots := sl } ∧
      R (.ok (.ret (Value.ref s.heap.objs.size))) { s with heap := s.heap.push { cls := Value.type "tuple", data := Data.seq #[] }, toks := s.toks }) :=
  .of_wp fun prog w A R s h => by
    obtain ⟨hp, g, d, tk, os⟩ := s
    obtain ⟨hl, h⟩ := h
    have f1 := AutoSeq1.idx_int
    have c0 : (decide ((0 : Int) < -(2 ^ 63)) || decide ((0 : Int) ≥ 2 ^ 63)) = false := by decide
    have c1 : (items.isEmpty || (0 : Int) == 1) = false := by rw [hne]; rfl
    have c2 : (decide ((0 : Int) ≤ 0) || items.isEmpty) = true := by rw [hne]; rfl
    have hsz : ((#[] : Array Value)).size ≤ sizeLine := Nat.zero_le _
    wp_walk using wpAny_loadPart' hl
    repeat (first
      | (refine wpAny_ite_false (decide_eq_false (by rw [c0]; exact Bool.false_ne_true)) ?_; wp_walk using wpAny_loadPart' hl)
      | (refine wpAny_ite_false (decide_eq_false (by rw [c1]; exact Bool.false_ne_true)) ?_; wp_walk using wpAny_loadPart' hl)
      | (refine wpAny_ite_true (decide_eq_true c2) ?_; wp_walk using wpAny_loadPart' hl)
      | (refine wpAny_ite_false (decide_eq_false (Nat.not_lt.mpr hsz)) ?_; wp_walk using wpAny_loadPart' hl))
    exact ⟨_, rfl, h⟩
/-- t * k -/
def rRepA (K : PySem.W.Frag) : R2 := fun x y H Q => ∃ l k xs, x = .ref l ∧ y = .int k ∧ SqT K H l xs ∧ xs ≠ [] ∧ 0 ≤ k ∧ k ≤ 1000 ∧ xs.length ≤ 1000 ∧ (k = 1 → Q (.ref l) H) ∧ (k ≠ 1 → ∀ p, H p = none → Q (.ref p) (upd H p (.tup (List.replicate k.toNat xs).flatten)))
section
variable {X : Cx}
theorem op_repA : OpR X (binaryOp .Mult) (rRepA X.K) := by
  intro pins s σ H x y v u Q I rx ry h
  obtain ⟨l, k, xs, rfl, rfl, hT, hne, h1, h2, hz, q1, q2⟩ := h
  by_cases hk : 2 ≤ k
  · exact op_repT pins s σ H _ _ v u Q I rx ry ⟨l, k, xs, rfl, rfl, hT, hne, hk, h2, hz, q2 (by omega)⟩
  cases rx
  obtain ⟨t, rfl⟩ := ry
  obtain ⟨its, r, ⟨⟨cls, dd, data, sl⟩, ho, hc, n, hd⟩, hs⟩ := I.tuple hT
  simp only at hc hd
  subst hc hd
  have hle : its.length = xs.length := r.length.symm
  have hn : its ≠ [] := fun e => hne (by
    rw [e] at hle
    exact List.eq_nil_of_length_eq_zero hle.symm)
  have hi : its.toArray.isEmpty = false := by
    cases its with
    | nil => exact absurd rfl hn
    | cons a b => rfl
  by_cases hk1 : k = 1
  · subst hk1
    refine wpAny_binaryOp_repeat_ref (T := "tuple") (U := "int") (by decide) ⟨_, ho, rfl⟩ (fun s' => typeIs_int s' 1 t) noFill_tuple_mul F.fills_int_mul F.slot_int_rmul repeat_tuple F.slot_int_index.lookup
      (call_meets F.slot_int_rmul (typeIs_int s 1 t) F.entry_int_rmul (F.args_int_rmul_2 _ _) (int_rmul_tuple 1 t l its.toArray n dd sl)
        ⟨ho, rfl, ⟨_, ho, rfl⟩, call_meets F.slot_tuple_mul ⟨_, ho, rfl⟩ F.entry_tuple_mul (F.args_tuple_mul_2 _ _) (tuple_mul1 l its.toArray n dd sl t) ⟨ho, ?_⟩⟩)
    exact ⟨.ref l, H, I, rfl, q1 rfl⟩
  · obtain rfl : k = 0 := by omega
    refine wpAny_binaryOp_repeat_ref (T := "tuple") (U := "int") (by decide) ⟨_, ho, rfl⟩ (fun s' => typeIs_int s' 0 t) noFill_tuple_mul F.fills_int_mul F.slot_int_rmul repeat_tuple F.slot_int_index.lookup
      (call_meets F.slot_int_rmul (typeIs_int s 0 t) F.entry_int_rmul (F.args_int_rmul_2 _ _) (int_rmul_tuple 0 t l its.toArray n dd sl)
        ⟨ho, rfl, ⟨_, ho, rfl⟩, call_meets F.slot_tuple_mul ⟨_, ho, rfl⟩ F.entry_tuple_mul (F.args_tuple_mul_2 _ _) (tuple_mul0 l its.toArray n dd sl t hi) ⟨ho, ?_⟩⟩)
    refine ⟨.ref s.heap.objs.size, _, I.laid (t' := s.toks) (o := .tup []) (fun b ob q => Heap.get?_push_of_some _ q) (Nat.le_refl _) ?_, rfl, q2 (by decide) _ (I.hok.fresh (Nat.le_refl _))⟩
    exact ⟨Nat.zero_le _, _, .nil, IsTup.new _ _⟩
end
end FC
namespace FC
open PySem L2
abbrev sIsNumber : Stmt := top 22
abbrev sGvLine : Stmt := top 25
abbrev sGvTurn : Stmt := top 26
abbrev sGvKeep : Stmt := top 27
abbrev sGvEvery : Stmt := top 28
abbrev sGvTwice : Stmt := top 29
abbrev sGvSums : Stmt := top 30
abbrev sGvAnew : Stmt := top 31
abbrev sGvGaps : Stmt := top 32
abbrev sGvGroups : Stmt := top 33
abbrev sGvCount : Stmt := top 34
abbrev sStartP : Stmt := top 36
abbrev sAdvance : Stmt := top 37
abbrev sPassT : Stmt := top 38
abbrev sFeed : Stmt := top 40
abbrev sThrough : Stmt := top 51
abbrev sGiven : Stmt := top 52
abbrev sRunL : Stmt := top 53
abbrev sRightF : Stmt := top 54
end FC
set_option Elab.async false
set_option linter.all false
set_option maxRecDepth 100000
/-! What steps and chains give, number by number, in plain Lean. -/
namespace FC
open PySem L2
inductive Stp where
  | line (a b : Int)
  | turn (m r a b : Int)
  | keep (m r : Int)
  | every (k r : Int)
  | twice
  | sums
  | anew (m r : Int)
  | gaps
  | groups (k : Int)
  | count
def Stp.name : Stp → Str
  | .line _ _ => "line"
  | .turn _ _ _ _ => "turn"
  | .keep _ _ => "keep"
  | .every _ _ => "every"
  | .twice => "twice"
  | .sums => "sums"
  | .anew _ _ => "anew"
  | .gaps => "gaps"
  | .groups _ => "groups"
  | .count => "count"
def Stp.args : Stp → List Int
  | .line a b => [a, b]
  | .turn m r a b => [m, r, a, b]
  | .keep m r => [m, r]
  | .every k r => [k, r]
  | .twice => []
  | .sums => []
  | .anew m r => [m, r]
  | .gaps => []
  | .groups k => [k]
  | .count => []
def Stp.v (p : Stp) : List V := .str p.name :: p.args.map V.int
def two3 (m : Int) : Prop := m = 2 ∨ m = 3
def Stp.ok : Stp → Prop
  | .line a b => -3 ≤ a ∧ a ≤ 3 ∧ -9 ≤ b ∧ b ≤ 9
  | .turn m r a b => two3 m ∧ 0 ≤ r ∧ r < m ∧ -3 ≤ a ∧ a ≤ 3 ∧ -9 ≤ b ∧ b ≤ 9
  | .keep m r => two3 m ∧ 0 ≤ r ∧ r < m
  | .every k r => two3 k ∧ 0 ≤ r ∧ r < k
  | .twice => True
  | .sums => True
  | .anew m r => two3 m ∧ 0 ≤ r ∧ r < m
  | .gaps => True
  | .groups k => two3 k
  | .count => True
/-- the place from which anew sums, in the numbers till now -/
def lastHit (m r : Int) (ns : List Int) : Nat := ((List.range ns.length).filter fun i => decide ((ns.getD i 0 - r) % m = 0)).getLastD 0
/-- what a step gives for x behind the numbers pre -/
def Stp.out (p : Stp) (pre : List Int) (x : Int) : List Int := match p with
  | .line a b => [a * x + b]
  | .turn m r a b => [if (x - r) % m = 0 then a * x + b else x]
  | .keep m r => if (x - r) % m = 0 then [x] else []
  | .every k r => if (pre.length : Int) % k = r then [x] else []
  | .twice => [x, x]
  | .sums => [(pre ++ [x]).sum]
  | .anew m r => [((pre ++ [x]).drop (lastHit m r (pre ++ [x]))).sum]
  | .gaps => [x - pre.getLastD 0]
  | .groups k => if ((pre.length : Int) + 1) % k = 0 then [((pre ++ [x]).drop (pre.length + 1 - k.toNat)).sum] else []
  | .count => [(pre.length : Int) + 1]
/-- .. for some numbers, one by one -/
def Stp.each (p : Stp) : List Int → List Int → List (List Int)
  | _, [] => []
  | pre, x :: r => p.out pre x :: p.each (pre ++ [x]) r
def Stp.outs (p : Stp) (pre xs : List Int) : List Int := (p.each pre xs).flatten
theorem Stp.each_append (p : Stp) : ∀ (xs pre ys : List Int), p.each pre (xs ++ ys) = p.each pre xs ++ p.each (pre ++ xs) ys
  | [], pre, ys => by rw [List.nil_append, List.append_nil]; rfl
  | x :: r, pre, ys => by
    show p.out pre x :: p.each (pre ++ [x]) (r ++ ys) = p.out pre x :: (p.each (pre ++ [x]) r ++ p.each (pre ++ x :: r) ys)
    rw [Stp.each_append p r, List.append_assoc]
    rfl
theorem Stp.outs_append (p : Stp) (xs pre ys : List Int) : p.outs pre (xs ++ ys) = p.outs pre xs ++ p.outs (pre ++ xs) ys := by
  unfold Stp.outs
  rw [Stp.each_append, List.flatten_append]
theorem Stp.each_length (p : Stp) : ∀ (xs pre : List Int), (p.each pre xs).length = xs.length
  | [], _ => rfl
  | x :: r, pre => by
    show (p.each (pre ++ [x]) r).length + 1 = r.length + 1
    rw [Stp.each_length p r]
theorem Stp.each_get (p : Stp) : ∀ (xs pre : List Int) (i : Nat) (x : Int), xs[i]? = some x → (p.each pre xs)[i]? = some (p.out (pre ++ xs.take i) x)
  | [], _, i, x, h => by simp at h
  | y :: r, pre, 0, x, h => by
    have h : y = x := by simpa using h
    rw [h, List.take_zero, List.append_nil]
    rfl
  | y :: r, pre, i + 1, x, h => by
    have h : r[i]? = some x := by simpa using h
    have := Stp.each_get p r (pre ++ [y]) i x h
    show (p.each (pre ++ [y]) r)[i]? = _
    rw [this, List.take_succ_cons, List.append_assoc]
    rfl
theorem Stp.out_len (p : Stp) (pre : List Int) (x : Int) : (p.out pre x).length ≤ 2 := by
  cases p <;> simp only [Stp.out] <;> (try split) <;> simp
theorem flat_len {n : Nat} : ∀ {l : List (List Int)}, (∀ g ∈ l, g.length ≤ n) → l.flatten.length ≤ n * l.length
  | [], _ => by simp
  | g :: r, h => by
    rw [List.flatten_cons, List.length_append, List.length_cons, Nat.mul_succ]
    have h1 := h g (by simp)
    have h2 := flat_len (l := r) fun z hz => h z (List.mem_cons_of_mem _ hz)
    omega
theorem Stp.each_mem (p : Stp) : ∀ (xs pre : List Int), ∀ g ∈ p.each pre xs, g.length ≤ 2
  | [], _, g, h => by cases h
  | x :: r, pre, g, h => by
    rcases List.mem_cons.mp h with e | e
    · rw [e]
      exact p.out_len pre x
    · exact Stp.each_mem p r _ g e
theorem Stp.outs_len (p : Stp) (pre xs : List Int) : (p.outs pre xs).length ≤ 2 * xs.length := by
  have := flat_len (p.each_mem xs pre)
  rw [p.each_length] at this
  exact this
/-! ### blocks: what comes from each number of a row -/
def blkStep (p : Stp) : List Int → List (List Int) → List (List Int)
  | _, [] => []
  | pre, b :: r => p.outs pre b :: blkStep p (pre ++ b) r
def ownersOf : Nat → List (List Int) → List Int
  | _, [] => []
  | k, b :: r => List.replicate b.length (k : Int) ++ ownersOf (k + 1) r
def givenB (cs : List Stp) (row : List Int) : List (List Int) := cs.foldl (fun bs p => blkStep p [] bs) (row.map fun x => [x])
def runM (cs : List Stp) (row : List Int) : List Int := (givenB cs row).flatten
theorem blk_len (p : Stp) : ∀ (bs : List (List Int)) (pre : List Int), (blkStep p pre bs).length = bs.length
  | [], _ => rfl
  | b :: r, pre => by
    show (blkStep p (pre ++ b) r).length + 1 = r.length + 1
    rw [blk_len p r]
theorem blk_flat (p : Stp) : ∀ (bs : List (List Int)) (pre : List Int), (blkStep p pre bs).flatten = p.outs pre bs.flatten
  | [], _ => rfl
  | b :: r, pre => by
    show p.outs pre b ++ (blkStep p (pre ++ b) r).flatten = p.outs pre (b ++ r.flatten)
    rw [blk_flat p r, Stp.outs_append]
theorem blk_append (p : Stp) : ∀ (bs ds : List (List Int)) (pre : List Int), blkStep p pre (bs ++ ds) = blkStep p pre bs ++ blkStep p (pre ++ bs.flatten) ds
  | [], ds, pre => by rw [List.nil_append, List.flatten_nil, List.append_nil]; rfl
  | b :: r, ds, pre => by
    show p.outs pre b :: blkStep p (pre ++ b) (r ++ ds) = p.outs pre b :: (blkStep p (pre ++ b) r ++ blkStep p (pre ++ (b ++ r.flatten)) ds)
    rw [blk_append p r, List.append_assoc]
theorem given_len (cs : List Stp) (row : List Int) : (givenB cs row).length = row.length := by
  unfold givenB
  have : ∀ (cs : List Stp) (bs : List (List Int)), (cs.foldl (fun bs p => blkStep p [] bs) bs).length = bs.length := fun cs => by
    induction cs with
    | nil => exact fun _ => rfl
    | cons p r ih => exact fun bs => by rw [List.foldl_cons, ih, blk_len]
  rw [this, List.length_map]
theorem sing_flat (row : List Int) : (row.map fun x => [x]).flatten = row := by
  induction row with
  | nil => rfl
  | cons x r ih => rw [List.map_cons, List.flatten_cons, ih]; rfl
theorem run_nil (row : List Int) : runM [] row = row := sing_flat row
/-- the whole row, step by step -/
theorem run_steps (cs : List Stp) (row : List Int) : runM cs row = cs.foldl (fun ns p => p.outs [] ns) row := by
  have key : ∀ (cs : List Stp) (bs : List (List Int)), (cs.foldl (fun bs p => blkStep p [] bs) bs).flatten = cs.foldl (fun ns p => p.outs [] ns) bs.flatten := fun cs => by
    induction cs with
    | nil => exact fun _ => rfl
    | cons p r ih => exact fun bs => by rw [List.foldl_cons, List.foldl_cons, ih, blk_flat]
  unfold runM givenB
  rw [key, sing_flat]
theorem run_len (cs : List Stp) (row : List Int) : (runM cs row).length ≤ 2 ^ cs.length * row.length := by
  rw [run_steps]
  have key : ∀ (cs : List Stp) (ns : List Int), (cs.foldl (fun ns p => p.outs [] ns) ns).length ≤ 2 ^ cs.length * ns.length := fun cs => by
    induction cs with
    | nil => exact fun ns => by simp
    | cons p r ih =>
      intro ns
      rw [List.foldl_cons, List.length_cons]
      have h1 := ih (p.outs [] ns)
      have h2 := p.outs_len [] ns
      have h3 : 2 ^ r.length * (p.outs [] ns).length ≤ 2 ^ r.length * (2 * ns.length) := Nat.mul_le_mul (Nat.le_refl _) h2
      have h4 : 2 ^ (r.length + 1) * ns.length = 2 ^ r.length * (2 * ns.length) := by rw [Nat.pow_succ, Nat.mul_assoc]
      omega
  exact key cs row
/-- what a chain gives for x behind a row, step by step -/
def newM : List Stp → List Int → List Int → List Int
  | [], _, xs => xs
  | p :: cs, row, xs => newM cs (p.outs [] row) (p.outs row xs)
theorem given_snoc (cs : List Stp) (row : List Int) (x : Int) : givenB cs (row ++ [x]) = givenB cs row ++ [newM cs row [x]] := by
  have key : ∀ (cs : List Stp) (bs : List (List Int)) (xs : List Int), cs.foldl (fun bs p => blkStep p [] bs) (bs ++ [xs]) = cs.foldl (fun bs p => blkStep p [] bs) bs ++ [newM cs bs.flatten xs] := fun cs => by
    induction cs with
    | nil => exact fun _ _ => rfl
    | cons p r ih =>
      intro bs xs
      rw [List.foldl_cons, List.foldl_cons, blk_append]
      show r.foldl _ (blkStep p [] bs ++ [p.outs ([] ++ bs.flatten) xs]) = _
      rw [ih, blk_flat, List.nil_append]
      rfl
  unfold givenB
  rw [List.map_append, List.map_cons, List.map_nil, key, sing_flat]
theorem run_snoc (cs : List Stp) (row : List Int) (x : Int) : runM cs (row ++ [x]) = runM cs row ++ newM cs row [x] := by
  unfold runM
  rw [given_snoc, List.flatten_append]
  simp
end FC
set_option Elab.async false
set_option linter.all false
set_option maxRecDepth 100000
/-! What a step holds between two numbers, in plain Lean. -/
namespace FC
open PySem L2
/-- what a step holds behind some numbers: a place and a total -/
def Stp.held (p : Stp) (pre : List Int) : Int × Int := match p with
  | .every k _ => ((pre.length : Int) % k, 0)
  | .sums => (0, pre.sum)
  | .anew m r => (0, (pre.drop (lastHit m r pre)).sum)
  | .gaps => (0, pre.getLastD 0)
  | .groups k => ((pre.length : Int) % k, (pre.drop (pre.length - pre.length % k.toNat)).sum)
  | .count => (0, (pre.length : Int))
  | _ => (0, 0)
theorem held_nil (p : Stp) : p.held [] = (0, 0) := by
  cases p <;> simp [Stp.held]
theorem rem_iff {x m r : Int} (hm : two3 m) (h0 : 0 ≤ r) (h1 : r < m) : (x - r) % m = 0 ↔ x % m = r := by
  unfold two3 at hm
  rcases hm with rfl | rfl <;> omega
theorem sum_snoc (l : List Int) (x : Int) : (l ++ [x]).sum = l.sum + x := by
  rw [List.sum_append]
  simp
theorem every_next {n k : Int} (hk : two3 k) : (n % k + 1) % k = (n + 1) % k := by
  unfold two3 at hk
  rcases hk with rfl | rfl <;> omega
theorem lastHit_le (m r : Int) (ns : List Int) : lastHit m r ns ≤ ns.length := by
  unfold lastHit
  cases h : ((List.range ns.length).filter fun i => decide ((ns.getD i 0 - r) % m = 0)) with
  | nil => simp
  | cons a t =>
    have hm : (a :: t).getLastD 0 ∈ a :: t := by
      have e : (a :: t).getLastD 0 = (a :: t).getLast (by simp) := by simp [List.getLastD_eq_getLast?, List.getLast?_eq_some_getLast]
      rw [e]
      exact List.getLast_mem _
    rw [← h] at hm
    have := List.mem_range.mp (List.mem_filter.mp hm).1
    rw [h] at this
    omega
theorem lastHit_snoc (m r : Int) (pre : List Int) (x : Int) : lastHit m r (pre ++ [x]) = if (x - r) % m = 0 then pre.length else lastHit m r pre := by
  unfold lastHit
  rw [List.length_append, List.length_singleton, List.range_succ, List.filter_append]
  have e1 : ((List.range pre.length).filter fun i => decide (((pre ++ [x]).getD i 0 - r) % m = 0)) = ((List.range pre.length).filter fun i => decide ((pre.getD i 0 - r) % m = 0)) := by
    refine List.filter_congr fun i hi => ?_
    have hi := List.mem_range.mp hi
    have : (pre ++ [x]).getD i 0 = pre.getD i 0 := by
      rw [List.getD_eq_getElem?_getD, List.getD_eq_getElem?_getD, List.getElem?_append_left hi]
    rw [this]
  have e2 : (pre ++ [x]).getD pre.length 0 = x := by
    rw [List.getD_eq_getElem?_getD, List.getElem?_append_right (Nat.le_refl _)]
    simp
  rw [e1]
  by_cases h : (x - r) % m = 0
  · rw [if_pos h]
    have : ([pre.length].filter fun i => decide (((pre ++ [x]).getD i 0 - r) % m = 0)) = [pre.length] := by
      rw [List.filter_cons, e2, decide_eq_true h]
      rfl
    rw [this]
    simp
  · rw [if_neg h]
    have : ([pre.length].filter fun i => decide (((pre ++ [x]).getD i 0 - r) % m = 0)) = [] := by
      rw [List.filter_cons, e2, decide_eq_false h]
      rfl
    rw [this, List.append_nil]
theorem anew_snoc (m r : Int) (pre : List Int) (x : Int) : ((pre ++ [x]).drop (lastHit m r (pre ++ [x]))).sum = (if (x - r) % m = 0 then 0 else (pre.drop (lastHit m r pre)).sum) + x := by
  rw [lastHit_snoc]
  by_cases h : (x - r) % m = 0
  · rw [if_pos h, if_pos h, List.drop_left]
    simp
  · rw [if_neg h, if_neg h, List.drop_append_of_le_length (lastHit_le m r pre), sum_snoc]
theorem groups_low {k : Int} (hk : two3 k) {pre : List Int} {x : Int} (h : (pre.length : Int) % k + 1 < k) : ((pre.length : Int) + 1) % k ≠ 0 ∧ ((pre.length : Int) + 1) % k = (pre.length : Int) % k + 1 ∧
    ((pre ++ [x]).drop ((pre ++ [x]).length - (pre ++ [x]).length % k.toNat)).sum = (pre.drop (pre.length - pre.length % k.toNat)).sum + x := by
  rw [List.length_append, List.length_singleton]
  have e : (pre.length + 1) - (pre.length + 1) % k.toNat = pre.length - pre.length % k.toNat := by
    unfold two3 at hk
    rcases hk with rfl | rfl
    · show (pre.length + 1) - (pre.length + 1) % 2 = pre.length - pre.length % 2
      omega
    · show (pre.length + 1) - (pre.length + 1) % 3 = pre.length - pre.length % 3
      omega
  rw [e, List.drop_append_of_le_length (Nat.sub_le _ _), sum_snoc]
  refine ⟨?_, ?_, rfl⟩ <;> (unfold two3 at hk; rcases hk with rfl | rfl <;> omega)
theorem groups_high {k : Int} (hk : two3 k) {pre : List Int} {x : Int} (h : ¬ (pre.length : Int) % k + 1 < k) : ((pre.length : Int) + 1) % k = 0 ∧
    ((pre ++ [x]).drop (pre.length + 1 - k.toNat)).sum = (pre.drop (pre.length - pre.length % k.toNat)).sum + x ∧ ((pre ++ [x]).drop ((pre ++ [x]).length - (pre ++ [x]).length % k.toNat)).sum = 0 := by
  rw [List.length_append, List.length_singleton]
  have e : pre.length + 1 - k.toNat = pre.length - pre.length % k.toNat ∧ (pre.length + 1) % k.toNat = 0 := by
    unfold two3 at hk
    rcases hk with rfl | rfl
    · show (pre.length + 1) - 2 = pre.length - pre.length % 2 ∧ (pre.length + 1) % 2 = 0
      omega
    · show (pre.length + 1) - 3 = pre.length - pre.length % 3 ∧ (pre.length + 1) % 3 = 0
      omega
  rw [e.1, e.2, List.drop_append_of_le_length (Nat.sub_le _ _), sum_snoc, Nat.sub_zero]
  have e2 : (pre ++ [x]).drop (pre.length + 1) = [] := List.drop_eq_nil_of_le (by rw [List.length_append, List.length_singleton]; exact Nat.le_refl _)
  rw [e2]
  refine ⟨?_, rfl, rfl⟩
  unfold two3 at hk
  rcases hk with rfl | rfl <;> omega
theorem gaps_snoc (pre : List Int) (x : Int) : (pre ++ [x]).getLastD 0 = x := by simp
/-- some numbers through a step -/
theorem outs_cons (p : Stp) (pre : List Int) (x : Int) (r : List Int) : p.outs pre (x :: r) = p.out pre x ++ p.outs (pre ++ [x]) r := by
  unfold Stp.outs
  rw [Stp.each, List.flatten_cons]
theorem outs_snoc (p : Stp) (pre xs : List Int) (x : Int) : p.outs pre (xs ++ [x]) = p.outs pre xs ++ p.out (pre ++ xs) x := by
  rw [Stp.outs_append, outs_cons]
  unfold Stp.outs Stp.each
  simp
theorem newM_append (p : Stp) : ∀ (cs : List Stp) (row xs : List Int), newM (cs ++ [p]) row xs = p.outs (runM cs row) (newM cs row xs) := fun cs => by
  have key : ∀ (cs : List Stp) (row xs : List Int), newM (cs ++ [p]) row xs = p.outs (cs.foldl (fun ns p => p.outs [] ns) row) (newM cs row xs) := fun cs => by
    induction cs with
    | nil => exact fun row xs => rfl
    | cons q r ih =>
      intro row xs
      show newM (r ++ [p]) (q.outs [] row) (q.outs row xs) = _
      rw [ih]
      rfl
  intro row xs
  rw [run_steps]
  exact key cs row xs
theorem newM_len : ∀ (cs : List Stp) (row xs : List Int), (newM cs row xs).length ≤ 2 ^ cs.length * xs.length
  | [], _, xs => by simp [newM]
  | p :: r, row, xs => by
    have h1 := newM_len r (p.outs [] row) (p.outs row xs)
    have h2 := p.outs_len row xs
    show (newM r (p.outs [] row) (p.outs row xs)).length ≤ 2 ^ (r.length + 1) * xs.length
    have h3 : 2 ^ r.length * (p.outs row xs).length ≤ 2 ^ r.length * (2 * xs.length) := Nat.mul_le_mul (Nat.le_refl _) h2
    rw [Nat.pow_succ, Nat.mul_assoc]
    omega
theorem run_take_snoc (p : Stp) (cs : List Stp) (row : List Int) : runM (cs ++ [p]) row = p.outs [] (runM cs row) := by
  rw [run_steps, run_steps, List.foldl_append]
  rfl
end FC
set_option Elab.async false
set_option linter.all false
set_option maxRecDepth 100000
set_option maxHeartbeats 4000000
namespace FC
open PySem L2
/-! ### kinds of values, by isinstance -/
def kinds : List String := ["NoneType", "bool", "int", "str", "float", "list", "tuple", "dict", "bytes", "set"]
def Nice (K : PySem.W.Frag) (H : Hp) (x : V) : Prop := ∃ T, T ∈ kinds ∧ TyX K H x (.type T)
def isW : V → Bool
  | .int _ => true
  | _ => false
def isS : V → Bool
  | .str _ => true
  | _ => false
theorem kit_int : ∀ T ∈ kinds, kitB T "int" = some (T == "int" || T == "bool") := by decide +kernel
theorem kit_bool : ∀ T ∈ kinds, kitB T "bool" = some (T == "bool") := by decide +kernel
theorem kit_str : ∀ T ∈ kinds, kitB T "str" = some (T == "str") := by decide +kernel
theorem kit_tuple : ∀ T ∈ kinds, kitB T "tuple" = some (T == "tuple") := by decide +kernel
theorem tyX_isW {K : PySem.W.Frag} {H : Hp} {x : V} {u : Value} (t : TyX K H x u) : isW x = (u == .type "int") := by
  cases t with
  | base b => cases b <;> first | rfl | decide +kernel
  | _ => first | rfl | decide +kernel
theorem tyX_isS {K : PySem.W.Frag} {H : Hp} {x : V} {u : Value} (t : TyX K H x u) : isS x = (u == .type "str") := by
  cases t with
  | base b => cases b <;> first | rfl | decide +kernel
  | _ => first | rfl | decide +kernel
theorem ty_beq' (a b : String) : (Value.type a == Value.type b) = (a == b) := by
  have := ty_beq a b
  rw [this]
  by_cases h : a = b
  · subst h; simp
  · rw [decide_eq_false h]; exact (beq_eq_false_iff_ne.mpr h).symm
theorem isW_of {K : PySem.W.Frag} {H : Hp} {x : V} {T : String} (t : TyX K H x (.type T)) : isW x = (T == "int") := by rw [tyX_isW t, ty_beq']
theorem isS_of {K : PySem.W.Frag} {H : Hp} {x : V} {T : String} (t : TyX K H x (.type T)) : isS x = (T == "str") := by rw [tyX_isS t, ty_beq']
theorem tyX_same {K : PySem.W.Frag} {H H' : Hp} {x : V} {u : Value} (e : Same H H') (t : TyX K H x u) : TyX K H' x u := by
  cases t with
  | base b => cases b with
    | non => exact .base .non
    | bl x => exact .base (.bl x)
    | int x => exact .base (.int x)
    | str x => exact .base (.str x)
    | flt x => exact .base (.flt x)
    | lst h => exact .base (.lst (e _ _ h))
    | frz h => exact .base (.frz (e _ _ h))
    | tup h => exact .base (.tup (e _ _ h))
    | dK h => exact .base (.dK (e _ _ h))
    | dT h => exact .base (.dT (e _ _ h))
    | ins h a b c d f => exact .base (.ins (e _ _ h) a b c d f)
  | byt b => exact .byt b
  | set h => exact .set (e _ _ h)
  | kList h c => exact .kList h c
  | kTuple h c => exact .kTuple h c
  | kDict h c => exact .kDict h c
  | fTuple h => exact .fTuple (e _ _ h)
  | fDict h => exact .fDict (e _ _ h)
theorem Nice.same {K : PySem.W.Frag} {H H' : Hp} {x : V} (e : Same H H') (n : Nice K H x) : Nice K H' x := by
  obtain ⟨T, h, t⟩ := n
  exact ⟨T, h, tyX_same e t⟩
theorem Nice.non {K : PySem.W.Frag} {H : Hp} : Nice K H .non := ⟨_, by decide, .base .non⟩
theorem Nice.bl {K : PySem.W.Frag} {H : Hp} (b : Bool) : Nice K H (.bl b) := ⟨_, by decide, .base (.bl b)⟩
theorem Nice.int {K : PySem.W.Frag} {H : Hp} (i : Int) : Nice K H (.int i) := ⟨_, by decide, .base (.int i)⟩
theorem Nice.str {K : PySem.W.Frag} {H : Hp} (z : Str) : Nice K H (.str z) := ⟨_, by decide, .base (.str z)⟩
theorem ty_tup {K : PySem.W.Frag} {H : Hp} {a : Addr} {xs : List V} (h : SqT K H a xs) : TyX K H (.ref a) (.type "tuple") := by
  rcases h with (h | ⟨o, h⟩) | ⟨o, its, n, h, c, _⟩
  · exact .base (.tup h)
  · exact .fTuple h
  · exact .kTuple h c
theorem Nice.tup {K : PySem.W.Frag} {H : Hp} {a : Addr} {xs : List V} (h : SqT K H a xs) : Nice K H (.ref a) := ⟨_, by decide, ty_tup h⟩
theorem sqt_same {K : PySem.W.Frag} {H H' : Hp} {a : Addr} {xs : List V} (e : Same H H') (h : SqT K H a xs) : SqT K H' a xs := by
  rcases h with (h | ⟨o, h⟩) | h
  · exact .inl (.inl (e _ _ h))
  · exact .inl (.inr ⟨o, e _ _ h⟩)
  · exact .inr h
theorem same_upd {H H' : Hp} {p : Addr} {o : HO} (e : Same H H') (h : H' p = none) : Same H (L2.upd H' p o) := fun b u q => by
  have q' := e b u q
  rw [upd_ne (ne_of_none q' h)]
  exact q'
def spIsWhole (K : PySem.W.Frag) : Sp := fun vs H Q _ => ∃ x, vs = [x] ∧ Nice K H x ∧ Q (.bl (isW x)) H
section
variable {P : Program} {w : World} {K : PySem.W.Frag} {mg : Str → Option Value} {base : Heap}
theorem scIsWhole : FnScope ["value"] ["value"] (defScope sIsWhole) := ⟨rfl, rfl, rfl, by decide +kernel, rfl, by decide +kernel, by decide +kernel⟩
theorem ok_isWhole {f : Addr} {fd : FuncData} (F : Fun K "is_whole" "is_whole" sIsWhole f fd) (T : Blt mg) : FnOk P w K mg base CX0 1 f fd ["value"] (spIsWhole K) := by
  refine F.ok scIsWhole (fun vs H Q E h => ?_) (fun cdv A outer s H vs Q E hr h => ?_)
  · obtain ⟨x, rfl, _⟩ := h
    rfl
  · obtain ⟨x, rfl, ⟨t, ht, hx⟩, k⟩ := h
    refine ⟨_, pss_one (ps_ret (pe_and (pe_callB call_isi (by rfl) T.isi (by decide +kernel) (pa_cons (pv 0) (pa_cons (pe_bltn (v := .ty "int") (by rfl) T.int (by decide +kernel) rfl) pa_nil)))
      (pe_one (pe_not (pe_callB call_isi (by rfl) T.isi (by decide +kernel) (pa_cons (pv 0) (pa_cons (pe_bltn (v := .ty "bool") (by rfl) T.bool (by decide +kernel) rfl) pa_nil))))))), ?_⟩
    refine ⟨_, rfl, _, _, _, _, _, rfl, .ty _, hx, kit_ty (kit_int t ht), _, rfl, ?_⟩
    have e := isW_of hx
    rw [e] at k
    refine ite2 (fun h => ?_) (fun h => ?_)
    · refine ⟨_, rfl, _, _, _, _, _, rfl, .ty _, hx, kit_ty (kit_bool t ht), _, rfl, ?_⟩
      have : (!(t == "bool")) = (t == "int") := by
        revert h
        exact (by decide : ∀ t ∈ kinds, (t == "int" || t == "bool") = true → (!(t == "bool")) = (t == "int")) t ht
      rw [this]
      exact k
    · have : (t == "int") = false := by
        revert h
        exact (by decide : ∀ t ∈ kinds, ¬ (t == "int" || t == "bool") = true → (t == "int") = false) t ht
      rw [this] at k
      exact k
end
end FC
set_option Elab.async false
set_option linter.all false
set_option maxRecDepth 100000
set_option maxHeartbeats 4000000
namespace FC
open PySem L2
def letters5 : List Str := ["a", "b", "m", "k", "r"]
def spWithin (K : PySem.W.Frag) : Sp := fun vs H Q _ => ∃ a b ls xs, vs = [.ref a, .ref b] ∧ SqT K H a (ls.map V.str) ∧ SqT K H b xs ∧ (∀ l ∈ ls, l ∈ letters5) ∧ (∀ x ∈ xs, Nice K H x) ∧
  ∀ H', Same H H' → Q (.bl (decide (ls.length = xs.length) && within ls xs 0)) H'
theorem bnd_of {l : Str} (h : l ∈ letters5) (hr : l ≠ "r") : ∃ p ∈ bnd, p.1 = l ∧ ∀ a, lohi l a = p.2 := by
  have all : ∀ l ∈ letters5, l ≠ "r" → ∃ p ∈ bnd, p.1 = l ∧ bnd.lookup l = some p.2 := by decide +kernel
  obtain ⟨p, h1, h2, h3⟩ := all l h hr
  refine ⟨p, h1, h2, fun a => ?_⟩
  unfold lohi
  rw [if_neg hr, h3]
  rfl
theorem within_cons {l : Str} {ls : List Str} {n : Int} {xs : List V} {a lo hi : Int} (el : lohi l a = (lo, hi)) : within (l :: ls) (.int n :: xs) a = (!(decide (n < lo) || decide (hi < n)) && within ls xs n) := by
  show (!(decide (n < (lohi l a).1) || decide ((lohi l a).2 < n)) && within ls xs n) = _
  rw [el]
theorem within_lt {l : Str} {ls : List Str} {n : Int} {xs : List V} {a lo hi : Int} (el : lohi l a = (lo, hi)) (h : decide (n < lo) = true) : within (l :: ls) (.int n :: xs) a = false := by
  rw [within_cons el, h]
  rfl
theorem within_gt {l : Str} {ls : List Str} {n : Int} {xs : List V} {a lo hi : Int} (el : lohi l a = (lo, hi)) (h : decide (hi < n) = true) : within (l :: ls) (.int n :: xs) a = false := by
  rw [within_cons el, h, Bool.or_true]
  rfl
theorem within_ok {l : Str} {ls : List Str} {n : Int} {xs : List V} {a lo hi : Int} (el : lohi l a = (lo, hi)) (h1 : ¬ decide (n < lo) = true) (h2 : ¬ decide (hi < n) = true) : within (l :: ls) (.int n :: xs) a = within ls xs n := by
  rw [within_cons el, eq_false_of_ne_true h1, eq_false_of_ne_true h2]
  rfl
section
variable {P : Program} {w : World} {K : PySem.W.Frag} {mg : Str → Option Value} {base : Heap}
theorem scWithin : FnScope ["letters", "numbers", "ahead", "letter", "number", "low", "high"] ["letters", "numbers"] (defScope sWithin) := ⟨rfl, rfl, rfl, by decide +kernel, rfl, by decide +kernel, by decide +kernel⟩
theorem ok_within {f dB : Addr} {fd : FuncData} (F : Fun K "are_within" "are_within" sWithin f fd) (T : Blt mg) (C : Cal P w K mg base CX0 1 "is_whole" ["value"] (spIsWhole K)) (mB : mg "BOUNDS" = some (.ref dB)) (B : BndT K w dB) :
    FnOk P w K mg base CX0 2 f fd ["letters", "numbers"] (spWithin K) := by
  refine F.ok scWithin (fun vs H Q E h => ?_) (fun cdv A outer s H vs Q E hr h => ?_)
  · obtain ⟨a, b, ls, xs, rfl, _⟩ := h
    rfl
  · obtain ⟨a, b, ls, xs, rfl, hls, hxs, hin, hpl, k⟩ := h
    have nd := scWithin.nd
    refine ⟨_, pss_cons (ps_if (pt_cmpR op_ne (pe_callB call_len (by rfl) T.len PySem.boot_len (pa_cons (pv 0) pa_nil)) (pe_callB call_len (by rfl) T.len PySem.boot_len (pa_cons (pv 1) pa_nil)) (nomark _)) (pss_one (ps_ret pe_bl)) pss_nil)
      (pss_cons (ps_set (i := 2) nd rfl (Or.inl rfl) pe_int)
      (pss_cons (ps_for PassesOwn.never rfl (RZ.pi_zipA (by rfl) T.zip (pa_cons (pv 0) (pa_cons (pv 1) pa_nil))) (pg_tup rfl (pgs_cons (pg_name (i := 3) nd rfl (Or.inl rfl)) (pgs_cons (pg_name (i := 4) nd rfl (Or.inl rfl)) pgs_nil)))
        (pss_cons (ps_if (pt_not (pt_val (pe_cal C hr pass0 (pa_cons (pv 4) pa_nil)))) (pss_one (ps_ret pe_bl)) pss_nil)
        (pss_cons (ps_asg (pe_ifExp (pt_cmpR op_eq (pv 3) pe_str (nomark _)) (pe_tup (pa_cons pe_int (pa_cons (pe_op op_sub (pv 2) pe_int) pa_nil))) (pe_ix ix_kdict (pe_glob (v := .ref dB) rfl mB rfl) (pv 3) (fun _ _ => rfl))) (pg_tup rfl (pgs_cons (pg_name (i := 5) nd rfl (Or.inl rfl)) (pgs_cons (pg_name (i := 6) nd rfl (Or.inl rfl)) pgs_nil))))
        (pss_cons (ps_if (PW.pt (pw_or (pt_cmp (pc_lt (pv 4) (pv 5))) (pw_or1 (pt_cmp (pc_gt (pv 4) (pv 6)))))) (pss_one (ps_ret pe_bl)) pss_nil)
        (pss_one (ps_set (i := 2) nd rfl (Or.inl rfl) (pv 4)))))))
      (pss_one (ps_ret pe_bl)))), ?_⟩
    -- the lengths
    refine ⟨_, rfl, _, (ls.map V.str).length, rfl, .inr ⟨_, hls, rfl⟩, _, rfl, _, xs.length, rfl, .inr ⟨_, hxs, rfl⟩, rfl, _, rfl, ?_⟩
    by_cases hl : ¬ ls.length = xs.length
    · have e : decide (V.int ((ls.map V.str).length : Nat) = V.int (xs.length : Nat)) = false := decide_eq_false fun z => hl (by injection z with z; rw [List.length_map] at z; omega)
      show if (!decide (V.int ((ls.map V.str).length : Nat) = V.int (xs.length : Nat))) = true then _ else _
      rw [e]
      refine iteT ?_
      have := k H (Same.refl H)
      rw [decide_eq_false hl] at this
      exact this
    replace hl : ls.length = xs.length := Decidable.not_not.mp hl
    have e : decide (V.int ((ls.map V.str).length : Nat) = V.int (xs.length : Nat)) = true := decide_eq_true (by rw [List.length_map, hl])
    show if (!decide (V.int ((ls.map V.str).length : Nat) = V.int (xs.length : Nat))) = true then _ else _
    rw [e]
    refine iteF ?_
    have k' : ∀ H', Same H H' → Q (.bl (within ls xs 0)) H' := fun H' z => by
      have := k H' z
      rw [decide_eq_true hl] at this
      exact this
    clear k e
    -- ahead = 0
    refine ⟨_, rfl, _, rfl, a, b, ls.map V.str, xs, rfl, .inr ⟨hls, hxs, RZ.for_zipT (K := K) (xs := ls.map V.str) (ys := xs) (by rw [List.length_map, hl])
      (fun i σ H2 => ∃ (ahead : Int) (v3 v4 v5 v6 : Option V), σ = [some (.ref a), some (.ref b), some (.int ahead), v3, v4, v5, v6] ∧ Same H H2 ∧ within (ls.drop i) (xs.drop i) ahead = within ls xs 0)
      ⟨0, none, none, none, none, rfl, Same.refl H, rfl⟩ (fun i σ H2 ⟨_, _, _, _, _, _, s2, _⟩ => ⟨sqt_same s2 hls, sqt_same s2 hxs⟩) ?_ ?_⟩⟩
    · rintro i x y T σ H2 hx hy ⟨ahead, v3, v4, v5, v6, rfl, s2, hw⟩ hT
      have hi : i < ls.length := by
        have := (List.getElem?_eq_some_iff.mp hx).1
        rwa [List.length_map] at this
      have hi2 : i < xs.length := (List.getElem?_eq_some_iff.mp hy).1
      obtain ⟨l, hl', rfl⟩ : ∃ l, ls[i]? = some l ∧ x = V.str l := by
        rw [List.getElem?_map] at hx
        cases e : ls[i]? with
        | none => rw [e] at hx; cases hx
        | some l => rw [e] at hx; exact ⟨l, rfl, (Option.some.inj hx).symm⟩
      have hlm : l ∈ ls := List.mem_of_getElem? hl'
      have hym : y ∈ xs := List.mem_of_getElem? hy
      have ed : ls.drop i = l :: ls.drop (i + 1) := by
        rw [List.drop_eq_getElem_cons hi]
        congr 1
        rw [List.getElem?_eq_getElem hi] at hl'
        exact Option.some.inj hl'
      have ed2 : xs.drop i = y :: xs.drop (i + 1) := by
        rw [List.drop_eq_getElem_cons hi2]
        congr 1
        rw [List.getElem?_eq_getElem hi2] at hy
        exact Option.some.inj hy
      rw [ed, ed2] at hw
      have s3 : Same H (upd H2 T (.tup [V.str l, y])) := same_upd s2 hT
      refine ⟨T, [V.str l, y], rfl, SqT.of upd_same, rfl, _, _, rfl, _, _, rfl, rfl, ?_⟩
      -- is_whole(number)
      refine ⟨_, rfl, y, rfl, (hpl y hym).same s3, _, rfl, ?_⟩
      by_cases hW : isW y = false
      · rw [hW]
        refine iteT ?_
        have k0 : within (l :: ls.drop (i + 1)) (y :: xs.drop (i + 1)) ahead = false := by
          cases y <;> first | rfl | cases hW
        have := k' _ s3
        rw [← hw, k0] at this
        exact this
      · obtain ⟨n, rfl⟩ : ∃ n, y = V.int n := by
          cases y <;> first | exact ⟨_, rfl⟩ | exact absurd rfl hW
        refine iteF ?_
        -- low, high
        refine ⟨_, rfl, rfl, _, rfl, ?_⟩
        refine ite2 (fun er => ?_) (fun er => ?_)
        · have er : l = "r" := by
            have := of_decide_eq_true er
            injection this
          have el : lohi l ahead = (0, ahead - 1) := by unfold lohi; rw [if_pos er]
          refine ⟨_, rfl, _, _, rfl, rfl, (by show 2 ≤ sizeLine; decide), fun p np => ⟨p, _, rfl, SqT.of upd_same, rfl, _, _, rfl, _, _, rfl, rfl, ?_⟩⟩
          have s4 := same_upd (o := .tup [.int 0, .int (ahead - 1)]) s3 np
          refine ⟨_, rfl, _, rfl, _, _, rfl, rfl, _, rfl, ?_⟩
          refine ite2 (fun h1 => ?_) (fun h1 => ?_)
          · refine iteT ?_
            have := k' _ s4
            rw [← hw, within_lt el h1] at this
            exact this
          refine ⟨_, rfl, _, rfl, _, _, rfl, rfl, _, rfl, ?_⟩
          refine ite2 (fun h2 => ?_) (fun h2 => ?_)
          · have := k' _ s4
            rw [← hw, within_gt el h2] at this
            exact this
          -- ahead = number
          exact ⟨_, rfl, n, _, _, _, _, rfl, s4, by rw [← hw, within_ok el h1 h2]⟩
        · have er : l ≠ "r" := fun z => er (decide_eq_true (by rw [z]))
          obtain ⟨q, hq, hq1, hq2⟩ := bnd_of (hin l hlm) er
          obtain ⟨es, nn, kd⟩ := B.kd
          obtain ⟨c, hc1, hc2⟩ := B.at_ q hq
          rw [hq1] at hc1
          have el : lohi l ahead = (q.2.1, q.2.2) := hq2 ahead
          refine ⟨_, rfl, dB, l, .ref c, rfl, rfl, ⟨es, nn, _, kd.at_, kd.lit, hc1, rfl⟩, ⟨c, _, rfl, hc2 _, rfl, _, _, rfl, _, _, rfl, rfl, ?_⟩⟩
          have s4 := s3
          refine ⟨_, rfl, _, rfl, _, _, rfl, rfl, _, rfl, ?_⟩
          refine ite2 (fun h1 => ?_) (fun h1 => ?_)
          · refine iteT ?_
            have := k' _ s4
            rw [← hw, within_lt el h1] at this
            exact this
          refine ⟨_, rfl, _, rfl, _, _, rfl, rfl, _, rfl, ?_⟩
          refine ite2 (fun h2 => ?_) (fun h2 => ?_)
          · have := k' _ s4
            rw [← hw, within_gt el h2] at this
            exact this
          -- ahead = number
          exact ⟨_, rfl, n, _, _, _, _, rfl, s4, by rw [← hw, within_ok el h1 h2]⟩
    · rintro σ H2 ⟨ahead, v3, v4, v5, v6, rfl, s2, hw⟩
      have := k' _ s2
      rw [← hw, List.length_map, List.drop_of_length_le (Nat.le_refl _), hl, List.drop_of_length_le (Nat.le_refl _)] at this
      exact this
end
end FC
set_option Elab.async false
set_option linter.all false
set_option maxRecDepth 100000
set_option maxHeartbeats 4000000
/-! The ten defs that take a number to a step. -/
namespace FC
open PySem L2
/-- what is held, at a -/
def HeldAt (K : PySem.W.Frag) (H : Hp) (a : Addr) (h : Int × Int) : Prop := SqT K H a [.int h.1, .int h.2]
theorem HeldAt.same {K : PySem.W.Frag} {H H' : Hp} {a : Addr} {h : Int × Int} (e : HeldAt K H a h) (s : Same H H') : HeldAt K H' a h := sqt_same s e
/-- a step's kind takes the number x behind the numbers pre -/
def spGive (K : PySem.W.Frag) (name : Str) : Sp := fun vs H Q _ => ∃ (b h : Addr) (x : Int) (p : Stp) (pre : List Int), vs = [.ref b, .ref h, .int x] ∧ p.name = name ∧ p.ok ∧ SqT K H b p.v ∧ HeldAt K H h (p.held pre) ∧
  ∀ (t g h' : Addr) H', Same H H' → SqT K H' t [.ref g, .ref h'] → SqT K H' g ((p.out pre x).map V.int) → HeldAt K H' h' (p.held (pre ++ [x])) → Q (.ref t) H'
theorem sqt_new {K : PySem.W.Frag} {H : Hp} {a : Addr} {xs : List V} : SqT K (upd H a (.tup xs)) a xs := SqT.of upd_same
theorem neF {x y : V} {A B : Prop} (h : x = y) (hb : B) : if (!decide (x = y)) = true then A else B := by
  rw [decide_eq_true h]
  exact iteF hb
theorem neT {x y : V} {A B : Prop} (h : x ≠ y) (ha : A) : if (!decide (x = y)) = true then A else B := by
  rw [decide_eq_false h]
  exact iteT ha
theorem eqT {x y : V} {A B : Prop} (h : x = y) (ha : A) : if decide (x = y) = true then A else B := by
  rw [decide_eq_true h]
  exact iteT ha
theorem eqF {x y : V} {A B : Prop} (h : x ≠ y) (hb : B) : if decide (x = y) = true then A else B := by
  rw [decide_eq_false h]
  exact iteF hb
abbrev ND : List Str := ["step", "held", "number"]
abbrev ND2 : List Str := ["step", "held", "number", "place", "total"]
/-- the end of a giver: the given tuple and what is held are put into a tuple -/
theorem give_end {K : PySem.W.Frag} {H H1 : Hp} {Q : VK} {g h' : Addr} {p : Stp} {pre : List Int} {x : Int} (s : Same H H1) (hg : SqT K H1 g ((p.out pre x).map V.int)) (hh : HeldAt K H1 h' (p.held (pre ++ [x])))
    (k : ∀ (t g h' : Addr) H', Same H H' → SqT K H' t [.ref g, .ref h'] → SqT K H' g ((p.out pre x).map V.int) → HeldAt K H' h' (p.held (pre ++ [x])) → Q (.ref t) H') :
    2 ≤ sizeLine ∧ ∀ t, H1 t = none → Q (.ref t) (upd H1 t (.tup [.ref g, .ref h'])) :=
  ⟨by decide, fun t nt => k t g h' _ (same_upd s nt) sqt_new (sqt_same (same_upd (Same.refl H1) nt) hg) (hh.same (same_upd (Same.refl H1) nt))⟩
section
variable {P : Program} {w : World} {K : PySem.W.Frag} {mg : Str → Option Value} {base : Heap}
theorem lenG {K : PySem.W.Frag} {n : Str} {vs : List V} {H : Hp} {Q : VK} {E : XK} {ps : List Str} (h3 : ps.length = 3) (h : spGive K n vs H Q E) : vs.length = ps.length := by
  obtain ⟨b, h, x, p, pre, rfl, _⟩ := h
  exact h3.symm
theorem scGvLine : FnScope ND ND (defScope sGvLine) := ⟨rfl, rfl, rfl, by decide +kernel, rfl, by decide +kernel, by decide +kernel⟩
theorem ok_gvLine {f : Addr} {fd : FuncData} (F : Fun K "give_line" "give_line" sGvLine f fd) : FnOk P w K mg base CX0 1 f fd ND (spGive K "line") := by
  refine F.ok scGvLine (fun vs H Q E h => lenG rfl h) (fun cdv A outer s H vs Q E hr h => ?_)
  obtain ⟨b, h, x, p, pre, rfl, hn, hok, hb, hh, k⟩ := h
  cases p <;> first | exact absurd hn (by decide +kernel) | (dsimp only [Stp.name] at hn; exact absurd hn (by decide +kernel)) | skip
  rename_i a1 b1
  obtain ⟨a2, a3, _⟩ := hok
  refine ⟨_, pss_one (ps_ret (pe_tup (pa_cons (pe_tup (pa_cons (pe_op op_add (pe_op op_mul (pe_ix (r := rIxT K) ix_tup (pv 0) pe_int (fun _ _ => rfl)) (pv 2)) (pe_ix (r := rIxT K) ix_tup (pv 0) pe_int (fun _ _ => rfl))) pa_nil)) (pa_cons (pv 1) pa_nil)))), ?_⟩
  refine ⟨_, rfl, b, _, 1, .int a1, rfl, rfl, hb, atI_nat (j := 1) rfl, _, rfl, _, _, rfl, rfl, .inl ⟨by omega, by omega⟩, _, rfl, b, _, 2, .int b1, rfl, rfl, hb, atI_nat (j := 2) rfl, _, _, rfl, rfl, (by show 1 ≤ sizeLine; decide), fun g ng => ⟨_, rfl, ?_⟩⟩
  have s1 := same_upd (o := .tup [V.int (a1 * x + b1)]) (Same.refl H) ng
  exact give_end (p := .line a1 b1) (pre := pre) s1 sqt_new (hh.same s1) k
theorem scGvTurn : FnScope ND ND (defScope sGvTurn) := ⟨rfl, rfl, rfl, by decide +kernel, rfl, by decide +kernel, by decide +kernel⟩
theorem ok_gvTurn {f : Addr} {fd : FuncData} (F : Fun K "give_turn" "give_turn" sGvTurn f fd) : FnOk P w K mg base CX0 1 f fd ND (spGive K "turn") := by
  refine F.ok scGvTurn (fun vs H Q E h => lenG rfl h) (fun cdv A outer s H vs Q E hr h => ?_)
  obtain ⟨b, h, x, p, pre, rfl, hn, hok, hb, hh, k⟩ := h
  cases p <;> first | exact absurd hn (by decide +kernel) | (dsimp only [Stp.name] at hn; exact absurd hn (by decide +kernel)) | skip
  rename_i m r a1 b1
  obtain ⟨hm, r0, r1, a2, a3, _⟩ := hok
  refine ⟨_, pss_cons (ps_if (pt_cmpR op_ne (pe_op op_mod (pv 2) (pe_ix (r := rIxT K) ix_tup (pv 0) pe_int (fun _ _ => rfl))) (pe_ix (r := rIxT K) ix_tup (pv 0) pe_int (fun _ _ => rfl)) (nomark _)) (pss_one (ps_ret (pe_tup (pa_cons (pe_tup (pa_cons (pv 2) pa_nil)) (pa_cons (pv 1) pa_nil))))) pss_nil)
    (pss_one (ps_ret (pe_tup (pa_cons (pe_tup (pa_cons (pe_op op_add (pe_op op_mul (pe_ix (r := rIxT K) ix_tup (pv 0) pe_int (fun _ _ => rfl)) (pv 2)) (pe_ix (r := rIxT K) ix_tup (pv 0) pe_int (fun _ _ => rfl))) pa_nil)) (pa_cons (pv 1) pa_nil))))), ?_⟩
  have m0 : 0 < m := by unfold two3 at hm; omega
  refine ⟨_, rfl, _, rfl, b, _, 1, .int m, rfl, rfl, hb, atI_nat (j := 1) rfl, _, _, rfl, rfl, m0, _, rfl, b, _, 2, .int r, rfl, rfl, hb, atI_nat (j := 2) rfl, rfl, _, rfl, ?_⟩
  have hi := rem_iff (x := x) hm r0 r1
  by_cases hc : x % m = r
  · refine neF (congrArg V.int hc) ?_
    refine ⟨_, rfl, b, _, 3, .int a1, rfl, rfl, hb, atI_nat (j := 3) rfl, _, rfl, _, _, rfl, rfl, .inl ⟨by omega, by omega⟩, _, rfl, b, _, 4, .int b1, rfl, rfl, hb, atI_nat (j := 4) rfl, _, _, rfl, rfl, (by show 1 ≤ sizeLine; decide), fun g ng => ⟨_, rfl, ?_⟩⟩
    have s1 := same_upd (o := .tup [V.int (a1 * x + b1)]) (Same.refl H) ng
    exact give_end (p := .turn m r a1 b1) (pre := pre) s1 (by
      have := sqt_new (K := K) (H := H) (a := g) (xs := [V.int (a1 * x + b1)])
      dsimp only [Stp.out]
      rw [if_pos (hi.mpr hc)]
      exact this) (hh.same s1) k
  · refine neT (fun z => hc (by injection z)) ?_
    refine ⟨_, rfl, (by show 1 ≤ sizeLine; decide), fun g ng => ⟨_, rfl, ?_⟩⟩
    have s1 := same_upd (o := .tup [V.int x]) (Same.refl H) ng
    exact give_end (p := .turn m r a1 b1) (pre := pre) s1 (by
      have := sqt_new (K := K) (H := H) (a := g) (xs := [V.int x])
      dsimp only [Stp.out]
      rw [if_neg (fun z => hc (hi.mp z))]
      exact this) (hh.same s1) k
theorem scGvKeep : FnScope ND ND (defScope sGvKeep) := ⟨rfl, rfl, rfl, by decide +kernel, rfl, by decide +kernel, by decide +kernel⟩
theorem ok_gvKeep {f : Addr} {fd : FuncData} (F : Fun K "give_keep" "give_keep" sGvKeep f fd) : FnOk P w K mg base CX0 1 f fd ND (spGive K "keep") := by
  refine F.ok scGvKeep (fun vs H Q E h => lenG rfl h) (fun cdv A outer s H vs Q E hr h => ?_)
  obtain ⟨b, h, x, p, pre, rfl, hn, hok, hb, hh, k⟩ := h
  cases p <;> first | exact absurd hn (by decide +kernel) | (dsimp only [Stp.name] at hn; exact absurd hn (by decide +kernel)) | skip
  have nd := scGvKeep.nd
  rename_i m r
  obtain ⟨hm, r0, r1⟩ := hok
  refine ⟨_, pss_cons (ps_if (pt_cmpR op_ne (pe_op op_mod (pv 2) (pe_ix (r := rIxT K) ix_tup (pv 0) pe_int (fun _ _ => rfl))) (pe_ix (r := rIxT K) ix_tup (pv 0) pe_int (fun _ _ => rfl)) (nomark _)) (pss_one (ps_ret (pe_tup (pa_cons (pe_tup pa_nil) (pa_cons (pv 1) pa_nil))))) pss_nil)
    (pss_one (ps_ret (pe_tup (pa_cons (pe_tup (pa_cons (pv 2) pa_nil)) (pa_cons (pv 1) pa_nil))))), ?_⟩
  have m0 : 0 < m := by unfold two3 at hm; omega
  refine ⟨_, rfl, _, rfl, b, _, 1, .int m, rfl, rfl, hb, atI_nat (j := 1) rfl, _, _, rfl, rfl, m0, _, rfl, b, _, 2, .int r, rfl, rfl, hb, atI_nat (j := 2) rfl, rfl, _, rfl, ?_⟩
  have hi := rem_iff (x := x) hm r0 r1
  by_cases hc : x % m = r
  · refine neF (congrArg V.int hc) ?_
    refine ⟨_, rfl, (by show 1 ≤ sizeLine; decide), fun g ng => ⟨_, rfl, ?_⟩⟩
    have s1 := same_upd (o := .tup [V.int x]) (Same.refl H) ng
    exact give_end (p := .keep m r) (pre := pre) s1 (by
      have := sqt_new (K := K) (H := H) (a := g) (xs := [V.int x])
      dsimp only [Stp.out]
      rw [if_pos (hi.mpr hc)]
      exact this) (hh.same s1) k
  · refine neT (fun z => hc (by injection z)) ?_
    refine ⟨(by show 0 ≤ sizeLine; decide), fun g ng => ⟨_, rfl, ?_⟩⟩
    have s1 := same_upd (o := .tup []) (Same.refl H) ng
    exact give_end (p := .keep m r) (pre := pre) s1 (by
      have := sqt_new (K := K) (H := H) (a := g) (xs := [])
      dsimp only [Stp.out]
      rw [if_neg (fun z => hc (hi.mp z))]
      exact this) (hh.same s1) k
theorem scGvEvery : FnScope ["step", "held", "number", "place", "total", "given"] ND (defScope sGvEvery) := ⟨rfl, rfl, rfl, by decide +kernel, rfl, by decide +kernel, by decide +kernel⟩
theorem ok_gvEvery {f : Addr} {fd : FuncData} (F : Fun K "give_every" "give_every" sGvEvery f fd) : FnOk P w K mg base CX0 1 f fd ND (spGive K "every") := by
  refine F.ok scGvEvery (fun vs H Q E h => lenG rfl h) (fun cdv A outer s H vs Q E hr h => ?_)
  obtain ⟨b, h, x, p, pre, rfl, hn, hok, hb, hh, k⟩ := h
  cases p <;> first | exact absurd hn (by decide +kernel) | (dsimp only [Stp.name] at hn; exact absurd hn (by decide +kernel)) | skip
  have nd := scGvEvery.nd
  rename_i m r
  obtain ⟨hm, r0, r1⟩ := hok
  have m0 : 0 < m := by unfold two3 at hm; omega
  refine ⟨_, pss_cons (ps_asg (pv 1) (pg_tup rfl (pgs_cons (pg_name (i := 3) nd rfl (Or.inl rfl)) (pgs_cons (pg_name (i := 4) nd rfl (Or.inl rfl)) pgs_nil))))
    (pss_cons (ps_set (i := 5) nd rfl (Or.inl rfl) (pe_ifExp (pt_cmpR op_eq (pv 3) (pe_ix (r := rIxT K) ix_tup (pv 0) pe_int (fun _ _ => rfl)) (nomark _)) (pe_tup (pa_cons (pv 2) pa_nil)) (pe_tup pa_nil)))
    (pss_one (ps_ret (pe_tup (pa_cons (pv 5) (pa_cons (pe_tup (pa_cons (pe_op op_mod (pe_op op_add (pv 3) pe_int) (pe_ix (r := rIxT K) ix_tup (pv 0) pe_int (fun _ _ => rfl))) (pa_cons (pv 4) pa_nil))) pa_nil)))))), ?_⟩
  refine ⟨_, rfl, h, _, rfl, hh, rfl, _, _, rfl, _, _, rfl, rfl, ?_⟩
  refine ⟨_, rfl, _, rfl, b, _, 2, .int r, rfl, rfl, hb, atI_nat (j := 2) rfl, rfl, _, rfl, ?_⟩
  have fin : ∀ (g : Addr) (H1 : Hp), Same H H1 → SqT K H1 g (((Stp.every m r).out pre x).map V.int) → ∀ q, H1 q = none → 2 ≤ sizeLine ∧ ∀ t, upd H1 q (.tup [.int (((pre.length : Int) % m + 1) % m), .int 0]) t = none → Q (.ref t) (upd (upd H1 q (.tup [.int (((pre.length : Int) % m + 1) % m), .int 0])) t (.tup [.ref g, .ref q])) := fun g H1 s1 hg q nq =>
    give_end (p := .every m r) (pre := pre) (same_upd s1 nq) (sqt_same (same_upd (Same.refl H1) nq) hg) (by
      have := sqt_new (K := K) (H := H1) (a := q) (xs := [.int (((pre.length : Int) % m + 1) % m), .int 0])
      dsimp only [HeldAt, Stp.held]
      rw [List.length_append, List.length_singleton, Int.natCast_add, Int.natCast_one]
      rw [every_next hm] at this ⊢
      exact this) k
  by_cases hc : (pre.length : Int) % m = r
  · refine eqT (congrArg V.int hc) ?_
    refine ⟨_, rfl, (by show 1 ≤ sizeLine; decide), fun g ng => ?_⟩
    have s1 := same_upd (o := .tup [V.int x]) (Same.refl H) ng
    refine ⟨_, rfl, _, rfl, _, _, rfl, rfl, _, rfl, b, _, 1, .int m, rfl, rfl, sqt_same s1 hb, atI_nat (j := 1) rfl, _, _, rfl, rfl, m0, _, rfl, (by show 2 ≤ sizeLine; decide), fun q nq => fin g _ s1 (by
      have := sqt_new (K := K) (H := H) (a := g) (xs := [V.int x])
      dsimp only [Stp.out]
      rw [if_pos hc]
      exact this) q nq⟩
  · refine eqF (fun z => hc (by injection z)) ?_
    refine ⟨(by show 0 ≤ sizeLine; decide), fun g ng => ?_⟩
    have s1 := same_upd (o := .tup []) (Same.refl H) ng
    refine ⟨_, rfl, _, rfl, _, _, rfl, rfl, _, rfl, b, _, 1, .int m, rfl, rfl, sqt_same s1 hb, atI_nat (j := 1) rfl, _, _, rfl, rfl, m0, _, rfl, (by show 2 ≤ sizeLine; decide), fun q nq => fin g _ s1 (by
      have := sqt_new (K := K) (H := H) (a := g) (xs := [])
      dsimp only [Stp.out]
      rw [if_neg hc]
      exact this) q nq⟩
theorem scGvTwice : FnScope ND ND (defScope sGvTwice) := ⟨rfl, rfl, rfl, by decide +kernel, rfl, by decide +kernel, by decide +kernel⟩
theorem ok_gvTwice {f : Addr} {fd : FuncData} (F : Fun K "give_twice" "give_twice" sGvTwice f fd) : FnOk P w K mg base CX0 1 f fd ND (spGive K "twice") := by
  refine F.ok scGvTwice (fun vs H Q E h => lenG rfl h) (fun cdv A outer s H vs Q E hr h => ?_)
  obtain ⟨b, h, x, p, pre, rfl, hn, hok, hb, hh, k⟩ := h
  cases p <;> first | exact absurd hn (by decide +kernel) | (dsimp only [Stp.name] at hn; exact absurd hn (by decide +kernel)) | skip
  have nd := scGvTwice.nd
  refine ⟨_, pss_one (ps_ret (pe_tup (pa_cons (pe_tup (pa_cons (pv 2) (pa_cons (pv 2) pa_nil))) (pa_cons (pv 1) pa_nil)))), ?_⟩
  refine ⟨_, rfl, _, rfl, (by show 2 ≤ sizeLine; decide), fun g ng => ⟨_, rfl, ?_⟩⟩
  have s1 := same_upd (o := .tup [V.int x, .int x]) (Same.refl H) ng
  exact give_end (p := .twice) (pre := pre) s1 sqt_new (hh.same s1) k
theorem scGvSums : FnScope ND2 ND (defScope sGvSums) := ⟨rfl, rfl, rfl, by decide +kernel, rfl, by decide +kernel, by decide +kernel⟩
theorem ok_gvSums {f : Addr} {fd : FuncData} (F : Fun K "give_sums" "give_sums" sGvSums f fd) : FnOk P w K mg base CX0 1 f fd ND (spGive K "sums") := by
  refine F.ok scGvSums (fun vs H Q E h => lenG rfl h) (fun cdv A outer s H vs Q E hr h => ?_)
  obtain ⟨b, h, x, p, pre, rfl, hn, hok, hb, hh, k⟩ := h
  cases p <;> first | exact absurd hn (by decide +kernel) | (dsimp only [Stp.name] at hn; exact absurd hn (by decide +kernel)) | skip
  have nd := scGvSums.nd
  refine ⟨_, pss_cons (ps_asg (pv 1) (pg_tup rfl (pgs_cons (pg_name (i := 3) nd rfl (Or.inl rfl)) (pgs_cons (pg_name (i := 4) nd rfl (Or.inl rfl)) pgs_nil))))
    (pss_one (ps_ret (pe_tup (pa_cons (pe_tup (pa_cons (pe_op op_add (pv 4) (pv 2)) pa_nil)) (pa_cons (pe_tup (pa_cons (pv 3) (pa_cons (pe_op op_add (pv 4) (pv 2)) pa_nil))) pa_nil))))), ?_⟩
  refine ⟨_, rfl, h, _, rfl, hh, rfl, _, _, rfl, _, _, rfl, rfl, ?_⟩
  refine ⟨_, rfl, _, rfl, _, _, rfl, rfl, (by show 1 ≤ sizeLine; decide), fun g ng => ?_⟩
  have s1 := same_upd (o := .tup [V.int (pre.sum + x)]) (Same.refl H) ng
  refine ⟨_, rfl, _, rfl, _, rfl, _, _, rfl, rfl, (by show 2 ≤ sizeLine; decide), fun q nq => ?_⟩
  refine give_end (p := .sums) (pre := pre) (same_upd s1 nq) (sqt_same (same_upd (Same.refl _) nq) ?_) ?_ k
  · have := sqt_new (K := K) (H := H) (a := g) (xs := [V.int (pre.sum + x)])
    dsimp only [Stp.out]
    rw [sum_snoc]
    exact this
  · have := sqt_new (K := K) (H := upd H g (.tup [V.int (pre.sum + x)])) (a := q) (xs := [.int 0, .int (pre.sum + x)])
    dsimp only [HeldAt, Stp.held]
    rw [sum_snoc]
    exact this
theorem scGvGaps : FnScope ND2 ND (defScope sGvGaps) := ⟨rfl, rfl, rfl, by decide +kernel, rfl, by decide +kernel, by decide +kernel⟩
theorem ok_gvGaps {f : Addr} {fd : FuncData} (F : Fun K "give_gaps" "give_gaps" sGvGaps f fd) : FnOk P w K mg base CX0 1 f fd ND (spGive K "gaps") := by
  refine F.ok scGvGaps (fun vs H Q E h => lenG rfl h) (fun cdv A outer s H vs Q E hr h => ?_)
  obtain ⟨b, h, x, p, pre, rfl, hn, hok, hb, hh, k⟩ := h
  cases p <;> first | exact absurd hn (by decide +kernel) | (dsimp only [Stp.name] at hn; exact absurd hn (by decide +kernel)) | skip
  have nd := scGvGaps.nd
  refine ⟨_, pss_cons (ps_asg (pv 1) (pg_tup rfl (pgs_cons (pg_name (i := 3) nd rfl (Or.inl rfl)) (pgs_cons (pg_name (i := 4) nd rfl (Or.inl rfl)) pgs_nil))))
    (pss_one (ps_ret (pe_tup (pa_cons (pe_tup (pa_cons (pe_op op_sub (pv 2) (pv 4)) pa_nil)) (pa_cons (pe_tup (pa_cons (pv 3) (pa_cons (pv 2) pa_nil))) pa_nil))))), ?_⟩
  refine ⟨_, rfl, h, _, rfl, hh, rfl, _, _, rfl, _, _, rfl, rfl, ?_⟩
  refine ⟨_, rfl, _, rfl, _, _, rfl, rfl, (by show 1 ≤ sizeLine; decide), fun g ng => ?_⟩
  have s1 := same_upd (o := .tup [V.int (x - pre.getLastD 0)]) (Same.refl H) ng
  refine ⟨_, rfl, _, rfl, (by show 2 ≤ sizeLine; decide), fun q nq => ?_⟩
  refine give_end (p := .gaps) (pre := pre) (same_upd s1 nq) (sqt_same (same_upd (Same.refl _) nq) ?_) ?_ k
  · exact sqt_new (K := K) (H := H) (a := g) (xs := [V.int (x - pre.getLastD 0)])
  · have := sqt_new (K := K) (H := upd H g (.tup [V.int (x - pre.getLastD 0)])) (a := q) (xs := [.int 0, .int x])
    dsimp only [HeldAt, Stp.held]
    rw [gaps_snoc]
    exact this
theorem scGvCount : FnScope ND2 ND (defScope sGvCount) := ⟨rfl, rfl, rfl, by decide +kernel, rfl, by decide +kernel, by decide +kernel⟩
theorem ok_gvCount {f : Addr} {fd : FuncData} (F : Fun K "give_count" "give_count" sGvCount f fd) : FnOk P w K mg base CX0 1 f fd ND (spGive K "count") := by
  refine F.ok scGvCount (fun vs H Q E h => lenG rfl h) (fun cdv A outer s H vs Q E hr h => ?_)
  obtain ⟨b, h, x, p, pre, rfl, hn, hok, hb, hh, k⟩ := h
  cases p <;> first | exact absurd hn (by decide +kernel) | (dsimp only [Stp.name] at hn; exact absurd hn (by decide +kernel)) | skip
  have nd := scGvCount.nd
  refine ⟨_, pss_cons (ps_asg (pv 1) (pg_tup rfl (pgs_cons (pg_name (i := 3) nd rfl (Or.inl rfl)) (pgs_cons (pg_name (i := 4) nd rfl (Or.inl rfl)) pgs_nil))))
    (pss_one (ps_ret (pe_tup (pa_cons (pe_tup (pa_cons (pe_op op_add (pv 4) pe_int) pa_nil)) (pa_cons (pe_tup (pa_cons (pv 3) (pa_cons (pe_op op_add (pv 4) pe_int) pa_nil))) pa_nil))))), ?_⟩
  refine ⟨_, rfl, h, _, rfl, hh, rfl, _, _, rfl, _, _, rfl, rfl, ?_⟩
  refine ⟨_, rfl, _, _, rfl, rfl, (by show 1 ≤ sizeLine; decide), fun g ng => ?_⟩
  have s1 := same_upd (o := .tup [V.int ((pre.length : Int) + 1)]) (Same.refl H) ng
  refine ⟨_, rfl, _, rfl, _, _, rfl, rfl, (by show 2 ≤ sizeLine; decide), fun q nq => ?_⟩
  refine give_end (p := .count) (pre := pre) (same_upd s1 nq) (sqt_same (same_upd (Same.refl _) nq) ?_) ?_ k
  · exact sqt_new (K := K) (H := H) (a := g) (xs := [V.int ((pre.length : Int) + 1)])
  · have := sqt_new (K := K) (H := upd H g (.tup [V.int ((pre.length : Int) + 1)])) (a := q) (xs := [.int 0, .int ((pre.length : Int) + 1)])
    dsimp only [HeldAt, Stp.held]
    rw [List.length_append, List.length_singleton]
    exact this
theorem scGvAnew : FnScope ND2 ND (defScope sGvAnew) := ⟨rfl, rfl, rfl, by decide +kernel, rfl, by decide +kernel, by decide +kernel⟩
theorem ok_gvAnew {f : Addr} {fd : FuncData} (F : Fun K "give_anew" "give_anew" sGvAnew f fd) : FnOk P w K mg base CX0 1 f fd ND (spGive K "anew") := by
  refine F.ok scGvAnew (fun vs H Q E h => lenG rfl h) (fun cdv A outer s H vs Q E hr h => ?_)
  obtain ⟨b, h, x, p, pre, rfl, hn, hok, hb, hh, k⟩ := h
  cases p <;> first | exact absurd hn (by decide +kernel) | (dsimp only [Stp.name] at hn; exact absurd hn (by decide +kernel)) | skip
  have nd := scGvAnew.nd
  rename_i m r
  obtain ⟨hm, r0, r1⟩ := hok
  have m0 : 0 < m := by unfold two3 at hm; omega
  refine ⟨_, pss_cons (ps_asg (pv 1) (pg_tup rfl (pgs_cons (pg_name (i := 3) nd rfl (Or.inl rfl)) (pgs_cons (pg_name (i := 4) nd rfl (Or.inl rfl)) pgs_nil))))
    (pss_cons (ps_if (pt_cmpR op_eq (pe_op op_mod (pv 2) (pe_ix (r := rIxT K) ix_tup (pv 0) pe_int (fun _ _ => rfl))) (pe_ix (r := rIxT K) ix_tup (pv 0) pe_int (fun _ _ => rfl)) (nomark _)) (pss_one (ps_set (i := 4) nd rfl (Or.inl rfl) pe_int)) pss_nil)
    (pss_one (ps_ret (pe_tup (pa_cons (pe_tup (pa_cons (pe_op op_add (pv 4) (pv 2)) pa_nil)) (pa_cons (pe_tup (pa_cons (pv 3) (pa_cons (pe_op op_add (pv 4) (pv 2)) pa_nil))) pa_nil)))))), ?_⟩
  refine ⟨_, rfl, h, _, rfl, hh, rfl, _, _, rfl, _, _, rfl, rfl, ?_⟩
  refine ⟨_, rfl, _, rfl, b, _, 1, .int m, rfl, rfl, hb, atI_nat (j := 1) rfl, _, _, rfl, rfl, m0, _, rfl, b, _, 2, .int r, rfl, rfl, hb, atI_nat (j := 2) rfl, rfl, _, rfl, ?_⟩
  have hi := rem_iff (x := x) hm r0 r1
  have hs := anew_snoc m r pre x
  have fin : ∀ tot : Int, (((pre ++ [x]).drop (lastHit m r (pre ++ [x]))).sum = tot + x) → ∀ g, H g = none → ∀ q, upd H g (.tup [V.int (tot + x)]) q = none → 2 ≤ sizeLine ∧ ∀ t, upd (upd H g (.tup [V.int (tot + x)])) q (.tup [.int 0, .int (tot + x)]) t = none → Q (.ref t) (upd (upd (upd H g (.tup [V.int (tot + x)])) q (.tup [.int 0, .int (tot + x)])) t (.tup [.ref g, .ref q])) := fun tot e g ng q nq => by
    refine give_end (p := .anew m r) (pre := pre) (same_upd (same_upd (Same.refl H) ng) nq) (sqt_same (same_upd (Same.refl _) nq) ?_) ?_ k
    · have := sqt_new (K := K) (H := H) (a := g) (xs := [V.int (tot + x)])
      dsimp only [Stp.out]
      rw [e]
      exact this
    · have := sqt_new (K := K) (H := upd H g (.tup [V.int (tot + x)])) (a := q) (xs := [.int 0, .int (tot + x)])
      dsimp only [HeldAt, Stp.held]
      rw [e]
      exact this
  by_cases hc : x % m = r
  · refine eqT (congrArg V.int hc) ?_
    rw [if_pos (hi.mpr hc)] at hs
    exact ⟨_, rfl, _, rfl, _, _, rfl, rfl, (by show 1 ≤ sizeLine; decide), fun g ng => ⟨_, rfl, _, rfl, _, rfl, _, _, rfl, rfl, (by show 2 ≤ sizeLine; decide), fun q nq => fin _ hs g ng q nq⟩⟩
  · refine eqF (fun z => hc (by injection z)) ?_
    rw [if_neg (fun z => hc (hi.mp z))] at hs
    exact ⟨_, rfl, _, rfl, _, _, rfl, rfl, (by show 1 ≤ sizeLine; decide), fun g ng => ⟨_, rfl, _, rfl, _, rfl, _, _, rfl, rfl, (by show 2 ≤ sizeLine; decide), fun q nq => fin _ hs g ng q nq⟩⟩
theorem scGvGroups : FnScope ND2 ND (defScope sGvGroups) := ⟨rfl, rfl, rfl, by decide +kernel, rfl, by decide +kernel, by decide +kernel⟩
theorem ok_gvGroups {f : Addr} {fd : FuncData} {nh : Addr} (F : Fun K "give_groups" "give_groups" sGvGroups f fd) (mN : mg "NOTHING_HELD" = some (.ref nh)) (hN : ∀ H, SqT K H nh [.int 0, .int 0]) : FnOk P w K mg base CX0 1 f fd ND (spGive K "groups") := by
  refine F.ok scGvGroups (fun vs H Q E h => lenG rfl h) (fun cdv A outer s H vs Q E hr h => ?_)
  obtain ⟨b, h, x, p, pre, rfl, hn, hok, hb, hh, k⟩ := h
  cases p <;> first | exact absurd hn (by decide +kernel) | (dsimp only [Stp.name] at hn; exact absurd hn (by decide +kernel)) | skip
  have nd := scGvGroups.nd
  rename_i m
  have hm : two3 m := hok
  refine ⟨_, pss_cons (ps_asg (pv 1) (pg_tup rfl (pgs_cons (pg_name (i := 3) nd rfl (Or.inl rfl)) (pgs_cons (pg_name (i := 4) nd rfl (Or.inl rfl)) pgs_nil))))
    (pss_cons (ps_if (pt_cmp (pc_lt (pe_op op_add (pv 3) pe_int) (pe_ix (r := rIxT K) ix_tup (pv 0) pe_int (fun _ _ => rfl)))) (pss_one (ps_ret (pe_tup (pa_cons (pe_tup pa_nil) (pa_cons (pe_tup (pa_cons (pe_op op_add (pv 3) pe_int) (pa_cons (pe_op op_add (pv 4) (pv 2)) pa_nil))) pa_nil))))) pss_nil)
    (pss_one (ps_ret (pe_tup (pa_cons (pe_tup (pa_cons (pe_op op_add (pv 4) (pv 2)) pa_nil)) (pa_cons (pe_glob (v := .ref nh) rfl mN rfl) pa_nil)))))), ?_⟩
  refine ⟨_, rfl, h, _, rfl, hh, rfl, _, _, rfl, _, _, rfl, rfl, ?_⟩
  refine ⟨_, rfl, _, _, rfl, rfl, _, rfl, b, _, 1, .int m, rfl, rfl, hb, atI_nat (j := 1) rfl, _, _, rfl, rfl, _, rfl, ?_⟩
  refine ite2 (fun hlt => ?_) (fun hlt => ?_)
  · have hlt : (pre.length : Int) % m + 1 < m := of_decide_eq_true hlt
    obtain ⟨g1, g2, g3⟩ := groups_low hm (x := x) hlt
    refine ⟨(by show 0 ≤ sizeLine; decide), fun g ng => ?_⟩
    have s1 := same_upd (o := .tup []) (Same.refl H) ng
    refine ⟨_, rfl, _, _, rfl, rfl, _, rfl, _, rfl, _, _, rfl, rfl, (by show 2 ≤ sizeLine; decide), fun q nq => ?_⟩
    refine give_end (p := .groups m) (pre := pre) (same_upd s1 nq) (sqt_same (same_upd (Same.refl _) nq) ?_) ?_ k
    · have := sqt_new (K := K) (H := H) (a := g) (xs := [])
      dsimp only [Stp.out]
      rw [if_neg g1]
      exact this
    · have := sqt_new (K := K) (H := upd H g (.tup [])) (a := q) (xs := [.int ((pre.length : Int) % m + 1), .int ((pre.drop (pre.length - pre.length % m.toNat)).sum + x)])
      dsimp only [HeldAt, Stp.held]
      rw [g3, List.length_append, List.length_singleton, Int.natCast_add, Int.natCast_one, g2]
      exact this
  · have hlt : ¬ (pre.length : Int) % m + 1 < m := fun z => hlt (decide_eq_true z)
    obtain ⟨g1, g2, g3⟩ := groups_high hm (x := x) hlt
    refine ⟨_, rfl, _, rfl, _, _, rfl, rfl, (by show 1 ≤ sizeLine; decide), fun g ng => ?_⟩
    have s1 := same_upd (o := .tup [V.int ((pre.drop (pre.length - pre.length % m.toNat)).sum + x)]) (Same.refl H) ng
    refine give_end (p := .groups m) (pre := pre) s1 ?_ ?_ k
    · have := sqt_new (K := K) (H := H) (a := g) (xs := [V.int ((pre.drop (pre.length - pre.length % m.toNat)).sum + x)])
      dsimp only [Stp.out]
      rw [if_pos g1, g2]
      exact this
    · dsimp only [HeldAt, Stp.held]
      rw [g3, List.length_append, List.length_singleton, Int.natCast_add, Int.natCast_one, g1]
      exact hN _
end
end FC
set_option Elab.async false
set_option linter.all false
set_option maxRecDepth 100000
set_option maxHeartbeats 4000000
namespace FC
open PySem L2
/-- a value in a step's place: a tuple of nice values, or another thing -/
def StepV (K : PySem.W.Frag) (H : Hp) (x : V) : Option (List V) → Prop
  | some ys => ∃ b, x = .ref b ∧ SqT K H b ys ∧ ∀ y ∈ ys, Nice K H y
  | none => ∃ T, T ∈ kinds ∧ T ≠ "tuple" ∧ TyX K H x (.type T)
def stepOkO : Option (List V) → Bool
  | some ys => stepOk ys
  | none => false
theorem StepV.same {K : PySem.W.Frag} {H H' : Hp} {x : V} {o : Option (List V)} (e : Same H H') (h : StepV K H x o) : StepV K H' x o := by
  cases o with
  | some ys =>
    obtain ⟨b, h1, h2, h3⟩ := h
    exact ⟨b, h1, sqt_same e h2, fun y hy => (h3 y hy).same e⟩
  | none =>
    obtain ⟨T, h1, h2, h3⟩ := h
    exact ⟨T, h1, h2, tyX_same e h3⟩
def spIsStep (K : PySem.W.Frag) : Sp := fun vs H Q _ => ∃ x o, vs = [x] ∧ StepV K H x o ∧ ∀ H', Same H H' → Q (.bl (stepOkO o)) H'
theorem at0 {α : Type} (y : α) (r : List α) : atI (y :: r) 0 = some y := by
  have h := atI_nat (xs := y :: r) (j := 0) (v := y) rfl
  exact h
theorem cut1 (y : V) (r : List V) : cutV (y :: r) (some 1) none = r := by
  simp [cutV, HT.sIx]
section
variable {P : Program} {w : World} {K : PySem.W.Frag} {mg : Str → Option Value} {base : Heap}
theorem scIsStep : FnScope ["value", "name"] ["value"] (defScope sIsStep) := ⟨rfl, rfl, rfl, by decide +kernel, rfl, by decide +kernel, by decide +kernel⟩
theorem ok_isStep {f dL : Addr} {fd : FuncData} (F : Fun K "is_step" "is_step" sIsStep f fd) (T : Blt mg) (C : Cal P w K mg base CX0 2 "are_within" ["letters", "numbers"] (spWithin K)) (mL : mg "LETTERS" = some (.ref dL)) (B : LetT K w dL) :
    FnOk P w K mg base CX0 3 f fd ["value"] (spIsStep K) := by
  refine F.ok scIsStep (fun vs H Q E h => ?_) (fun cdv A outer s H vs Q E hr h => ?_)
  · obtain ⟨x, o, rfl, _⟩ := h
    rfl
  · obtain ⟨x, o, rfl, hx, k⟩ := h
    have nd := scIsStep.nd
    obtain ⟨es, nn, kd⟩ := B.kd
    refine ⟨_, pss_cons (ps_if (PW.pt (pw_or (pt_not (pt_val (pe_callB call_isi (by rfl) T.isi (by decide +kernel) (pa_cons (pv 0) (pa_cons (pe_bltn (v := .ty "tuple") (by rfl) T.tuple (by decide +kernel) rfl) pa_nil))))) (pw_or1 (pt_cmpR op_eq (pe_callB call_len (by rfl) T.len PySem.boot_len (pa_cons (pv 0) pa_nil)) pe_int (nomark _))))) (pss_one (ps_ret pe_bl)) pss_nil)
      (pss_cons (ps_set (i := 1) nd rfl (Or.inl rfl) (pe_ix ix_tup (pv 0) pe_int (fun _ _ => rfl)))
      (pss_cons (ps_if (PW.pt (pw_or (pt_not (pt_val (pe_callB call_isi (by rfl) T.isi (by decide +kernel) (pa_cons (pv 1) (pa_cons (pe_bltn (v := .ty "str") (by rfl) T.str (by decide +kernel) rfl) pa_nil))))) (pw_or1 (pt_cmpR (op_notIn_kd kd) (pv 1) (pe_glob (v := .ref dL) rfl mL rfl) rfl)))) (pss_one (ps_ret pe_bl)) pss_nil)
      (pss_one (ps_ret (pe_cal C hr pass0 (pa_cons (pe_ix ix_kdict (pe_glob (v := .ref dL) rfl mL rfl) (pv 1) (fun _ _ => rfl)) (pa_cons (pe_slice sl_tup (pv 0) (po_some pe_int) po_none) pa_nil))))))), ?_⟩
    cases o with
    | none =>
      obtain ⟨t, ht, hnt, hty⟩ := hx
      refine ⟨_, rfl, _, _, _, _, _, rfl, .ty _, hty, kit_ty (kit_tuple t ht), _, rfl, ?_⟩
      rw [show (t == "tuple") = false from beq_eq_false_iff_ne.mpr hnt]
      exact iteT (iteT (k H (Same.refl H)))
    | some ys =>
      obtain ⟨b, rfl, hb, hn⟩ := hx
      refine ⟨_, rfl, _, _, _, _, _, rfl, .ty _, ty_tup hb, kit_ty (kit_tuple "tuple" (by decide)), _, rfl, iteF ?_⟩
      refine ⟨_, rfl, _, ys.length, rfl, .inr ⟨_, hb, rfl⟩, rfl, _, rfl, ?_⟩
      cases ys with
      | nil => exact iteT (k H (Same.refl H))
      | cons y r =>
        have e : decide (V.int ((y :: r).length : Nat) = V.int 0) = false := decide_eq_false fun z => by
          injection z with z
          rw [List.length_cons] at z
          omega
        show if decide (V.int ((y :: r).length : Nat) = V.int 0) = true then _ else _
        rw [e]
        refine iteF ?_
        -- name = value[0]
        refine ⟨_, rfl, b, _, _, y, rfl, rfl, hb, at0 y r, ?_⟩
        obtain ⟨t, ht, hty⟩ := hn y (by simp)
        refine ⟨_, rfl, _, _, _, _, _, rfl, .ty _, hty, kit_ty (kit_str t ht), _, rfl, ?_⟩
        by_cases hS : isS y = false
        · rw [isS_of hty] at hS
          rw [hS]
          refine iteT (iteT ?_)
          have := k H (Same.refl H)
          have e2 : stepOkO (some (y :: r)) = false := by
            rw [← isS_of hty] at hS
            cases y <;> first | rfl | cases hS
          rw [e2] at this
          exact this
        · obtain ⟨z, rfl⟩ : ∃ z, y = V.str z := by
            cases y <;> first | exact ⟨_, rfl⟩ | exact absurd rfl hS
          rw [show (t == "str") = true from (isS_of hty).symm]
          refine iteF ?_
          obtain ⟨o, ho, hm⟩ := B.at_ z
          refine ⟨_, rfl, z, o, rfl, rfl, ho, _, rfl, ?_⟩
          cases el : tab.lookup z with
          | none =>
            rw [el] at hm
            rw [hm]
            refine iteT ?_
            have := k H (Same.refl H)
            have e2 : stepOkO (some (V.str z :: r)) = false := by
              show stepOkN z r = false
              unfold stepOkN
              rw [el]
            rw [e2] at this
            exact this
          | some ls =>
            rw [el] at hm
            obtain ⟨a, hm, hls⟩ := hm
            rw [hm]
            refine iteF ?_
            rw [hm] at ho
            refine ⟨_, rfl, dL, z, .ref a, rfl, rfl, ⟨es, nn, _, kd.at_, kd.lit, ho, rfl⟩, ?_⟩
            refine ⟨_, rfl, _, rfl, b, _, rfl, hb, ?_, fun p np => ?_⟩
            · simp [HT.sIx]
            · rw [cut1]
              have s1 := same_upd (o := .tup r) (Same.refl H) np
              have all : ∀ q ∈ tab, ∀ l ∈ q.2, l ∈ letters5 := by decide +kernel
              refine ⟨a, p, ls, r, rfl, hls _, SqT.of upd_same, all _ (lookup_mem el), fun x hx => (hn x (List.mem_cons_of_mem _ hx)).same s1, fun H' s2 => ?_⟩
              have := k H' (Same.trans s1 s2)
              have e2 : stepOkO (some (V.str z :: r)) = (decide (ls.length = r.length) && within ls r 0) := by
                show stepOkN z r = _
                unfold stepOkN
                rw [el]
              rw [e2] at this
              exact this
end
end FC
set_option Elab.async false
set_option linter.all false
set_option maxRecDepth 100000
set_option maxHeartbeats 4000000
namespace FC
open PySem L2
/-- values in the places of a chain's steps -/
structure Steps (K : PySem.W.Frag) (H : Hp) (xs : List V) (os : List (Option (List V))) : Prop where
  len : xs.length = os.length
  at_ : ∀ (i : Nat) (x : V) (o : Option (List V)), xs[i]? = some x → os[i]? = some o → StepV K H x o
theorem Steps.same {K : PySem.W.Frag} {H H' : Hp} {xs : List V} {os : List (Option (List V))} (e : Same H H') (s : Steps K H xs os) : Steps K H' xs os :=
  ⟨s.len, fun i x o h1 h2 => (s.at_ i x o h1 h2).same e⟩
def spLimits (K : PySem.W.Frag) : Sp := fun vs H Q _ => ∃ a xs cs, vs = [.ref a] ∧ SqT K H a xs ∧ Steps K H xs (cs.map some) ∧ xs.length ≤ 1000 ∧ (∀ ys ∈ cs, stepOk ys = true) ∧ ∀ H', Same H H' → Q (.bl (limOk cs)) H'
theorem get_lt {α : Type} {l : List α} {i : Nat} {x : α} (h : l[i]? = some x) : i < l.length := (List.getElem?_eq_some_iff.mp h).1
theorem take_succ_get {α : Type} {l : List α} {i : Nat} {x : α} (h : l[i]? = some x) : l.take (i + 1) = l.take i ++ [x] := by
  rw [List.take_add_one, h]
  rfl
theorem inV_strs (n : Str) (ns : List Str) : inV (.str n) (ns.map V.str) = decide (n ∈ ns) := by
  unfold inV
  induction ns with
  | nil => simp
  | cons m r ih =>
    rw [List.map_cons, List.any_cons, ih]
    show (m == n || decide (n ∈ r)) = _
    by_cases h : n = m
    · subst h; simp
    · have h2 : (m == n) = false := beq_eq_false_iff_ne.mpr (fun z => h z.symm)
      rw [h2]
      simp [h]
theorem flat_strs (ns : List Str) : (ns.map V.str).all flatV = true := by
  simp [flatV]
section
variable {P : Program} {w : World} {K : PySem.W.Frag} {mg : Str → Option Value} {base : Heap}
theorem scLimits : FnScope ["steps", "most", "names", "step"] ["steps"] (defScope sLimits) := ⟨rfl, rfl, rfl, by decide +kernel, rfl, by decide +kernel, by decide +kernel⟩
theorem ok_limits {f dI : Addr} {fd : FuncData} (F : Fun K "keeps_limits" "keeps_limits" sLimits f fd) (T : Blt mg) (mI : mg "LIMITS" = some (.ref dI)) (B : LimT K dI) :
    FnOk P w K mg base CX0 1 f fd ["steps"] (spLimits K) := by
  refine F.ok scLimits (fun vs H Q E h => ?_) (fun cdv A outer s H vs Q E hr h => ?_)
  · obtain ⟨x, o, _, rfl, _⟩ := h
    rfl
  · obtain ⟨a, xs, cs, rfl, ha, hs, hlen, hok, k⟩ := h
    have nd := scLimits.nd
    obtain ⟨rs, hI, hrs, hat⟩ := B.at_
    refine ⟨_, pss_cons (ps_for PassesOwn.never rfl (pi_tup (pe_glob (v := .ref dI) rfl mI rfl)) (pg_tup rfl (pgs_cons (pg_name (i := 1) nd rfl (Or.inl rfl)) (pgs_cons (pg_name (i := 2) nd rfl (Or.inr rfl)) pgs_nil)))
        (pss_one (ps_if (pt_cmp (pc_gt (pe_callB call_len (by rfl) T.len PySem.boot_len (pa_cons
          (pe_lc (own := [("step", 3)]) (g := gName 3) (by rfl) nd (pi_tup (pv 0)) (blkOk_by (own := [("step", 3)]) (N := ["steps", "most", "names", "step"]) (sc := defScope sLimits) (by decide +kernel)) (fun _ _ _ _ _ => pg_name (i := 3) nd rfl (Or.inl rfl))
            (fun _ _ _ _ _ => pts_one (pt_cmpR (r := rIn K false) op_in_seq (pe_ix (r := rIxT K) ix_tup (pv 3) pe_int (fun _ _ => rfl)) (pv 2) rfl)) (fun _ _ _ _ _ => pv 3)) pa_nil)) (pv 1))) (pss_one (ps_ret pe_bl)) pss_nil)))
      (pss_one (ps_ret pe_bl)), ?_⟩
    refine ⟨dI, rfl, ⟨_, hI H⟩, for_tup (K := K) (a := dI) (xs := rs.map V.ref) (fun i σ H2 => ∃ v1 v2 v3 : Option V, σ = [some (.ref a), v1, v2, v3] ∧ Same H H2 ∧ (lims.take i).all (fun p => decide ((cs.filter (headIn p.2)).length ≤ p.1)) = true)
      ⟨none, none, none, rfl, Same.refl H, rfl⟩ (fun i σ H2 _ _ => hI H2) ?_ ?_⟩
    · rintro i x σ H2 hx ⟨v1, v2, v3, rfl, s2, hall⟩
      have hi : i < rs.length := by
        have := get_lt hx
        rwa [List.length_map] at this
      obtain ⟨r, hr', rfl⟩ : ∃ r, rs[i]? = some r ∧ x = V.ref r := ⟨rs[i], List.getElem?_eq_getElem hi, by
        rw [List.getElem?_map, List.getElem?_eq_getElem hi] at hx
        exact (Option.some.inj hx).symm⟩
      obtain ⟨⟨m, names⟩, hp⟩ : ∃ p, lims[i]? = some p := ⟨lims[i]'(by omega), List.getElem?_eq_getElem (by omega)⟩
      obtain ⟨c, h1, h2⟩ := hat i (m, names) r hp hr'
      refine ⟨r, _, rfl, h1 _, rfl, _, _, rfl, _, _, rfl, rfl, ?_⟩
      -- the comprehension
      refine ⟨_, rfl, a, rfl, ⟨_, sqt_same s2 ha⟩, fun D nD => ?_⟩
      have sD : Same H (upd H2 D (.lst [])) := same_upd s2 nD
      refine lc_tup (K := K) (a := a) (xs := xs) (fun j H3 => ∃ acc : List V, H3 D = some (.lst acc) ∧ acc.length = ((cs.take j).filter (headIn names)).length ∧ Same H H3)
        ⟨[], upd_same, rfl, sD⟩ (fun j H3 _ ⟨_, _, _, s3⟩ => sqt_same s3 ha) ?_ ?_
      · rintro j y H3 hy ⟨acc, hD, hacc, s3⟩
        have hj : j < cs.length := by
          have := get_lt hy
          rw [hs.len, List.length_map] at this
          exact this
        have hcj : (cs.map some)[j]? = some (some cs[j]) := by rw [List.getElem?_map, List.getElem?_eq_getElem hj]; rfl
        obtain ⟨b, rfl, hb, hn⟩ := hs.at_ j y _ hy hcj
        have hcm : cs[j] ∈ cs := List.getElem_mem hj
        obtain ⟨name, ns, ec, _⟩ := stepOk_shape (hok _ hcm)
        rw [ec] at hb
        have et : (cs.take (j + 1)).filter (headIn names) = (cs.take j).filter (headIn names) ++ (if name ∈ names then [cs[j]] else []) := by
          rw [take_succ_get (List.getElem?_eq_getElem hj), List.filter_append]
          congr 1
          rw [List.filter_cons, ec]
          show (if decide (name ∈ names) = true then _ else _) = _
          by_cases hm : name ∈ names
          · rw [if_pos hm, if_pos (decide_eq_true hm)]; rfl
          · rw [if_neg hm, if_neg (by simpa using hm)]; rfl
        refine ⟨rfl, _, rfl, b, _, _, .str name, rfl, rfl, sqt_same s3 hb, at0 _ _, _, rfl, c, names.map V.str, rfl, .inr (h2 _), rfl, flat_strs _, _, rfl, ?_⟩
        show if inV (.str name) (names.map V.str) = true then _ else _
        rw [inV_strs]
        refine ite2 (fun hm => ?_) (fun hm => ?_)
        · have hm := of_decide_eq_true hm
          rw [if_pos hm] at et
          have hle : acc.length ≤ j := by
            rw [hacc]
            exact Nat.le_trans (List.length_filter_le _ _) (by rw [List.length_take]; omega)
          have hjx := get_lt hy
          refine ⟨_, rfl, acc, hD, small1000 (by omega), acc ++ [.ref b], upd_same, ?_, ?_⟩
          · rw [et, List.length_append, List.length_append, hacc]
            rfl
          · intro q u hq
            have hqD : q ≠ D := fun z => by
              have := s2 q u hq
              rw [z, nD] at this
              cases this
            rw [upd_ne hqD]
            exact s3 q u hq
        · have hm : ¬ name ∈ names := fun z => hm (decide_eq_true z)
          rw [if_neg hm, List.append_nil] at et
          exact ⟨acc, hD, by rw [et]; exact hacc, s3⟩
      · rintro H3 ⟨acc, hD, hacc, s3⟩
        rw [hs.len, List.length_map, List.take_length] at hacc
        refine ⟨_, acc.length, rfl, .inl ⟨acc, SqL.of hD, rfl⟩, _, rfl, _, _, rfl, rfl, _, rfl, ?_⟩
        refine ite2 (fun hgt => ?_) (fun hgt => ?_)
        · have hgt : ((m : Nat) : Int) < (acc.length : Int) := of_decide_eq_true hgt
          have := k H3 s3
          have e : limOk cs = false := by
            cases el : limOk cs with
            | false => rfl
            | true =>
              unfold limOk at el
              have := List.all_eq_true.mp el (m, names) (List.mem_of_getElem? hp)
              have := of_decide_eq_true this
              have : (cs.filter (headIn names)).length ≤ m := this
              omega
          rw [e] at this
          exact this
        · have hgt : ¬ ((m : Nat) : Int) < (acc.length : Int) := fun z => hgt (decide_eq_true z)
          refine ⟨_, _, _, rfl, s3, ?_⟩
          rw [take_succ_get hp, List.all_append, hall]
          show (true && (decide ((cs.filter (headIn names)).length ≤ m) && true)) = true
          rw [decide_eq_true (by omega)]
          rfl
    · rintro σ H2 ⟨v1, v2, v3, rfl, s2, hall⟩
      have := k H2 s2
      have e : limOk cs = true := by
        unfold limOk
        rw [List.length_map, hrs, List.take_length] at hall
        exact hall
      rw [e] at this
      exact this
end
end FC
set_option Elab.async false
set_option linter.all false
set_option maxRecDepth 100000
set_option maxHeartbeats 4000000
namespace FC
open PySem L2
/-- a value in a chain's place: a tuple, or another thing -/
def ChainV (K : PySem.W.Frag) (H : Hp) (x : V) : Option (List (Option (List V))) → Prop
  | some os => ∃ a xs, x = .ref a ∧ SqT K H a xs ∧ Steps K H xs os
  | none => ∃ T, T ∈ kinds ∧ T ≠ "tuple" ∧ TyX K H x (.type T)
def chainOkL (os : List (Option (List V))) : Bool := decide (os.length ≤ 4) && (os.all stepOkO && limOk (os.filterMap id))
def chainOkO : Option (List (Option (List V))) → Bool
  | some os => chainOkL os
  | none => false
theorem chainOkL_some (cs : List (List V)) : chainOkL (cs.map some) = chainOk cs := by
  unfold chainOkL chainOk
  have e1 : (cs.map some).all stepOkO = cs.all stepOk := by
    rw [List.all_map]
    rfl
  have e2 : (cs.map some).filterMap id = cs := by
    induction cs with
    | nil => rfl
    | cons c r ih =>
      rw [List.map_cons, List.filterMap_cons]
      show c :: _ = _
      rw [ih (by
        rw [List.all_map]
        rfl)]
  rw [e1, e2, List.length_map]
theorem all_somes : ∀ {os : List (Option (List V))}, os.all stepOkO = true → os = (os.filterMap id).map some
  | [], _ => rfl
  | none :: r, h => by simp [stepOkO] at h
  | some c :: r, h => by
    rw [List.all_cons, Bool.and_eq_true] at h
    have ih := all_somes h.2
    show some c :: r = some c :: (r.filterMap id).map some
    rw [← ih]
theorem somes_ok {os : List (Option (List V))} (h : os.all stepOkO = true) : ∀ ys ∈ os.filterMap id, stepOk ys = true := fun ys hy => by
  obtain ⟨o, ho, e⟩ := List.mem_filterMap.mp hy
  have e : o = some ys := e
  have := List.all_eq_true.mp h o ho
  rw [e] at this
  exact this
def spIsChain (K : PySem.W.Frag) : Sp := fun vs H Q _ => ∃ x oo, vs = [x] ∧ ChainV K H x oo ∧ ∀ H', Same H H' → Q (.bl (chainOkO oo)) H'
section
variable {P : Program} {w : World} {K : PySem.W.Frag} {mg : Str → Option Value} {base : Heap}
theorem scIsChain : FnScope ["value", "step"] ["value"] (defScope sIsChain) := ⟨rfl, rfl, rfl, by decide +kernel, rfl, by decide +kernel, by decide +kernel⟩
theorem ok_isChain {f : Addr} {tM : Tok} {fd : FuncData} (F : Fun K "is_chain" "is_chain" sIsChain f fd) (T : Blt mg) (CS : Cal P w K mg base CX0 3 "is_step" ["value"] (spIsStep K)) (CL : Cal P w K mg base CX0 1 "keeps_limits" ["steps"] (spLimits K))
    (mM : mg "MOST_STEPS" = some (.int 4 tM)) : FnOk P w K mg base CX0 4 f fd ["value"] (spIsChain K) := by
  refine F.ok scIsChain (fun vs H Q E h => ?_) (fun cdv A outer s H vs Q E hr h => ?_)
  · obtain ⟨x, o, rfl, _⟩ := h
    rfl
  · obtain ⟨x, oo, rfl, hx, k⟩ := h
    have nd := scIsChain.nd
    have hr1 : Room 1 _ := hr.mono (by decide)
    refine ⟨_, pss_cons (ps_if (PW.pt (pw_or (pt_not (pt_val (pe_callB call_isi (by rfl) T.isi (by decide +kernel) (pa_cons (pv 0) (pa_cons (pe_bltn (v := .ty "tuple") (by rfl) T.tuple (by decide +kernel) rfl) pa_nil)))))
          (pw_or1 (pt_cmp (pc_gt (pe_callB call_len (by rfl) T.len PySem.boot_len (pa_cons (pv 0) pa_nil)) (pe_glob (v := .int 4) rfl mM ⟨_, rfl⟩)))))) (pss_one (ps_ret pe_bl)) pss_nil)
      (pss_one (ps_ret (pe_and (pe_callB (cr_all rfl) (by rfl) T.all (by decide +kernel) (pa_cons
          (pe_lc (own := [("step", 1)]) (g := gName 1) (by rfl) nd (pi_tup (pv 0)) (blkOk_by (own := [("step", 1)]) (N := ["value", "step"]) (sc := defScope sIsChain) (by decide +kernel)) (fun _ _ _ _ _ => pg_name (i := 1) nd rfl (Or.inl rfl))
            (fun _ _ _ _ _ => pts_nil) (fun _ _ _ _ _ => pe_cal CS hr pass0 (pa_cons (pv 1) pa_nil))) pa_nil)) (pe_one (pe_cal CL hr1 pass0 (pa_cons (pv 0) pa_nil)))))), ?_⟩
    cases oo with
    | none =>
      obtain ⟨t, ht, hnt, hty⟩ := hx
      refine ⟨_, rfl, _, _, _, _, _, rfl, .ty _, hty, kit_ty (kit_tuple t ht), _, rfl, ?_⟩
      rw [show (t == "tuple") = false from beq_eq_false_iff_ne.mpr hnt]
      exact iteT (iteT (k H (Same.refl H)))
    | some os =>
      obtain ⟨a, xs, rfl, ha, hs⟩ := hx
      refine ⟨_, rfl, _, _, _, _, _, rfl, .ty _, ty_tup ha, kit_ty (kit_tuple "tuple" (by decide)), _, rfl, iteF ?_⟩
      refine ⟨_, rfl, _, xs.length, rfl, .inr ⟨_, ha, rfl⟩, _, _, rfl, rfl, _, rfl, ?_⟩
      refine ite2 (fun hgt => ?_) (fun hgt => ?_)
      · have hgt : (4 : Int) < (xs.length : Int) := of_decide_eq_true hgt
        have := k H (Same.refl H)
        have e : chainOkO (some os) = false := by
          show chainOkL os = false
          unfold chainOkL
          rw [decide_eq_false (by rw [← hs.len]; omega)]
          rfl
        rw [e] at this
        exact this
      · have hgt : xs.length ≤ 4 := by
          have : ¬ (4 : Int) < (xs.length : Int) := fun z => hgt (decide_eq_true z)
          omega
        have k' : ∀ H', Same H H' → Q (.bl (os.all stepOkO && limOk (os.filterMap id))) H' := fun H' z => by
          have := k H' z
          have e : chainOkO (some os) = (os.all stepOkO && limOk (os.filterMap id)) := by
            show chainOkL os = _
            unfold chainOkL
            rw [decide_eq_true (by rw [← hs.len]; omega)]
            rfl
          rw [e] at this
          exact this
        refine ⟨_, rfl, a, rfl, ⟨_, ha⟩, fun D nD => ?_⟩
        have sD : Same H (upd H D (.lst [])) := same_upd (Same.refl H) nD
        refine lc_tup (K := K) (a := a) (xs := xs) (fun j H3 => H3 D = some (.lst (((os.take j).map stepOkO).map V.bl)) ∧ Same H H3) ⟨upd_same, sD⟩ (fun j H3 _ ⟨_, s3⟩ => sqt_same s3 ha) ?_ ?_
        · rintro j y H3 hy ⟨hD, s3⟩
          have hj : j < os.length := by
            have := get_lt hy
            rw [hs.len] at this
            exact this
          have ho : os[j]? = some os[j] := List.getElem?_eq_getElem hj
          refine ⟨rfl, ⟨_, rfl, y, _, rfl, (hs.at_ j y _ hy ho).same s3, fun H4 s4 => ⟨_, s4 _ _ hD, ?_, ?_, ?_⟩⟩⟩
          · rw [List.length_map, List.length_map, List.length_take]
            exact small1000 (by have := get_lt hy; omega)
          · rw [upd_same, take_succ_get ho, List.map_append, List.map_append]
            rfl
          · intro q u hq
            have hqD : q ≠ D := fun z => by
              rw [z, nD] at hq
              cases hq
            rw [upd_ne hqD]
            exact s4 q u (s3 q u hq)
        · rintro H3 ⟨hD, s3⟩
          rw [hs.len, List.take_length] at hD
          refine ⟨D, _, rfl, SqL.of hD, ?_⟩
          refine ⟨_, rfl, ?_⟩
          have ea : (os.map stepOkO).all id = os.all stepOkO := by
            rw [List.all_map]
            rfl
          rw [ea]
          cases hall : os.all stepOkO with
          | false =>
            refine iteF ?_
            have := k' H3 s3
            rw [hall] at this
            exact this
          | true =>
            refine iteT ?_
            have e2 := all_somes hall
            refine ⟨_, rfl, a, xs, os.filterMap id, rfl, sqt_same s3 ha, ?_, by omega, somes_ok hall, fun H4 s4 => ?_⟩
            · rw [← e2]
              exact hs.same s3
            · have := k' H4 (Same.trans s3 s4)
              rw [hall] at this
              exact this
end
end FC
set_option Elab.async false
set_option linter.all false
set_option maxRecDepth 100000
set_option maxHeartbeats 4000000
namespace FC
open PySem L2
/-- nothing, or InvalidChain -/
def spCheck (K : PySem.W.Frag) (C : Addr) : Sp := fun vs H Q E => ∃ x oo, vs = [x] ∧ ChainV K H x oo ∧ ∀ H', Same H H' → (chainOkO oo = true → Q .non H') ∧ (chainOkO oo = false → E (.ref C) none H')
section
variable {P : Program} {w : World} {K : PySem.W.Frag} {mg : Str → Option Value} {base : Heap}
theorem scCheck : FnScope ["value"] ["value"] (defScope sCheck) := ⟨rfl, rfl, rfl, by decide +kernel, rfl, by decide +kernel, by decide +kernel⟩
theorem ok_check {f C : Addr} {fd : FuncData} (F : Fun K "check_chain" "check_chain" sCheck f fd) (CC : Cal P w K mg base CX0 4 "is_chain" ["value"] (spIsChain K)) (T : ExcT K mg "InvalidChain" C) :
    FnOk P w K mg base (L2N.CX P w) 5 f fd ["value"] (spCheck K C) := by
  refine okN F scCheck (fun vs H Q E h => ?_) (fun cdv A outer s H vs Q E hr h => ?_)
  · obtain ⟨x, o, rfl, _⟩ := h
    rfl
  · obtain ⟨x, oo, rfl, hx, k⟩ := h
    refine ⟨_, pss_one (ps_if (pt_not (pt_val (pe_cal CC hr pass0 (pa_cons (pv 0) pa_nil)))) (pss_one (L2N.ps_raise rfl (L2N.takes_of rfl rfl rfl rfl) (L2N.pmk_own PySem.F.excBase_ValueError T.q T.gC T.kC (raises_own T.bP T.tP) rfl))) pss_nil), ?_⟩
    refine ⟨_, rfl, x, oo, rfl, hx, fun H1 s1 => ⟨_, rfl, ?_⟩⟩
    cases h : chainOkO oo with
    | false => exact iteT ((k H1 s1).2 h)
    | true => exact iteF ((k H1 s1).1 h)
end
end FC
set_option Elab.async false
set_option linter.all false
set_option maxRecDepth 100000
namespace FC
open PySem L2
/-- at a stands a chain of these steps -/
def ChainAt (K : PySem.W.Frag) (H : Hp) (a : Addr) (cs : List (List V)) : Prop := ∃ xs, SqT K H a xs ∧ Steps K H xs (cs.map some)
theorem ChainAt.v {K : PySem.W.Frag} {H : Hp} {a : Addr} {cs : List (List V)} (h : ChainAt K H a cs) : ChainV K H (.ref a) (some (cs.map some)) := by
  obtain ⟨xs, h1, h2⟩ := h
  exact ⟨a, xs, rfl, h1, h2⟩
theorem ChainAt.same {K : PySem.W.Frag} {H H' : Hp} {a : Addr} {cs : List (List V)} (e : Same H H') (h : ChainAt K H a cs) : ChainAt K H' a cs := by
  obtain ⟨xs, h1, h2⟩ := h
  exact ⟨xs, sqt_same e h1, h2.same e⟩
end FC
set_option Elab.async false
set_option linter.all false
set_option maxRecDepth 100000
set_option maxHeartbeats 4000000
namespace FC
open PySem L2
/-! ### the law's draws -/
def spCellL (K : PySem.W.Frag) : Sp := fun vs H Q _ => ∃ (a : Addr) (ns : List Int) (k : Int), vs = [.ref a, .int k] ∧ SqL K H a (ns.map V.int) ∧ ns.length ≤ 63 ∧ ∀ n H', Same H H' → Q (.int n) H'
def spDrawn : Sp := fun vs H Q _ => ∃ c k : Int, vs = [.int c, .int k] ∧ ∀ r : Int, 0 ≤ r → Q (.int r) H
/-- two numbers that are used up -/
def Dice (H : Hp) (d : Addr) : Prop := ∃ a b : Int, H d = some (.lst [.int a, .int b])
/-- all but d is as it was -/
def SameX (d : Addr) (H H' : Hp) : Prop := ∀ b o, H b = some o → b ≠ d → H' b = some o
def spRoll : Sp := fun vs H Q _ => ∃ (d : Addr) (m : Int), vs = [.ref d, .int m] ∧ Dice H d ∧ 1 ≤ m ∧ m < 1606938044258990275541962092341162602522202993782792835301376 ∧ ∀ (r : Int) H', 0 ≤ r → r < m → Dice H' d → SameX d H H' → Q (.int r) H'
theorem SameX.refl (d : Addr) (H : Hp) : SameX d H H := fun _ _ h _ => h
theorem SameX.trans {d : Addr} {H H1 H2 : Hp} (a : SameX d H H1) (b : SameX d H1 H2) : SameX d H H2 := fun c o h n => b c o (a c o h n) n
theorem SameX.of {d : Addr} {H H' : Hp} (e : Same H H') : SameX d H H' := fun b o h _ => e b o h
theorem mod_nat {x m : Int} {n : Nat} (h : 0 < m) (hm : m.natAbs ≤ 2 ^ n) : (x % m).natAbs < 2 ^ n := by
  have h1 := Int.emod_nonneg x (Int.ne_of_gt h)
  have h2 := Int.emod_lt_of_pos x h
  omega
theorem div_nat {x m : Int} {n : Nat} (h0 : 0 ≤ x) (h : 0 < m) (hx : x.natAbs < 2 ^ n) : (x / m).natAbs < 2 ^ n := by
  have h1 := Int.ediv_nonneg h0 (Int.le_of_lt h)
  have h2 := Int.ediv_le_self m h0
  omega
theorem plus_nat {x : Int} {n : Nat} (hx : x.natAbs < 2 ^ n) : (x + 1).natAbs < 2 ^ (n + 1) := by
  have : 1 ≤ 2 ^ n := Nat.one_le_two_pow
  rw [Nat.pow_succ]
  omega
theorem dp_ints {K : PySem.W.Frag} {H : Hp} : ∀ ns : List Int, DpAll K H (ns.map V.int) (ns.map PyData.int)
  | [] => .nil
  | n :: r => .cons (.int n) (dp_ints r)
section
variable {P : Program} {w : World} {K : PySem.W.Frag} {mg : Str → Option Value} {base : Heap}
theorem scCell : FnScope ["_law_script", "_law_k"] ["_law_script", "_law_k"] (defScope sCell) := ⟨rfl, rfl, rfl, by decide +kernel, rfl, by decide +kernel, by decide +kernel⟩
theorem ok_cell {f : Addr} {fd : FuncData} (F : Fun K "_law_cell" "_law_cell" sCell f fd) (T : Blt mg) : FnOk P w K mg base CX0 1 f fd ["_law_script", "_law_k"] (spCellL K) := by
  refine F.ok scCell (fun vs H Q E h => ?_) (fun cdv A outer s H vs Q E hr h => ?_)
  · obtain ⟨a, ns, k, rfl, _⟩ := h
    rfl
  · obtain ⟨a, ns, k, rfl, ha, hl, q⟩ := h
    have nd := scCell.nd
    refine ⟨_, pss_cons (ps_if (pt_cmpR (op_eqD hr.units) (pv 0) (pe_lst pa_nil) (nomark _)) (pss_one (ps_ret (pe_op op_mul (pv 1) pe_int))) pss_nil)
      (pss_one (ps_ret (pe_op op_add (pe_ix ix_list (pv 0) (pe_op op_mod (pv 1) (pe_callB call_len (by rfl) T.len PySem.boot_len (pa_cons (pv 0) pa_nil))) (fun _ _ => rfl))
        (pe_op op_mul (pe_op op_fdiv (pv 1) (pe_callB call_len (by rfl) T.len PySem.boot_len (pa_cons (pv 0) pa_nil))) pe_int)))), ?_⟩
    refine ⟨_, rfl, by decide, fun p np => ?_⟩
    have s1 := same_upd (o := .lst []) (Same.refl H) np
    have ha1 := Same.seq s1 ha
    refine ⟨.list (ns.map .int), .list [], .lst ha1 (dp_ints ns), .lst (SqL.of upd_same) .nil, PySem.W.ke_shaped_ints ns, by decide, _, rfl, ?_⟩
    cases ns with
    | nil => exact iteT ⟨_, rfl, _, _, rfl, rfl, .inr (by decide), q _ _ s1⟩
    | cons n r =>
      refine iteF ?_
      have hpos : (0 : Int) < (((n :: r).map V.int).length : Nat) := by
        rw [List.length_map, List.length_cons]
        omega
      have hlt : (((n :: r).map V.int).length : Int) < 1073741824 := by
        rw [List.length_map]
        omega
      have h0 := Int.emod_nonneg k (Int.ne_of_gt hpos)
      have h1 := Int.emod_lt_of_pos k hpos
      obtain ⟨j, hj⟩ := Int.eq_ofNat_of_zero_le h0
      have hjl : j < ((n :: r).map V.int).length := by omega
      obtain ⟨v, hv⟩ : ∃ v : Int, ((n :: r).map V.int)[j]? = some (V.int v) := by
        rw [List.length_map] at hjl
        exact ⟨(n :: r)[j], by rw [List.getElem?_map, List.getElem?_eq_getElem hjl]; rfl⟩
      refine ⟨_, rfl, _, rfl, _, rfl, _, ((n :: r).map V.int).length, rfl, .inl ⟨_, ha1, rfl⟩, _, _, rfl, rfl, hpos, ?_⟩
      refine ⟨a, _, _, .int v, rfl, rfl, ha1, ?_, ?_⟩
      · rw [hj]
        exact atI_nat hv
      · refine ⟨_, rfl, _, rfl, _, ((n :: r).map V.int).length, rfl, .inl ⟨_, ha1, rfl⟩, _, _, rfl, rfl, ⟨hpos, hlt⟩, _, _, rfl, rfl, .inr (by decide), _, _, rfl, rfl, q _ _ s1⟩
theorem scDrawn : FnScope ["_law_cell_here", "_law_k", "_law_more"] ["_law_cell_here", "_law_k"] (defScope sDrawn) := ⟨rfl, rfl, rfl, by decide +kernel, rfl, by decide +kernel, by decide +kernel⟩
theorem ok_drawn {f : Addr} {fd : FuncData} (F : Fun K "_law_drawn" "_law_drawn" sDrawn f fd) : FnOk P w K mg base CX0 1 f fd ["_law_cell_here", "_law_k"] spDrawn := by
  refine F.ok scDrawn (fun vs H Q E h => ?_) (fun cdv A outer s H vs Q E hr h => ?_)
  · obtain ⟨c, k, rfl, _⟩ := h
    rfl
  · obtain ⟨c, k, rfl, q⟩ := h
    have nd := scDrawn.nd
    refine ⟨_, pss_cons (ps_set (i := 2) nd rfl (Or.inl rfl) (pe_op op_mod (pe_op op_add (pe_op op_mul (pv 0) pe_int) (pe_op op_mul (pe_op op_add (pv 1) pe_int) pe_int)) pe_int))
      (pss_cons (ps_set (i := 2) nd rfl (Or.inl rfl) (pe_op op_mod (pe_op op_mulW (pv 2) (pv 2)) pe_int))
      (pss_cons (ps_set (i := 2) nd rfl (Or.inl rfl) (pe_op op_mulW (pe_op op_mulW (pe_op op_add (pe_op op_mod (pv 2) pe_int) pe_int) (pe_op op_add (pe_op op_fdivW (pv 2) pe_int) pe_int)) (pv 2)))
      (pss_one (ps_ret (pe_op op_mod (pv 2) pe_int))))), ?_⟩
    refine ⟨_, rfl, _, _, rfl, rfl, .inr (by decide), _, rfl, _, _, rfl, rfl, _, _, rfl, rfl, .inr (by decide), _, _, rfl, rfl, _, _, rfl, rfl, (by decide : (0 : Int) < 340282366920938463463374607431768211507), ?_⟩
    have bx : ((c * 6364136223846793005 + (k + 1) * 1442695040888963407) % 340282366920938463463374607431768211507).natAbs < 2 ^ 129 := mod_nat (by decide) (by decide)
    refine ⟨_, rfl, _, rfl, _, _, rfl, rfl, wide_mul bx bx (by decide) (by decide) (by decide), _, _, rfl, rfl, (by decide : (0 : Int) < 340282366920938463463374607431768211297), ?_⟩
    have c1 := Int.emod_nonneg ((c * 6364136223846793005 + (k + 1) * 1442695040888963407) % 340282366920938463463374607431768211507 * ((c * 6364136223846793005 + (k + 1) * 1442695040888963407) % 340282366920938463463374607431768211507)) (by decide : (340282366920938463463374607431768211297 : Int) ≠ 0)
    have by_ : ((c * 6364136223846793005 + (k + 1) * 1442695040888963407) % 340282366920938463463374607431768211507 * ((c * 6364136223846793005 + (k + 1) * 1442695040888963407) % 340282366920938463463374607431768211507) % 340282366920938463463374607431768211297).natAbs < 2 ^ 129 := mod_nat (by decide) (by decide)
    have bu := plus_nat (mod_nat (x := (c * 6364136223846793005 + (k + 1) * 1442695040888963407) % 340282366920938463463374607431768211507 * ((c * 6364136223846793005 + (k + 1) * 1442695040888963407) % 340282366920938463463374607431768211507) % 340282366920938463463374607431768211297) (m := 18446744073709551557) (n := 64) (by decide) (by decide))
    have bv := plus_nat (div_nat (m := 18446744073709551557) c1 (by decide) by_)
    refine ⟨_, rfl, _, _, rfl, rfl, (by decide : (0 : Int) < 18446744073709551557), _, _, rfl, rfl, _, rfl, _, _, rfl, rfl, wide_div (b := 64) (by decide) (by decide) (by decide) (by decide), _, _, rfl, rfl, _, _, rfl, rfl, wide_mul bu bv (by decide) (by decide) (by decide), ?_⟩
    have bw := wide_lt bu bv
    refine ⟨_, rfl, _, _, rfl, rfl, wide_mul bw by_ (by decide) (by decide) (by decide), ?_⟩
    exact ⟨_, rfl, _, _, rfl, rfl, (by decide : (0 : Int) < 340282366920938463463374607431768211507), q _ (Int.emod_nonneg _ (by decide))⟩
end
end FC
set_option Elab.async false
set_option linter.all false
set_option maxRecDepth 100000
set_option maxHeartbeats 4000000
namespace FC
open PySem L2
structure Blt2 (mg : Str → Option Value) : Prop where
  enumerate : mg "enumerate" = none
  list : mg "list" = none
abbrev NT : List Str := ["_law_step_here", "_law_numbers", "_law_kind", "_law_found", "_law_at", "_law_x", "_law_last", "_law_spot"]
/-- the lists at qs hold these numbers -/
def RowsAt (H : Hp) (qs : List Addr) (gs : List (List Int)) : Prop := qs.length = gs.length ∧ ∀ (i : Nat) (q : Addr) (g : List Int), qs[i]? = some q → gs[i]? = some g → H q = some (.lst (g.map V.int))
theorem sql_same {K : PySem.W.Frag} {H H' : Hp} {a : Addr} {xs : List V} (e : Same H H') (h : SqL K H a xs) : SqL K H' a xs := by
  rcases h with (h | ⟨o, h⟩) | h
  · exact .inl (.inl (e _ _ h))
  · exact .inl (.inr ⟨o, e _ _ h⟩)
  · exact .inr h
/-- i rows found, at l -/
def ThrI (H0 : Hp) (l : Addr) (p : Stp) (ns : List Int) (i : Nat) (H : Hp) : Prop := Same H0 H ∧ ∃ qs : List Addr, H l = some (.lst (qs.map V.ref)) ∧ qs.length = i ∧
  ∀ (j : Nat) (q : Addr), qs[j]? = some q → q ≠ l ∧ ∃ g, (p.each [] ns)[j]? = some g ∧ H q = some (.lst (g.map V.int))
theorem ThrI.same {H0 H H' : Hp} {l : Addr} {p : Stp} {ns : List Int} {i : Nat} (t : ThrI H0 l p ns i H) (s : Same H H') : ThrI H0 l p ns i H' := by
  obtain ⟨s0, qs, h1, h2, h3⟩ := t
  refine ⟨Same.trans s0 s, qs, s _ _ h1, h2, fun j q hq => ?_⟩
  obtain ⟨n, g, hg, e⟩ := h3 j q hq
  exact ⟨n, g, hg, s _ _ e⟩
theorem ThrI.push {H0 H : Hp} {l q : Addr} {p : Stp} {ns : List Int} {i : Nat} {x : Int} {zs : List V} (t : ThrI H0 l p ns i H) (n0 : H0 l = none) (hx : ns[i]? = some x) (nq : H q = none) (ez : zs = (p.out (ns.take i) x).map V.int) :
    ∃ qs : List Addr, upd H q (.lst zs) l = some (.lst (qs.map V.ref)) ∧ qs.length = i ∧ ThrI H0 l p ns (i + 1) (upd (upd H q (.lst zs)) l (.lst (qs.map V.ref ++ [.ref q]))) := by
  obtain ⟨s0, qs, h1, h2, h3⟩ := t
  subst ez
  have lq : l ≠ q := ne_of_none h1 nq
  refine ⟨qs, (upd_ne lq).trans h1, h2, fun b o e => ?_, qs ++ [q], ?_, by rw [List.length_append, h2]; rfl, fun j c hc => ?_⟩
  · have bl : b ≠ l := ne_of_none e n0
    have bq : b ≠ q := ne_of_none (s0 _ _ e) nq
    rw [upd_ne bl, upd_ne bq]
    exact s0 _ _ e
  · rw [upd_same, List.map_append]
    rfl
  · by_cases hj : j < qs.length
    · rw [List.getElem?_append_left hj] at hc
      obtain ⟨n, g, hg, e⟩ := h3 j c hc
      have cq : c ≠ q := ne_of_none e nq
      exact ⟨n, g, hg, by rw [upd_ne n, upd_ne cq]; exact e⟩
    · have hj2 := (List.getElem?_eq_some_iff.mp hc).1
      rw [List.length_append] at hj2
      have hj2 : j < qs.length + 1 := hj2
      have ej : j = qs.length := by omega
      subst ej
      rw [List.getElem?_append_right (Nat.le_refl _), Nat.sub_self] at hc
      have hc : q = c := Option.some.inj hc
      subst hc
      refine ⟨fun z => lq z.symm, p.out (ns.take i) x, ?_, ?_⟩
      · have := p.each_get ns [] i x hx
        rw [List.nil_append] at this
        rw [h2]
        exact this
      · rw [upd_ne (fun z => lq z.symm), upd_same]
theorem thr_app {H0 H : Hp} {l q : Addr} {p : Stp} {ns : List Int} {i : Nat} {x : Int} {zs : List V} (t : ThrI H0 l p ns i H) (n0 : H0 l = none) (hx : ns[i]? = some x) (nq : H q = none) (ez : zs = (p.out (ns.take i) x).map V.int) (hz : i < sizeLine) {Q' : VK}
    (go : ∀ H', ThrI H0 l p ns (i + 1) H' → Q' .non H') : rAppend (.ref l) [.ref q] (upd H q (.lst zs)) Q' := by
  obtain ⟨qs, e1, e2, e3⟩ := t.push n0 hx nq ez
  exact ⟨l, _, _, rfl, rfl, e1, by rw [List.length_map, e2]; exact hz, go _ e3⟩
theorem ifDec {c A B : Prop} [Decidable c] (h : c) (hA : A) : if decide c = true then A else B := by
  rw [decide_eq_true h]
  exact iteT hA
theorem ifNDec {c A B : Prop} [Decidable c] (h : ¬ c) (hB : B) : if decide c = true then A else B := by
  rw [decide_eq_false h]
  exact iteF hB
theorem ifEqS {x y : V} {A B : Prop} (h : x = y) (hA : A) : if decide (x = y) = true then A else B := by
  rw [decide_eq_true h]
  exact iteT hA
theorem ifNeS {x y : V} {A B : Prop} (h : x ≠ y) (hB : B) : if decide (x = y) = true then A else B := by
  rw [decide_eq_false h]
  exact iteF hB
theorem cut_range {ns : List Int} {i : Nat} (hi : i < ns.length) (lo : Nat) : cutV (ns.map V.int) (some (lo : Int)) (some ((i : Int) + 1)) = ((ns.take (i + 1)).drop lo).map V.int := by
  have e : ((i : Int) + 1) = ((i + 1 : Nat) : Int) := by omega
  unfold cutV
  rw [e, HT.sIx_nat, HT.sIx_nat, List.length_map, Nat.min_eq_left (show i + 1 ≤ ns.length by omega), List.drop_take, List.map_take, List.map_drop]
  by_cases h : lo ≤ ns.length
  · rw [Nat.min_eq_left h]
  · rw [Nat.min_eq_right (by omega), List.drop_eq_nil_of_le (by rw [List.length_map]; exact Nat.le_refl _), List.drop_eq_nil_of_le (by rw [List.length_map]; omega)]
    rw [List.take_nil, List.take_nil]
theorem cut_take {ns : List Int} {i : Nat} (hi : i < ns.length) : cutV (ns.map V.int) none (some ((i : Int) + 1)) = (ns.take (i + 1)).map V.int := by
  have e : ((i : Int) + 1) = ((i + 1 : Nat) : Int) := by omega
  unfold cutV
  rw [e, HT.sIx_nat, HT.sIx_none, List.length_map, Nat.min_eq_left (show i + 1 ≤ ns.length by omega), List.drop_zero, Nat.sub_zero, List.map_take]
/-- the hits below n: the last of them, or 0, is the greatest -/
theorem lastF (Pr : Nat → Bool) : ∀ n : Nat, (((List.range n).filter Pr).getLastD 0 = 0 ∨ ((List.range n).filter Pr).getLastD 0 ∈ (List.range n).filter Pr) ∧ ∀ y ∈ (List.range n).filter Pr, y ≤ ((List.range n).filter Pr).getLastD 0
  | 0 => ⟨.inl rfl, fun y h => by cases h⟩
  | n + 1 => by
    obtain ⟨h1, h2⟩ := lastF Pr n
    rw [List.range_succ, List.filter_append]
    by_cases hp : Pr n = true
    · have e : [n].filter Pr = [n] := by simp [hp]
      rw [e]
      have e2 : ((List.range n).filter Pr ++ [n]).getLastD 0 = n := by simp
      rw [e2]
      refine ⟨.inr (by simp), fun y hy => ?_⟩
      rcases List.mem_append.mp hy with z | z
      · have := List.mem_range.mp (List.mem_filter.mp z).1
        omega
      · rw [List.mem_singleton.mp z]
        exact Nat.le_refl _
    · have e : [n].filter Pr = [] := by simp [hp]
      rw [e, List.append_nil]
      exact ⟨h1, h2⟩
theorem last_max {Pr : Nat → Bool} {n : Nat} {m : Int} (hm : m ∈ (0 : Int) :: ((List.range n).filter Pr).map Int.ofNat) (hle : ∀ y ∈ (0 : Int) :: ((List.range n).filter Pr).map Int.ofNat, y ≤ m) : m = ((((List.range n).filter Pr).getLastD 0 : Nat) : Int) := by
  obtain ⟨h1, h2⟩ := lastF Pr n
  have up : m ≤ ((((List.range n).filter Pr).getLastD 0 : Nat) : Int) := by
    rcases List.mem_cons.mp hm with z | z
    · omega
    · obtain ⟨y, hy, rfl⟩ := List.mem_map.mp z
      exact Int.ofNat_le.mpr (h2 y hy)
  have dn : ((((List.range n).filter Pr).getLastD 0 : Nat) : Int) ≤ m := by
    rcases h1 with z | z
    · rw [z]
      exact hle 0 (by simp)
    · exact hle _ (List.mem_cons_of_mem _ (List.mem_map.mpr ⟨_, z, rfl⟩))
  omega
def spThrough (K : PySem.W.Frag) : Sp := fun vs H Q _ => ∃ (b a : Addr) (p : Stp) (ns : List Int), vs = [.ref b, .ref a] ∧ SqT K H b p.v ∧ p.ok ∧ SqL K H a (ns.map V.int) ∧ ns.length ≤ 4000 ∧
  ∀ (l : Addr) (qs : List Addr) H', Same H H' → H l = none → H' l = some (.lst (qs.map V.ref)) → RowsAt H' qs (p.each [] ns) → Q (.ref l) H'
section
variable {P : Program} {w : World} {K : PySem.W.Frag} {mg : Str → Option Value} {base : Heap}
theorem scThrough : FnScope NT ["_law_step_here", "_law_numbers"] (defScope sThrough) := ⟨rfl, rfl, rfl, by decide +kernel, rfl, by decide +kernel, by decide +kernel⟩
theorem ok_through {f : Addr} {fd : FuncData} (F : Fun K "_law_through" "_law_through" sThrough f fd) (T : Blt mg) (T2 : Blt2 mg) : FnOk P w K mg base CX0 1 f fd ["_law_step_here", "_law_numbers"] (spThrough K) := by
  refine F.ok scThrough (fun vs H Q E h => ?_) (fun cdv A outer s H vs Q E hr h => ?_)
  · obtain ⟨b, a, p, ns, rfl, _⟩ := h
    rfl
  · obtain ⟨b, a, p, ns, rfl, hb, hok, ha, hl, k⟩ := h
    have nd := scThrough.nd
    refine ⟨_, pss_cons (ps_par (i := 2) (j := 3) (by rfl) nd rfl rfl (by decide) rfl rfl (pa_cons (pe_ix (r := rIxT K) ix_tup (pv 0) pe_int (fun _ _ => rfl)) (pa_cons (pe_lst pa_nil) pa_nil)) (by rfl))
      (pss_cons (ps_for PassesOwn.never rfl (pi_enum (by rfl) T2.enumerate (pa_cons (pv 1) pa_nil)) (pg_tup rfl (pgs_cons (pg_name (i := 4) nd rfl (Or.inl rfl)) (pgs_cons (pg_name (i := 5) nd rfl (Or.inl rfl)) pgs_nil)))
        (pss_one (ps_if (pt_cmpR op_eq (pv 2) pe_str (nomark _)) (pss_one (ps_expr (pe_bm PySem.F.plainAttrs_list PySem.F.slot_list_append PySem.F.type_list_append mt_append (pv 3) (pa_cons (pe_lst (pa_cons (pe_op op_add (pe_op op_mul (pe_ix (r := rIxT K) ix_tup (pv 0) pe_int (fun _ _ => rfl)) (pv 5)) (pe_ix (r := rIxT K) ix_tup (pv 0) pe_int (fun _ _ => rfl))) pa_nil)) pa_nil))))
        (pss_one (ps_if (pt_cmpR op_eq (pv 2) pe_str (nomark _)) (pss_one (ps_expr (pe_bm PySem.F.plainAttrs_list PySem.F.slot_list_append PySem.F.type_list_append mt_append (pv 3) (pa_cons (pe_lst (pa_cons (pe_ifExp (pt_cmpR op_eq (pe_op op_mod (pe_op op_sub (pv 5) (pe_ix (r := rIxT K) ix_tup (pv 0) pe_int (fun _ _ => rfl))) (pe_ix (r := rIxT K) ix_tup (pv 0) pe_int (fun _ _ => rfl))) pe_int (nomark _)) (pe_op op_add (pe_op op_mul (pe_ix (r := rIxT K) ix_tup (pv 0) pe_int (fun _ _ => rfl)) (pv 5)) (pe_ix (r := rIxT K) ix_tup (pv 0) pe_int (fun _ _ => rfl))) (pv 5)) pa_nil)) pa_nil))))
        (pss_one (ps_if (pt_cmpR op_eq (pv 2) pe_str (nomark _)) (pss_one (ps_expr (pe_bm PySem.F.plainAttrs_list PySem.F.slot_list_append PySem.F.type_list_append mt_append (pv 3) (pa_cons (pe_ifExp (pt_cmpR op_eq (pe_op op_mod (pe_op op_sub (pv 5) (pe_ix (r := rIxT K) ix_tup (pv 0) pe_int (fun _ _ => rfl))) (pe_ix (r := rIxT K) ix_tup (pv 0) pe_int (fun _ _ => rfl))) pe_int (nomark _)) (pe_lst (pa_cons (pv 5) pa_nil)) (pe_lst pa_nil)) pa_nil))))
        (pss_one (ps_if (pt_cmpR op_eq (pv 2) pe_str (nomark _)) (pss_one (ps_expr (pe_bm PySem.F.plainAttrs_list PySem.F.slot_list_append PySem.F.type_list_append mt_append (pv 3) (pa_cons (pe_ifExp (pt_cmpR op_eq (pe_op op_mod (pv 4) (pe_ix (r := rIxT K) ix_tup (pv 0) pe_int (fun _ _ => rfl))) (pe_ix (r := rIxT K) ix_tup (pv 0) pe_int (fun _ _ => rfl)) (nomark _)) (pe_lst (pa_cons (pv 5) pa_nil)) (pe_lst pa_nil)) pa_nil))))
        (pss_one (ps_if (pt_cmpR op_eq (pv 2) pe_str (nomark _)) (pss_one (ps_expr (pe_bm PySem.F.plainAttrs_list PySem.F.slot_list_append PySem.F.type_list_append mt_append (pv 3) (pa_cons (pe_lst (pa_cons (pv 5) (pa_cons (pv 5) pa_nil))) pa_nil))))
        (pss_one (ps_if (pt_cmpR op_eq (pv 2) pe_str (nomark _)) (pss_one (ps_expr (pe_bm PySem.F.plainAttrs_list PySem.F.slot_list_append PySem.F.type_list_append mt_append (pv 3) (pa_cons (pe_lst (pa_cons (pe_callB (cr_sum rfl) (by rfl) T.sum (by decide +kernel) (pa_cons (pe_slice sl_list (pv 1) po_none (po_some (pe_op op_add (pv 4) pe_int))) pa_nil)) pa_nil)) pa_nil))))
        (pss_one (ps_if (pt_cmpR op_eq (pv 2) pe_str (nomark _)) (pss_one (ps_expr (pe_bm PySem.F.plainAttrs_list PySem.F.slot_list_append PySem.F.type_list_append mt_append (pv 3) (pa_cons (pe_lst (pa_cons (pe_op op_sub (pv 5) (pe_ifExp (pt_cmp (pc_gt (pv 4) pe_int)) (pe_ix ix_list (pv 1) (pe_op op_sub (pv 4) pe_int) (fun _ _ => rfl)) pe_int)) pa_nil)) pa_nil))))
        (pss_one (ps_if (pt_cmpR op_eq (pv 2) pe_str (nomark _)) (pss_one (ps_expr (pe_bm PySem.F.plainAttrs_list PySem.F.slot_list_append PySem.F.type_list_append mt_append (pv 3) (pa_cons (pe_lst (pa_cons (pe_op op_add (pv 4) pe_int) pa_nil)) pa_nil))))
        (pss_one (ps_if (pt_cmpR op_eq (pv 2) pe_str (nomark _)) (pss_one (ps_expr (pe_bm PySem.F.plainAttrs_list PySem.F.slot_list_append PySem.F.type_list_append mt_append (pv 3) (pa_cons (pe_ifExp (pt_cmpR op_eq (pe_op op_mod (pe_op op_add (pv 4) pe_int) (pe_ix (r := rIxT K) ix_tup (pv 0) pe_int (fun _ _ => rfl))) pe_int (nomark _)) (pe_lst (pa_cons (pe_callB (cr_sum rfl) (by rfl) T.sum (by decide +kernel) (pa_cons (pe_slice sl_list (pv 1) (po_some (pe_op op_sub (pe_op op_add (pv 4) pe_int) (pe_ix (r := rIxT K) ix_tup (pv 0) pe_int (fun _ _ => rfl)))) (po_some (pe_op op_add (pv 4) pe_int))) pa_nil)) pa_nil)) (pe_lst pa_nil)) pa_nil))))
        (pss_cons (ps_set (i := 6) nd rfl (Or.inl rfl) (pe_callB (cr_max rfl) (by rfl) T.max (by decide +kernel) (pa_cons (pe_op op_cat (pe_lst (pa_cons pe_int pa_nil)) (pe_lc (own := [("_law_spot", 7)]) (g := gName 7) (by rfl) nd (pi_range1 (by rfl) T.range (pa_cons (pe_op op_add (pv 4) pe_int) pa_nil)) (blkOk_by (own := [("_law_spot", 7)]) (N := NT) (sc := defScope sThrough) (by decide +kernel)) (fun _ _ _ _ _ => pg_name (i := 7) nd rfl (Or.inl rfl))
            (fun _ _ _ _ _ => pts_one (pt_cmpR op_eq (pe_op op_mod (pe_op op_sub (pe_ix (r := rIxL K) ix_list (pv 1) (pv 7) (fun _ _ => rfl)) (pe_ix (r := rIxT K) ix_tup (pv 0) pe_int (fun _ _ => rfl))) (pe_ix (r := rIxT K) ix_tup (pv 0) pe_int (fun _ _ => rfl))) pe_int (nomark _))) (fun _ _ _ _ _ => pv 7))) pa_nil)))
          (pss_one (ps_expr (pe_bm PySem.F.plainAttrs_list PySem.F.slot_list_append PySem.F.type_list_append mt_append (pv 3) (pa_cons (pe_lst (pa_cons (pe_callB (cr_sum rfl) (by rfl) T.sum (by decide +kernel) (pa_cons (pe_slice sl_list (pv 1) (po_some (pv 6)) (po_some (pe_op op_add (pv 4) pe_int))) pa_nil)) pa_nil)) pa_nil))))))))))))))))))))))))
      (pss_one (ps_ret (pv 3)))), ?_⟩
    have hsl : 4000 < sizeLine := by decide
    have atE : ∀ (j : Nat) (v : V), p.v[j]? = some v → atI p.v (j : Int) = some v := fun j v e => atI_nat e
    refine ⟨_, rfl, b, p.v, 0, .str p.name, rfl, rfl, hb, atE 0 _ rfl, (by show 0 ≤ sizeLine; omega), fun l nl => ⟨_, _, rfl, ?_⟩⟩
    have s0 : Same H (upd H l (.lst [])) := same_upd (Same.refl H) nl
    refine ⟨_, rfl, a, ns.map V.int, rfl, sql_same s0 ha, for_it (walk_enum (K := K) (a := a) (xs := ns.map V.int)) (fun i σ H3 => (∃ v4 v5 v6 v7 : Option V, σ = [some (.ref b), some (.ref a), some (.str p.name), some (.ref l), v4, v5, v6, v7]) ∧ ThrI H l p ns i H3)
      ⟨⟨_, _, _, _, rfl⟩, s0, [], upd_same, rfl, fun j q e => by simp at e⟩ (fun i σ H3 _ ⟨_, s3, _⟩ => sql_same s3 ha) ?_ ?_⟩
    · rintro i v σ H3 H4 hi ⟨⟨v4, v5, v6, v7, rfl⟩, t3⟩ ⟨T', x1, x2, rfl, nT, rfl, h1, h2⟩
      have h1 : V.int (i : Nat) = x1 := Option.some.inj h1
      subst h1
      rw [List.length_map] at hi
      obtain ⟨x, hx⟩ : ∃ x, ns[i]? = some x := ⟨ns[i], List.getElem?_eq_getElem hi⟩
      have h2 : (ns.map V.int)[i]? = some x2 := h2
      rw [List.getElem?_map, hx] at h2
      have h2 : V.int x = x2 := Option.some.inj h2
      subst h2
      have t4 := t3.same (same_upd (o := .tup [.int (i : Nat), .int x]) (Same.refl H3) nT)
      refine ⟨T', [.int (i : Nat), .int x], rfl, SqT.of upd_same, rfl, ?_⟩
      generalize upd H3 T' (.tup [.int (i : Nat), .int x]) = H5 at t4 ⊢
      clear t3 nT
      have hb5 := sqt_same t4.1 hb
      have ha5 := sql_same t4.1 ha
      refine ⟨_, _, rfl, _, _, rfl, rfl, ?_⟩
      have hz : i < sizeLine := by omega
      obtain ⟨_, qs0, e0, _⟩ := id t4
      have et : ns.take (i + 1) = ns.take i ++ [x] := take_succ_get hx
      have lt : ((ns.take i).length : Int) = i := by rw [List.length_take, Nat.min_eq_left (Nat.le_of_lt hi)]
      have cutE : ∀ lo : Nat, cutV (ns.map V.int) (some (lo : Int)) (some ((i : Int) + 1)) = ((ns.take i ++ [x]).drop lo).map V.int := fun lo => by rw [← et]; exact cut_range hi lo
      have cutN : cutV (ns.map V.int) none (some ((i : Int) + 1)) = (ns.take i ++ [x]).map V.int := by rw [← et]; exact cut_take hi
      cases p with
      | line a1 b1 =>
        obtain ⟨a2, a3, _⟩ := hok
        refine ⟨_, rfl, rfl, _, rfl, ifEqS rfl ?_⟩
        refine ⟨_, rfl, .inl ⟨rfl, _, SqL.of e0⟩, _, rfl, b, _, 1, .int a1, rfl, rfl, hb5, atE 1 _ rfl, _, rfl, _, _, rfl, rfl, .inl ⟨by omega, by omega⟩, _, rfl, b, _, 2, .int b1, rfl, rfl, hb5, atE 2 _ rfl, _, _, rfl, rfl, (by show 1 ≤ sizeLine; omega), fun q nq => ?_⟩
        obtain ⟨qs, e1, e2, e3⟩ := t4.push nl hx nq (zs := [V.int (a1 * x + b1)]) (rfl)
        exact ⟨l, _, _, rfl, rfl, e1, by rw [List.length_map, e2]; exact hz, ⟨_, _, _, _, rfl⟩, e3⟩
      | twice =>
        refine ⟨_, rfl, rfl, _, rfl, ifNeS (show V.str "twice" ≠ V.str "line" by decide +kernel) ?_⟩
        refine ⟨_, rfl, rfl, _, rfl, ifNeS (show V.str "twice" ≠ V.str "turn" by decide +kernel) ?_⟩
        refine ⟨_, rfl, rfl, _, rfl, ifNeS (show V.str "twice" ≠ V.str "keep" by decide +kernel) ?_⟩
        refine ⟨_, rfl, rfl, _, rfl, ifNeS (show V.str "twice" ≠ V.str "every" by decide +kernel) ?_⟩
        refine ⟨_, rfl, rfl, _, rfl, ifEqS rfl ?_⟩
        refine ⟨_, rfl, .inl ⟨rfl, _, SqL.of e0⟩, _, rfl, _, rfl, (by show 2 ≤ sizeLine; omega), fun q nq => ?_⟩
        obtain ⟨qs, e1, e2, e3⟩ := t4.push nl hx nq (zs := [V.int x, V.int x]) (rfl)
        exact ⟨l, _, _, rfl, rfl, e1, by rw [List.length_map, e2]; exact hz, ⟨_, _, _, _, rfl⟩, e3⟩
      | count =>
        refine ⟨_, rfl, rfl, _, rfl, ifNeS (show V.str "count" ≠ V.str "line" by decide +kernel) ?_⟩
        refine ⟨_, rfl, rfl, _, rfl, ifNeS (show V.str "count" ≠ V.str "turn" by decide +kernel) ?_⟩
        refine ⟨_, rfl, rfl, _, rfl, ifNeS (show V.str "count" ≠ V.str "keep" by decide +kernel) ?_⟩
        refine ⟨_, rfl, rfl, _, rfl, ifNeS (show V.str "count" ≠ V.str "every" by decide +kernel) ?_⟩
        refine ⟨_, rfl, rfl, _, rfl, ifNeS (show V.str "count" ≠ V.str "twice" by decide +kernel) ?_⟩
        refine ⟨_, rfl, rfl, _, rfl, ifNeS (show V.str "count" ≠ V.str "sums" by decide +kernel) ?_⟩
        refine ⟨_, rfl, rfl, _, rfl, ifNeS (show V.str "count" ≠ V.str "gaps" by decide +kernel) ?_⟩
        refine ⟨_, rfl, rfl, _, rfl, ifEqS rfl ?_⟩
        refine ⟨_, rfl, .inl ⟨rfl, _, SqL.of e0⟩, _, rfl, _, _, rfl, rfl, (by show 1 ≤ sizeLine; omega), fun q nq => ?_⟩
        obtain ⟨qs, e1, e2, e3⟩ := t4.push nl hx nq (zs := [V.int ((i : Int) + 1)]) (by show _ = [V.int (((ns.take i).length : Int) + 1)]; rw [lt])
        exact ⟨l, _, _, rfl, rfl, e1, by rw [List.length_map, e2]; exact hz, ⟨_, _, _, _, rfl⟩, e3⟩
      | keep m r =>
        obtain ⟨hm, _, _⟩ := hok
        refine ⟨_, rfl, rfl, _, rfl, ifNeS (show V.str "keep" ≠ V.str "line" by decide +kernel) ?_⟩
        refine ⟨_, rfl, rfl, _, rfl, ifNeS (show V.str "keep" ≠ V.str "turn" by decide +kernel) ?_⟩
        refine ⟨_, rfl, rfl, _, rfl, ifEqS rfl ?_⟩
        refine ⟨_, rfl, .inl ⟨rfl, _, SqL.of e0⟩, _, rfl, _, rfl, b, _, 2, .int r, rfl, rfl, hb5, atE 2 _ rfl, _, _, rfl, rfl, _, rfl, b, _, 1, .int m, rfl, rfl, hb5, atE 1 _ rfl, _, _, rfl, rfl, (by show (0 : Int) < m; unfold two3 at hm; omega), rfl, _, rfl, ?_⟩
        by_cases hc : (x - r) % m = 0
        · refine ifEqS (congrArg V.int hc) ⟨_, rfl, (by show 1 ≤ sizeLine; omega), fun q nq => ?_⟩
          obtain ⟨qs, e1, e2, e3⟩ := t4.push nl hx nq (zs := [V.int x]) (by show _ = (if (x - r) % m = 0 then [x] else []).map V.int; rw [if_pos hc]; rfl)
          exact ⟨l, _, _, rfl, rfl, e1, by rw [List.length_map, e2]; exact hz, ⟨_, _, _, _, rfl⟩, e3⟩
        · refine ifNeS (fun z => hc (by injection z)) ⟨(by show 0 ≤ sizeLine; omega), fun q nq => ?_⟩
          obtain ⟨qs, e1, e2, e3⟩ := t4.push nl hx nq (zs := []) (by show _ = (if (x - r) % m = 0 then [x] else []).map V.int; rw [if_neg hc]; rfl)
          exact ⟨l, _, _, rfl, rfl, e1, by rw [List.length_map, e2]; exact hz, ⟨_, _, _, _, rfl⟩, e3⟩
      | every k1 r =>
        obtain ⟨hm, _, _⟩ := hok
        refine ⟨_, rfl, rfl, _, rfl, ifNeS (show V.str "every" ≠ V.str "line" by decide +kernel) ?_⟩
        refine ⟨_, rfl, rfl, _, rfl, ifNeS (show V.str "every" ≠ V.str "turn" by decide +kernel) ?_⟩
        refine ⟨_, rfl, rfl, _, rfl, ifNeS (show V.str "every" ≠ V.str "keep" by decide +kernel) ?_⟩
        refine ⟨_, rfl, rfl, _, rfl, ifEqS rfl ?_⟩
        refine ⟨_, rfl, .inl ⟨rfl, _, SqL.of e0⟩, _, rfl, _, rfl, b, _, 1, .int k1, rfl, rfl, hb5, atE 1 _ rfl, _, _, rfl, rfl, (by show (0 : Int) < k1; unfold two3 at hm; omega), _, rfl, b, _, 2, .int r, rfl, rfl, hb5, atE 2 _ rfl, rfl, _, rfl, ?_⟩
        by_cases hc : ((ns.take i).length : Int) % k1 = r
        · refine ifEqS (congrArg V.int (by rw [← lt]; exact hc)) ⟨_, rfl, (by show 1 ≤ sizeLine; omega), fun q nq => ?_⟩
          obtain ⟨qs, e1, e2, e3⟩ := t4.push nl hx nq (zs := [V.int x]) (by show _ = (if ((ns.take i).length : Int) % k1 = r then [x] else []).map V.int; rw [if_pos hc]; rfl)
          exact ⟨l, _, _, rfl, rfl, e1, by rw [List.length_map, e2]; exact hz, ⟨_, _, _, _, rfl⟩, e3⟩
        · refine ifNeS (fun z => hc (by rw [lt]; injection z)) ⟨(by show 0 ≤ sizeLine; omega), fun q nq => ?_⟩
          obtain ⟨qs, e1, e2, e3⟩ := t4.push nl hx nq (zs := []) (by show _ = (if ((ns.take i).length : Int) % k1 = r then [x] else []).map V.int; rw [if_neg hc]; rfl)
          exact ⟨l, _, _, rfl, rfl, e1, by rw [List.length_map, e2]; exact hz, ⟨_, _, _, _, rfl⟩, e3⟩
      | turn m r a1 b1 =>
        obtain ⟨hm, _, _, a2, a3, _⟩ := hok
        refine ⟨_, rfl, rfl, _, rfl, ifNeS (show V.str "turn" ≠ V.str "line" by decide +kernel) ?_⟩
        refine ⟨_, rfl, rfl, _, rfl, ifEqS rfl ?_⟩
        refine ⟨_, rfl, .inl ⟨rfl, _, SqL.of e0⟩, _, rfl, _, rfl, b, _, 2, .int r, rfl, rfl, hb5, atE 2 _ rfl, _, _, rfl, rfl, _, rfl, b, _, 1, .int m, rfl, rfl, hb5, atE 1 _ rfl, _, _, rfl, rfl, (by show (0 : Int) < m; unfold two3 at hm; omega), rfl, _, rfl, ?_⟩
        by_cases hc : (x - r) % m = 0
        · refine ifEqS (congrArg V.int hc) ⟨_, rfl, b, _, 3, .int a1, rfl, rfl, hb5, atE 3 _ rfl, _, rfl, _, _, rfl, rfl, .inl ⟨by omega, by omega⟩, _, rfl, b, _, 4, .int b1, rfl, rfl, hb5, atE 4 _ rfl, _, _, rfl, rfl, (by show 1 ≤ sizeLine; omega), fun q nq => ?_⟩
          obtain ⟨qs, e1, e2, e3⟩ := t4.push nl hx nq (zs := [V.int (a1 * x + b1)]) (by show _ = [V.int (if (x - r) % m = 0 then a1 * x + b1 else x)]; rw [if_pos hc])
          exact ⟨l, _, _, rfl, rfl, e1, by rw [List.length_map, e2]; exact hz, ⟨_, _, _, _, rfl⟩, e3⟩
        · refine ifNeS (fun z => hc (by injection z)) ⟨_, rfl, (by show 1 ≤ sizeLine; omega), fun q nq => ?_⟩
          obtain ⟨qs, e1, e2, e3⟩ := t4.push nl hx nq (zs := [V.int x]) (by show _ = [V.int (if (x - r) % m = 0 then a1 * x + b1 else x)]; rw [if_neg hc])
          exact ⟨l, _, _, rfl, rfl, e1, by rw [List.length_map, e2]; exact hz, ⟨_, _, _, _, rfl⟩, e3⟩
      | sums =>
        refine ⟨_, rfl, rfl, _, rfl, ifNeS (show V.str "sums" ≠ V.str "line" by decide +kernel) ?_⟩
        refine ⟨_, rfl, rfl, _, rfl, ifNeS (show V.str "sums" ≠ V.str "turn" by decide +kernel) ?_⟩
        refine ⟨_, rfl, rfl, _, rfl, ifNeS (show V.str "sums" ≠ V.str "keep" by decide +kernel) ?_⟩
        refine ⟨_, rfl, rfl, _, rfl, ifNeS (show V.str "sums" ≠ V.str "every" by decide +kernel) ?_⟩
        refine ⟨_, rfl, rfl, _, rfl, ifNeS (show V.str "sums" ≠ V.str "twice" by decide +kernel) ?_⟩
        refine ⟨_, rfl, rfl, _, rfl, ifEqS rfl ?_⟩
        refine ⟨_, rfl, .inl ⟨rfl, _, SqL.of e0⟩, _, rfl, _, rfl, _, _, rfl, rfl, _, rfl, a, _, rfl, ha5, fun s1 ns1 => ?_⟩
        rw [cutN]
        have t5 := t4.same (same_upd (o := .lst ((ns.take i ++ [x]).map V.int)) (Same.refl H5) ns1)
        refine ⟨s1, ns.take i ++ [x], rfl, SqL.of upd_same, (by show 1 ≤ sizeLine; omega), fun q nq => ?_⟩
        obtain ⟨qs, e1, e2, e3⟩ := t5.push nl hx nq (zs := [V.int (ns.take i ++ [x]).sum]) (rfl)
        exact ⟨l, _, _, rfl, rfl, e1, by rw [List.length_map, e2]; exact hz, ⟨_, _, _, _, rfl⟩, e3⟩
      | gaps =>
        refine ⟨_, rfl, rfl, _, rfl, ifNeS (show V.str "gaps" ≠ V.str "line" by decide +kernel) ?_⟩
        refine ⟨_, rfl, rfl, _, rfl, ifNeS (show V.str "gaps" ≠ V.str "turn" by decide +kernel) ?_⟩
        refine ⟨_, rfl, rfl, _, rfl, ifNeS (show V.str "gaps" ≠ V.str "keep" by decide +kernel) ?_⟩
        refine ⟨_, rfl, rfl, _, rfl, ifNeS (show V.str "gaps" ≠ V.str "every" by decide +kernel) ?_⟩
        refine ⟨_, rfl, rfl, _, rfl, ifNeS (show V.str "gaps" ≠ V.str "twice" by decide +kernel) ?_⟩
        refine ⟨_, rfl, rfl, _, rfl, ifNeS (show V.str "gaps" ≠ V.str "sums" by decide +kernel) ?_⟩
        refine ⟨_, rfl, rfl, _, rfl, ifEqS rfl ?_⟩
        refine ⟨_, rfl, .inl ⟨rfl, _, SqL.of e0⟩, _, rfl, _, rfl, _, _, rfl, rfl, _, rfl, ?_⟩
        by_cases hi0 : (i : Int) > 0
        · obtain ⟨y, hy⟩ : ∃ y, ns[i - 1]? = some y := ⟨ns[i - 1]'(by omega), List.getElem?_eq_getElem (by omega)⟩
          have hg : (ns.take i).getLastD 0 = y := by
            have e9 : i = (i - 1) + 1 := by omega
            rw [e9, take_succ_get hy]
            simp
          refine ifDec hi0 ⟨_, rfl, _, rfl, _, _, rfl, rfl, a, _, _, .int y, rfl, rfl, ha5, ?_, _, _, rfl, rfl, (by show 1 ≤ sizeLine; omega), fun q nq => ?_⟩
          · rw [show ((i : Int) - 1) = ((i - 1 : Nat) : Int) by omega]
            exact atI_nat (by rw [List.getElem?_map, hy]; rfl)
          · obtain ⟨qs, e1, e2, e3⟩ := t4.push nl hx nq (zs := [V.int (x - y)]) (by show _ = [V.int (x - (ns.take i).getLastD 0)]; rw [hg])
            exact ⟨l, _, _, rfl, rfl, e1, by rw [List.length_map, e2]; exact hz, ⟨_, _, _, _, rfl⟩, e3⟩
        · have hi1 : i = 0 := by omega
          subst hi1
          refine ifNDec hi0 ⟨_, _, rfl, rfl, (by show 1 ≤ sizeLine; omega), fun q nq => ?_⟩
          obtain ⟨qs, e1, e2, e3⟩ := t4.push nl hx nq (zs := [V.int (x - 0)]) (rfl)
          exact ⟨l, _, _, rfl, rfl, e1, by rw [List.length_map, e2]; exact hz, ⟨_, _, _, _, rfl⟩, e3⟩
      | groups k1 =>
        have hm : two3 k1 := hok
        refine ⟨_, rfl, rfl, _, rfl, ifNeS (show V.str "groups" ≠ V.str "line" by decide +kernel) ?_⟩
        refine ⟨_, rfl, rfl, _, rfl, ifNeS (show V.str "groups" ≠ V.str "turn" by decide +kernel) ?_⟩
        refine ⟨_, rfl, rfl, _, rfl, ifNeS (show V.str "groups" ≠ V.str "keep" by decide +kernel) ?_⟩
        refine ⟨_, rfl, rfl, _, rfl, ifNeS (show V.str "groups" ≠ V.str "every" by decide +kernel) ?_⟩
        refine ⟨_, rfl, rfl, _, rfl, ifNeS (show V.str "groups" ≠ V.str "twice" by decide +kernel) ?_⟩
        refine ⟨_, rfl, rfl, _, rfl, ifNeS (show V.str "groups" ≠ V.str "sums" by decide +kernel) ?_⟩
        refine ⟨_, rfl, rfl, _, rfl, ifNeS (show V.str "groups" ≠ V.str "gaps" by decide +kernel) ?_⟩
        refine ⟨_, rfl, rfl, _, rfl, ifNeS (show V.str "groups" ≠ V.str "count" by decide +kernel) ?_⟩
        refine ⟨_, rfl, rfl, _, rfl, ifEqS rfl ?_⟩
        refine ⟨_, rfl, .inl ⟨rfl, _, SqL.of e0⟩, _, rfl, _, _, rfl, rfl, _, rfl, b, _, 1, .int k1, rfl, rfl, hb5, atE 1 _ rfl, _, _, rfl, rfl, (by show (0 : Int) < k1; unfold two3 at hm; omega), rfl, _, rfl, ?_⟩
        have hc1 : (((ns.take i).length : Int) + 1) % k1 = 0 ↔ ((i : Int) + 1) % k1 = 0 := by rw [lt]
        by_cases hc : (((ns.take i).length : Int) + 1) % k1 = 0
        · refine ifEqS (congrArg V.int (hc1.mp hc)) ⟨_, rfl, _, rfl, _, _, rfl, rfl, _, rfl, b, _, 1, .int k1, rfl, rfl, hb5, atE 1 _ rfl, _, _, rfl, rfl, _, rfl, _, rfl, _, _, rfl, rfl, _, rfl, a, _, rfl, ha5, fun s1 ns1 => ?_⟩
          have h0 := hc1.mp hc
          have elo : ((i : Int) + 1 - k1) = (((ns.take i).length + 1 - k1.toNat : Nat) : Int) := by
            have hlt : (ns.take i).length = i := by omega
            rw [hlt]
            rcases hm with e | e
            · subst e
              omega
            · subst e
              omega
          rw [elo, cutE]
          have t5 := t4.same (same_upd (o := .lst (((ns.take i ++ [x]).drop ((ns.take i).length + 1 - k1.toNat)).map V.int)) (Same.refl H5) ns1)
          refine ⟨s1, (ns.take i ++ [x]).drop ((ns.take i).length + 1 - k1.toNat), rfl, SqL.of upd_same, (by show 1 ≤ sizeLine; omega), fun q nq => ?_⟩
          obtain ⟨qs, e1, e2, e3⟩ := t5.push nl hx nq (zs := [V.int ((ns.take i ++ [x]).drop ((ns.take i).length + 1 - k1.toNat)).sum]) (by show _ = (if (((ns.take i).length : Int) + 1) % k1 = 0 then [((ns.take i ++ [x]).drop ((ns.take i).length + 1 - k1.toNat)).sum] else []).map V.int; rw [if_pos hc]; rfl)
          exact ⟨l, _, _, rfl, rfl, e1, by rw [List.length_map, e2]; exact hz, ⟨_, _, _, _, rfl⟩, e3⟩
        · refine ifNeS (fun z => hc (hc1.mpr (by injection z))) ⟨(by show 0 ≤ sizeLine; omega), fun q nq => ?_⟩
          obtain ⟨qs, e1, e2, e3⟩ := t4.push nl hx nq (zs := []) (by show _ = (if (((ns.take i).length : Int) + 1) % k1 = 0 then [((ns.take i ++ [x]).drop ((ns.take i).length + 1 - k1.toNat)).sum] else []).map V.int; rw [if_neg hc]; rfl)
          exact ⟨l, _, _, rfl, rfl, e1, by rw [List.length_map, e2]; exact hz, ⟨_, _, _, _, rfl⟩, e3⟩
      | anew m r =>
        obtain ⟨hm, _, _⟩ := hok
        refine ⟨_, rfl, rfl, _, rfl, ifNeS (show V.str "anew" ≠ V.str "line" by decide +kernel) ?_⟩
        refine ⟨_, rfl, rfl, _, rfl, ifNeS (show V.str "anew" ≠ V.str "turn" by decide +kernel) ?_⟩
        refine ⟨_, rfl, rfl, _, rfl, ifNeS (show V.str "anew" ≠ V.str "keep" by decide +kernel) ?_⟩
        refine ⟨_, rfl, rfl, _, rfl, ifNeS (show V.str "anew" ≠ V.str "every" by decide +kernel) ?_⟩
        refine ⟨_, rfl, rfl, _, rfl, ifNeS (show V.str "anew" ≠ V.str "twice" by decide +kernel) ?_⟩
        refine ⟨_, rfl, rfl, _, rfl, ifNeS (show V.str "anew" ≠ V.str "sums" by decide +kernel) ?_⟩
        refine ⟨_, rfl, rfl, _, rfl, ifNeS (show V.str "anew" ≠ V.str "gaps" by decide +kernel) ?_⟩
        refine ⟨_, rfl, rfl, _, rfl, ifNeS (show V.str "anew" ≠ V.str "count" by decide +kernel) ?_⟩
        refine ⟨_, rfl, rfl, _, rfl, ifNeS (show V.str "anew" ≠ V.str "groups" by decide +kernel) ?_⟩
        have hPr : ∃ Pr : Nat → Bool, Pr = fun j => decide (((ns.take i ++ [x]).getD j 0 - r) % m = 0) := ⟨_, rfl⟩
        obtain ⟨Pr, ePr⟩ := hPr
        refine ⟨(by show 1 ≤ sizeLine; omega), fun z1 nz1 => ?_⟩
        have s6 := same_upd (o := .lst [V.int 0]) (Same.refl H5) nz1
        have ez1 : upd H5 z1 (.lst [V.int 0]) z1 = some (.lst [V.int 0]) := upd_same
        generalize upd H5 z1 (.lst [V.int 0]) = H6 at s6 ez1 ⊢
        refine ⟨_, rfl, _, _, rfl, rfl, (i : Int) + 1, rfl, by omega, by omega, fun D nD => ?_⟩
        refine lc_range (lo := 0) (n := ((i : Int) + 1).toNat) (fun j H7 => Same H6 H7 ∧ H7 D = some (.lst ((((List.range j).filter Pr).map Int.ofNat).map V.int))) ⟨same_upd (Same.refl H6) nD, upd_same⟩ ?_ ?_
        · rintro j H7 hj ⟨s7, e7⟩
          have s9 : Same H5 H7 := Same.trans s6 s7
          obtain ⟨y, hy⟩ : ∃ y, ns[j]? = some y := ⟨ns[j]'(by omega), List.getElem?_eq_getElem (by omega)⟩
          have hyD : (ns.take i ++ [x]).getD j 0 = y := by
            rw [← et, List.getD_eq_getElem?_getD, List.getElem?_take_of_lt (by omega), hy]
            rfl
          refine ⟨rfl, _, rfl, _, rfl, a, _, _, .int y, rfl, rfl, sql_same (Same.trans t4.1 s9) ha, by rw [Int.zero_add]; exact atI_nat (by rw [List.getElem?_map, hy]; rfl), _, rfl, b, _, 2, .int r, rfl, rfl, sqt_same (Same.trans t4.1 s9) hb, atE 2 _ rfl, _, _, rfl, rfl, _, rfl, b, _, 1, .int m, rfl, rfl, sqt_same (Same.trans t4.1 s9) hb, atE 1 _ rfl, _, _, rfl, rfl, (by show (0 : Int) < m; unfold two3 at hm; omega), rfl, _, rfl, ?_⟩
          have pj : Pr j = decide ((y - r) % m = 0) := by rw [ePr]; show decide (((ns.take i ++ [x]).getD j 0 - r) % m = 0) = _; rw [hyD]
          by_cases hc : (y - r) % m = 0
          · have ef : (List.range (j + 1)).filter Pr = (List.range j).filter Pr ++ [j] := by
              rw [List.range_succ, List.filter_append]
              simp [pj, hc]
            refine ifEqS (congrArg V.int hc) ⟨_, rfl, _, e7, ?_, ?_, ?_⟩
            · rw [List.length_map, List.length_map]
              have := List.length_filter_le Pr (List.range j)
              rw [List.length_range] at this
              omega
            · intro b1 o1 hb1
              have bD : b1 ≠ D := ne_of_none hb1 nD
              rw [upd_ne bD]
              exact s7 _ _ hb1
            · rw [upd_same, ef, Int.zero_add, List.map_append, List.map_append]
              rfl
          · have ef : (List.range (j + 1)).filter Pr = (List.range j).filter Pr := by
              rw [List.range_succ, List.filter_append]
              simp [pj, hc]
            refine ifNeS (fun z => hc (by injection z)) ⟨s7, ?_⟩
            rw [ef]
            exact e7
        · rintro H7 ⟨s7, e7⟩
          have s9 : Same H5 H7 := Same.trans s6 s7
          have ei : ((i : Int) + 1).toNat = i + 1 := by omega
          rw [ei] at e7
          have lf : ((List.range (i + 1)).filter Pr).length ≤ i + 1 := by
            have := List.length_filter_le Pr (List.range (i + 1))
            rwa [List.length_range] at this
          refine ⟨_, _, _, _, rfl, rfl, s7 _ _ ez1, e7, by rw [List.length_map, List.length_map]; show 1 + _ ≤ sizeLine; omega, fun z2 nz2 => ?_⟩
          refine ⟨z2, 0 :: ((List.range (i + 1)).filter Pr).map Int.ofNat, rfl, SqL.of upd_same, by simp, fun mx hm1 hm2 => ?_⟩
          have hmx := last_max hm1 hm2
          have hlh : ((List.range (i + 1)).filter Pr).getLastD 0 = lastHit m r (ns.take i ++ [x]) := by
            unfold lastHit
            rw [List.length_append, List.length_singleton, show (ns.take i).length + 1 = i + 1 by omega, ePr]
          rw [hlh] at hmx
          subst hmx
          have t7 := t4.same (Same.trans s9 (same_upd (o := .lst ([V.int 0] ++ (((List.range (i + 1)).filter Pr).map Int.ofNat).map V.int)) (Same.refl H7) nz2))
          generalize upd H7 z2 _ = H8 at t7 ⊢
          obtain ⟨_, qs1, f0, _⟩ := id t7
          refine ⟨_, rfl, .inl ⟨rfl, _, SqL.of f0⟩, _, rfl, _, rfl, _, rfl, _, rfl, _, _, rfl, rfl, _, rfl, a, _, rfl, sql_same t7.1 ha, fun s1 ns1 => ?_⟩
          rw [cutE]
          have t5 := t7.same (same_upd (o := .lst (((ns.take i ++ [x]).drop (lastHit m r (ns.take i ++ [x]))).map V.int)) (Same.refl H8) ns1)
          refine ⟨s1, (ns.take i ++ [x]).drop (lastHit m r (ns.take i ++ [x])), rfl, SqL.of upd_same, (by show 1 ≤ sizeLine; omega), fun q nq => ?_⟩
          obtain ⟨qs, e1, e2, e3⟩ := t5.push nl hx nq (zs := [V.int ((ns.take i ++ [x]).drop (lastHit m r (ns.take i ++ [x]))).sum]) (rfl)
          exact ⟨l, _, _, rfl, rfl, e1, by rw [List.length_map, e2]; exact hz, ⟨_, _, _, _, rfl⟩, e3⟩
    · rintro σ H3 ⟨⟨v4, v5, v6, v7, rfl⟩, s3, qs, e1, e2, e3⟩
      rw [List.length_map] at e2
      refine ⟨_, rfl, k l qs H3 s3 nl e1 ⟨by rw [p.each_length, e2], fun i q g hq hg => ?_⟩⟩
      obtain ⟨_, g', hg', e⟩ := e3 i q hq
      rw [hg] at hg'
      rw [Option.some.inj hg']
      exact e
end
end FC
set_option Elab.async false
set_option linter.all false
set_option maxRecDepth 100000
/-! Owners of numbers: the blocks back from one long list. -/
namespace FC
open PySem L2
def pick (s : Int) (ns os : List Int) : List Int := ((ns.zip os).filter fun p => decide (p.2 = s)).map (·.1)
theorem pick_snoc (s : Int) (ns os : List Int) (x o : Int) (h : ns.length = os.length) : pick s (ns ++ [x]) (os ++ [o]) = pick s ns os ++ if o = s then [x] else [] := by
  unfold pick
  rw [List.zip_append h, List.filter_append, List.map_append]
  congr 1
  by_cases e : o = s
  · simp [e]
  · simp [e]
theorem pick_append (s : Int) (ns os ms ps : List Int) (h : ns.length = os.length) : pick s (ns ++ ms) (os ++ ps) = pick s ns os ++ pick s ms ps := by
  unfold pick
  rw [List.zip_append h, List.filter_append, List.map_append]
theorem pick_rep (s o : Int) (b : List Int) : pick s b (List.replicate b.length o) = if o = s then b else [] := by
  induction b with
  | nil => simp [pick]
  | cons x r ih =>
    have e : pick s (x :: r) (List.replicate (r.length + 1) o) = pick s [x] [o] ++ pick s r (List.replicate r.length o) := by
      rw [← pick_append s [x] [o] _ _ rfl, List.replicate_succ]
      rfl
    rw [List.length_cons, e, ih]
    by_cases h : o = s
    · simp [pick, h]
    · simp [pick, h]
theorem owners_len : ∀ (bs : List (List Int)) (k : Nat), (ownersOf k bs).length = bs.flatten.length
  | [], _ => rfl
  | b :: r, k => by
    show (List.replicate b.length (k : Int) ++ ownersOf (k + 1) r).length = (b ++ r.flatten).length
    rw [List.length_append, List.length_append, List.length_replicate, owners_len r]
theorem pick_low : ∀ (bs : List (List Int)) (k : Nat) (s : Int), s < k → pick s bs.flatten (ownersOf k bs) = []
  | [], _, _, _ => rfl
  | b :: r, k, s, h => by
    show pick s (b ++ r.flatten) (List.replicate b.length (k : Int) ++ ownersOf (k + 1) r) = []
    rw [pick_append _ _ _ _ _ (by rw [List.length_replicate]), pick_rep, if_neg (by omega), pick_low r (k + 1) s (by omega)]
    rfl
theorem pick_block : ∀ (bs : List (List Int)) (k i : Nat) (b : List Int), bs[i]? = some b → pick ((k + i : Nat) : Int) bs.flatten (ownersOf k bs) = b
  | [], _, _, _, h => by simp at h
  | c :: r, k, 0, b, h => by
    have h : c = b := by simpa using h
    subst h
    show pick ((k + 0 : Nat) : Int) (c ++ r.flatten) (List.replicate c.length (k : Int) ++ ownersOf (k + 1) r) = c
    rw [pick_append _ _ _ _ _ (by rw [List.length_replicate]), pick_rep, if_pos (by omega), pick_low r (k + 1) _ (by omega), List.append_nil]
  | c :: r, k, i + 1, b, h => by
    have h : r[i]? = some b := by simpa using h
    show pick ((k + (i + 1) : Nat) : Int) (c ++ r.flatten) (List.replicate c.length (k : Int) ++ ownersOf (k + 1) r) = b
    rw [pick_append _ _ _ _ _ (by rw [List.length_replicate]), pick_rep, if_neg (by omega), List.nil_append]
    have := pick_block r (k + 1) i b h
    rwa [show k + 1 + i = k + (i + 1) by omega] at this
/-- the owners behind a step -/
def spread (os : List Int) (gs : List (List Int)) : List Int := (List.zipWith (fun o (g : List Int) => List.replicate g.length o) os gs).flatten
theorem spread_snoc (os : List Int) (gs : List (List Int)) (o : Int) (g : List Int) (h : os.length = gs.length) : spread (os ++ [o]) (gs ++ [g]) = spread os gs ++ List.replicate g.length o := by
  unfold spread
  rw [List.zipWith_append h, List.flatten_append]
  simp
theorem spread_rep (o : Int) : ∀ gs : List (List Int), spread (List.replicate gs.length o) gs = List.replicate gs.flatten.length o
  | [] => rfl
  | g :: r => by
    have := spread_rep o r
    unfold spread at this ⊢
    rw [List.length_cons, List.replicate_succ, List.zipWith_cons_cons, List.flatten_cons, this, List.flatten_cons, List.length_append, List.replicate_append_replicate]
theorem spread_append (os ps : List Int) (gs hs : List (List Int)) (h : os.length = gs.length) : spread (os ++ ps) (gs ++ hs) = spread os gs ++ spread ps hs := by
  unfold spread
  rw [List.zipWith_append h, List.flatten_append]
theorem spread_len : ∀ (os : List Int) (gs : List (List Int)), os.length = gs.length → (spread os gs).length = gs.flatten.length
  | [], [], _ => rfl
  | o :: os, g :: gs, h => by
    have ih := spread_len os gs (by simpa using h)
    unfold spread at ih ⊢
    rw [List.zipWith_cons_cons, List.flatten_cons, List.flatten_cons, List.length_append, List.length_append, ih, List.length_replicate]
  | [], _ :: _, h => by simp at h
  | _ :: _, [], h => by simp at h
theorem spread_blocks (p : Stp) : ∀ (bs : List (List Int)) (k : Nat) (pre : List Int), spread (ownersOf k bs) (p.each pre bs.flatten) = ownersOf k (blkStep p pre bs)
  | [], _, _ => rfl
  | b :: r, k, pre => by
    show spread (List.replicate b.length (k : Int) ++ ownersOf (k + 1) r) (p.each pre (b ++ r.flatten)) = List.replicate (p.outs pre b).length (k : Int) ++ ownersOf (k + 1) (blkStep p (pre ++ b) r)
    rw [Stp.each_append, spread_append _ _ _ _ (by rw [List.length_replicate, p.each_length]), spread_blocks p r]
    have := spread_rep (k : Int) (p.each pre b)
    rw [p.each_length] at this
    rw [this]
    rfl
theorem owners_start : ∀ (row : List Int) (k : Nat), ownersOf k (row.map fun x => [x]) = (List.range row.length).map fun i => ((k + i : Nat) : Int)
  | [], _ => rfl
  | x :: r, k => by
    show List.replicate 1 (k : Int) ++ ownersOf (k + 1) (r.map fun x => [x]) = _
    rw [owners_start r, List.length_cons, List.range_succ_eq_map, List.map_cons, List.map_map]
    show (k : Int) :: _ = ((k + 0 : Nat) : Int) :: _
    congr 1
    refine List.map_congr_left fun i _ => ?_
    show ((k + 1 + i : Nat) : Int) = ((k + (i + 1) : Nat) : Int)
    omega
end FC
set_option Elab.async false
set_option linter.all false
set_option maxRecDepth 100000
set_option maxHeartbeats 4000000
namespace FC
open PySem L2
abbrev NG : List Str := ["_law_chain_here", "_law_row", "_law_numbers", "_law_owners", "_law_step_here", "_law_some", "_law_places", "_law_at", "_law_given_here", "_law_spot", "_law_x"]
/-- at c stands a tuple of these steps -/
def StpsAt (K : PySem.W.Frag) (H : Hp) (c : Addr) (ps : List Stp) : Prop := ∃ xs : List V, SqT K H c xs ∧ xs.length = ps.length ∧ ∀ (i : Nat) (x : V) (p : Stp), xs[i]? = some x → ps[i]? = some p → ∃ b, x = .ref b ∧ SqT K H b p.v
def TupsAt (H : Hp) (qs : List Addr) (gs : List (List Int)) : Prop := qs.length = gs.length ∧ ∀ (i : Nat) (q : Addr) (g : List Int), qs[i]? = some q → gs[i]? = some g → H q = some (.tup (g.map V.int))
def spGiven (K : PySem.W.Frag) : Sp := fun vs H Q _ => ∃ (c r : Addr) (ps : List Stp) (row : List Int), vs = [.ref c, .ref r] ∧ StpsAt K H c ps ∧ (∀ p ∈ ps, p.ok) ∧ ps.length ≤ 4 ∧ SqT K H r (row.map V.int) ∧ row.length ≤ 200 ∧
  ∀ (l : Addr) (qs : List Addr) H', Same H H' → H l = none → H' l = some (.lst (qs.map V.ref)) → TupsAt H' qs (givenB ps row) → Q (.ref l) H'
/-- the numbers of one owner -/
def tPick (K : PySem.W.Frag) : TE := fun σ H Q => ∃ (v0 v1 v4 v5 v6 v7 v8 v10 : Option V) (a2 a3 : Addr) (s : Int) (ns os : List Int), σ = [v0, v1, some (.ref a2), some (.ref a3), v4, v5, v6, v7, v8, some (.int s), v10] ∧ SqL K H a2 (ns.map V.int) ∧ SqL K H a3 (os.map V.int) ∧ ns.length = os.length ∧ ns.length ≤ 4000 ∧
  ∀ T H', Same H H' → H' T = some (.tup ((pick s ns os).map V.int)) → H T = none → Q (.ref T) H'
section
variable {P : Program} {w : World} {K : PySem.W.Frag} {mg : Str → Option Value} {base : Heap}
theorem scGiven : FnScope NG ["_law_chain_here", "_law_row"] (defScope sGiven) := ⟨rfl, rfl, rfl, by decide +kernel, rfl, by decide +kernel, by decide +kernel⟩
theorem pick_reads {X : Cx} (hK : X.K = K := by rfl) : ∀ (σ : L2.St) (H : Hp) (Q : VK), tPick K σ H Q → tCB (fun xs H Q => ∃ p ys, xs = [.ref p] ∧ ((SqL X.K H p ys ∧ ∀ l, H l = none → Q (.ref l) (upd H l (.tup ys))) ∨ (SqT X.K H p ys ∧ Q (.ref p) H)))
    (tCons (tLc (iEnum X.K (tCons (tVar 2) tNil)) (gTup K 2 (gCons (gName 7) (gCons (gName 10) gNil))) (tTest (tOp rEq (tOp (rIxL K) (tVar 3) (tVar 7)) (tVar 9))) (tVar 10) [7, 10]) tNil) σ H Q := by
  subst hK
  rintro σ H Q ⟨v0, v1, v4, v5, v6, v7, v8, v10, a2, a3, sp, ns, os, rfl, h2, h3, hl, hn, k⟩
  have hsl : 4000 < sizeLine := by decide
  refine ⟨_, rfl, a2, ns.map V.int, rfl, h2, fun D nD => ?_⟩
  refine lc_it (walk_enum (K := X.K) (a := a2) (xs := ns.map V.int)) (fun j H3 => Same H H3 ∧ H3 D = some (.lst ((pick sp (ns.take j) (os.take j)).map V.int))) ⟨same_upd (Same.refl H) nD, upd_same⟩ (fun j H3 _ ⟨s3, _⟩ => sql_same s3 h2) ?_ ?_
  · rintro j v H3 H4 hj ⟨s3, e3⟩ ⟨T', x1, x2, rfl, nT, rfl, g1, g2⟩
    have g1 : V.int (j : Nat) = x1 := Option.some.inj g1
    subst g1
    rw [List.length_map] at hj
    obtain ⟨x, hx⟩ : ∃ x, ns[j]? = some x := ⟨ns[j], List.getElem?_eq_getElem hj⟩
    obtain ⟨o, ho⟩ : ∃ o, os[j]? = some o := ⟨os[j]'(by omega), List.getElem?_eq_getElem (by omega)⟩
    have g2 : (ns.map V.int)[j]? = some x2 := g2
    rw [List.getElem?_map, hx] at g2
    have g2 : V.int x = x2 := Option.some.inj g2
    subst g2
    have s4 := same_upd (o := .tup [.int (j : Nat), .int x]) s3 nT
    have e4 : upd H3 T' (.tup [.int (j : Nat), .int x]) D = _ := (upd_ne (ne_of_none e3 nT)).trans e3
    have ep : pick sp (ns.take (j + 1)) (os.take (j + 1)) = pick sp (ns.take j) (os.take j) ++ if o = sp then [x] else [] := by
      rw [take_succ_get hx, take_succ_get ho]
      exact pick_snoc _ _ _ _ _ (by rw [List.length_take, List.length_take, hl])
    refine ⟨T', [.int (j : Nat), .int x], rfl, SqT.of upd_same, rfl, _, _, rfl, _, _, rfl, rfl, rfl, _, rfl, _, rfl, a3, _, _, .int o, rfl, rfl, sql_same s4 h3, atI_nat (by rw [List.getElem?_map, ho]; rfl), _, rfl, rfl, _, rfl, ?_⟩
    by_cases hc : o = sp
    · refine ifEqS (congrArg V.int hc) ⟨_, rfl, _, e4, ?_, ?_, ?_⟩
      · rw [List.length_map]
        have : (pick sp (ns.take j) (os.take j)).length ≤ 4000 := by
          unfold pick
          rw [List.length_map]
          refine Nat.le_trans (List.length_filter_le _ _) ?_
          rw [List.length_zip, List.length_take, List.length_take]
          omega
        omega
      · intro b1 o1 hb1
        rw [upd_ne (ne_of_none hb1 nD)]
        exact s4 _ _ hb1
      · rw [upd_same, ep, if_pos hc, List.map_append]
        rfl
    · refine ifNeS (fun z => hc (by injection z)) ⟨s4, ?_⟩
      rw [ep, if_neg hc, List.append_nil]
      exact e4
  · rintro H3 ⟨s3, e3⟩
    rw [List.length_map, List.take_length, show ns.length = os.length from hl, List.take_length] at e3
    exact ⟨D, _, rfl, .inl ⟨SqL.of e3, fun l nl => k l _ (same_upd s3 nl) upd_same (by
      cases q : H l with
      | none => rfl
      | some o =>
        rw [s3 _ _ q] at nl
        cases nl)⟩⟩
theorem ok_given {f : Addr} {fd : FuncData} (F : Fun K "_law_given" "_law_given" sGiven f fd) (T : Blt mg) (T2 : Blt2 mg) (CT : Cal P w K mg base CX0 1 "_law_through" ["_law_step_here", "_law_numbers"] (spThrough K)) :
    FnOk P w K mg base CX0 2 f fd ["_law_chain_here", "_law_row"] (spGiven K) := by
  refine F.ok scGiven (fun vs H Q E h => ?_) (fun cdv A outer s H vs Q E hr h => ?_)
  · obtain ⟨c, r, ps, row, rfl, _⟩ := h
    rfl
  · obtain ⟨c, r, ps, row, rfl, hc, hok, hp4, hrow, hl, k⟩ := h
    have nd := scGiven.nd
    refine ⟨_, PSs.nox (pss_cons (ps_asg (pe_tup (pa_cons (pe_callTy call_list_of (by rfl) T2.list (by decide +kernel) (pa_cons (pv 1) pa_nil)) (pa_cons (pe_listRg rfl (by rfl) T2.list (prg_1 (by rfl) T.range (pe_callB call_len (by rfl) T.len PySem.boot_len (pa_cons (pv 1) pa_nil)))) pa_nil)))
        (pg_tup rfl (pgs_cons (pg_name (i := 2) nd rfl (Or.inr rfl)) (pgs_cons (pg_name (i := 3) nd rfl (Or.inr rfl)) pgs_nil))))
    (pss_cons (ps_for PassesOwn.never rfl (pi_tup (pv 0)) (pg_name (i := 4) nd rfl (Or.inl rfl))
      (pss_cons (ps_par (i := 5) (j := 6) (by rfl) nd rfl rfl (by decide) rfl rfl (pa_cons (pe_lst pa_nil) (pa_cons (pe_lst pa_nil) pa_nil)) (by rfl))
      (pss_cons (ps_for PassesOwn.never rfl (pi_enum (by rfl) T2.enumerate (pa_cons (pe_cal CT hr pass0 (pa_cons (pv 4) (pa_cons (pv 2) pa_nil))) pa_nil)) (pg_tup rfl (pgs_cons (pg_name (i := 7) nd rfl (Or.inl rfl)) (pgs_cons (pg_name (i := 8) nd rfl (Or.inl rfl)) pgs_nil)))
        (pss_cons (ps_set (i := 5) nd rfl (Or.inl rfl) (pe_op op_cat (pv 5) (pv 8)))
        (pss_one (ps_set (i := 6) nd rfl (Or.inl rfl) (pe_op op_cat (pv 6) (pe_op op_rep (pe_lst (pa_cons (pe_ix ix_list (pv 3) (pv 7) (fun _ _ => rfl)) pa_nil)) (pe_callB call_len (by rfl) T.len PySem.boot_len (pa_cons (pv 8) pa_nil))))))))
      (pss_one (ps_asg (pe_tup (pa_cons (pv 5) (pa_cons (pv 6) pa_nil))) (pg_tup rfl (pgs_cons (pg_name (i := 2) nd rfl (Or.inr rfl)) (pgs_cons (pg_name (i := 3) nd rfl (Or.inr rfl)) pgs_nil))))))))
    (pss_one (ps_ret (pe_lc (own := [("_law_spot", 9)]) (g := gName 9) (tt := tYes) (te := tPick K) (by rfl) nd (pi_range1 (by rfl) T.range (pa_cons (pe_callB call_len (by rfl) T.len PySem.boot_len (pa_cons (pv 1) pa_nil)) pa_nil)) (blkOk_by (own := [("_law_spot", 9)]) (N := NG) (sc := defScope sGiven) (by decide +kernel)) (fun _ _ _ _ _ => pg_name (i := 9) nd rfl (Or.inr rfl))
      (fun _ _ _ _ _ => pts_nil) (fun _ _ _ _ _ => pe_as (t' := tPick K) (pe_callTy call_tuple_of (by rfl) T.tuple (by decide +kernel) (pa_cons (pe_lc (own := [("_law_at", 7), ("_law_x", 10)]) (g := gTup K 2 (gCons (gName 7) (gCons (gName 10) gNil))) (by rfl) nd (pi_enum (by rfl) T2.enumerate (pa_cons (pv 2) pa_nil)) (blkOk_by (own := [("_law_at", 7), ("_law_x", 10)]) (N := NG) (by kernel_rfl))
          (fun _ _ _ _ _ => pg_tup rfl (pgs_cons (pg_name (i := 7) nd rfl (Or.inl rfl)) (pgs_cons (pg_name (i := 10) nd rfl (Or.inl rfl)) pgs_nil))) (fun _ _ _ _ _ => pts_one (pt_cmpR op_eq (pe_ix (r := rIxL K) ix_list (pv 3) (pv 7) (fun _ _ => rfl)) (pv 9) (nomark _))) (fun _ _ _ _ _ => pv 10)) pa_nil)) pick_reads)))))), ?_⟩
    have hsl : 4000 < sizeLine := by decide
    refine ⟨_, rfl, r, row.map V.int, rfl, .inr hrow, fun l1 n1 => ?_⟩
    have e1 : upd H l1 (.lst (row.map V.int)) l1 = some (.lst (row.map V.int)) := upd_same
    have s1 := same_upd (o := .lst (row.map V.int)) (Same.refl H) n1
    generalize upd H l1 (.lst (row.map V.int)) = H1 at e1 s1 ⊢
    have hr1 := sqt_same s1 hrow
    refine ⟨_, rfl, .ref r, (row.map V.int).length, rfl, .inr ⟨_, hr1, rfl⟩, _, rfl, RgOk.of_le (by decide) (by rw [List.length_map]; omega) (by decide) (by omega), fun l2 n2 => ?_⟩
    have eO : rgV 0 ((row.map V.int).length : Nat) = (ownersOf 0 (row.map fun x => [x])).map V.int := by
      rw [owners_start, List.map_map, List.length_map]
      unfold rgV
      rw [Int.sub_zero, Int.toNat_natCast]
      refine List.map_congr_left fun i _ => ?_
      show V.int (0 + (i : Int)) = V.int ((0 + i : Nat) : Int)
      rw [Int.zero_add, Nat.zero_add]
    rw [eO]
    have e2 : upd H1 l2 (.lst ((ownersOf 0 (row.map fun x => [x])).map V.int)) l2 = some (.lst ((ownersOf 0 (row.map fun x => [x])).map V.int)) := upd_same
    have s2 := same_upd (o := .lst ((ownersOf 0 (row.map fun x => [x])).map V.int)) s1 n2
    have e1' : upd H1 l2 (.lst ((ownersOf 0 (row.map fun x => [x])).map V.int)) l1 = some (.lst (row.map V.int)) := (upd_ne (ne_of_none e1 n2)).trans e1
    generalize upd H1 l2 (.lst ((ownersOf 0 (row.map fun x => [x])).map V.int)) = H2 at e2 s2 e1' ⊢
    refine ⟨(by show 2 ≤ sizeLine; omega), fun t1 nt1 => ⟨t1, [.ref l1, .ref l2], rfl, SqT.of upd_same, rfl, _, _, rfl, _, _, rfl, rfl, ?_⟩⟩
    have s3 := same_upd (o := .tup [V.ref l1, .ref l2]) s2 nt1
    have e3 : upd H2 t1 (.tup [V.ref l1, .ref l2]) l1 = some (.lst ((row.map fun x => [x]).flatten.map V.int)) := by
      rw [sing_flat]
      exact (upd_ne (ne_of_none e1' nt1)).trans e1'
    have e4 : upd H2 t1 (.tup [V.ref l1, .ref l2]) l2 = some (.lst ((ownersOf 0 (row.map fun x => [x])).map V.int)) := (upd_ne (ne_of_none e2 nt1)).trans e2
    generalize upd H2 t1 (.tup [V.ref l1, .ref l2]) = H3 at s3 e3 e4 ⊢
    clear e1 s1 hr1 e2 s2 e1' eO n1 n2 nt1
    obtain ⟨xs, hxs, hxl, hat⟩ := hc
    refine ⟨_, rfl, c, rfl, ⟨_, sqt_same s3 hxs⟩, for_tup (K := K) (a := c) (xs := xs) (fun i σ H4 => ∃ (a2 a3 : Addr) (v4 v5 v6 v7 v8 v9 v10 : Option V), σ = [some (.ref c), some (.ref r), some (.ref a2), some (.ref a3), v4, v5, v6, v7, v8, v9, v10] ∧ Same H H4 ∧
        H4 a2 = some (.lst ((givenB (ps.take i) row).flatten.map V.int)) ∧ H4 a3 = some (.lst ((ownersOf 0 (givenB (ps.take i) row)).map V.int)))
      ⟨l1, l2, none, none, none, none, none, none, none, rfl, s3, e3, e4⟩ (fun i σ H4 _ ⟨_, _, _, _, _, _, _, _, _, _, s4, _⟩ => sqt_same s4 hxs) ?_ ?_⟩
    · clear s3 e3 e4 H3 l1 l2 t1 H1 H2
      rintro i x σ H4 hx ⟨a2, a3, v4, v5, v6, v7, v8, v9, v10, rfl, s4, e2, e3⟩
      have hi : i < ps.length := by
        rw [← hxl]
        exact get_lt hx
      obtain ⟨p, hp⟩ : ∃ p, ps[i]? = some p := ⟨ps[i], List.getElem?_eq_getElem hi⟩
      obtain ⟨b, rfl, hb⟩ := hat i x p hx hp
      have hpok := hok p (List.mem_of_getElem? hp)
      have hbs : ∃ bs, bs = givenB (ps.take i) row := ⟨_, rfl⟩
      obtain ⟨bs, ebs⟩ := hbs
      have enext : givenB (ps.take (i + 1)) row = blkStep p [] bs := by
        rw [take_succ_get hp, ebs]
        unfold givenB
        rw [List.foldl_append]
        rfl
      have hnl : bs.flatten.length ≤ 1600 := by
        rw [ebs]
        have h1 := run_len (ps.take i) row
        have h2 : (ps.take i).length ≤ 3 := by
          rw [List.length_take]
          omega
        have h3 : 2 ^ (ps.take i).length ≤ 2 ^ 3 := Nat.pow_le_pow_right (by decide) h2
        have h4 : 2 ^ (ps.take i).length * row.length ≤ 2 ^ 3 * 200 := Nat.mul_le_mul h3 hl
        show (runM (ps.take i) row).length ≤ 1600
        omega
      rw [← ebs] at e2 e3
      rw [enext]
      clear hx hp enext ebs
      refine ⟨(by show 0 ≤ sizeLine; omega), fun m1 nm1 => ⟨(by show 0 ≤ sizeLine; omega), fun m2 nm2 => ⟨_, _, rfl, ?_⟩⟩⟩
      have sA := same_upd (o := .lst []) (same_upd (o := .lst []) (Same.refl H4) nm1) nm2
      have f1 : upd (upd H4 m1 (.lst [])) m2 (.lst []) m1 = some (.lst []) := (upd_ne (ne_of_none (show upd H4 m1 (.lst []) m1 = some (.lst []) from upd_same) nm2)).trans upd_same
      have f2 : upd (upd H4 m1 (.lst [])) m2 (.lst []) m2 = some (.lst []) := upd_same
      generalize upd (upd H4 m1 (.lst [])) m2 (.lst []) = H5 at sA f1 f2 ⊢
      clear nm1 nm2
      refine ⟨_, rfl, _, rfl, b, a2, p, bs.flatten, rfl, sqt_same (Same.trans s4 sA) hb, hpok, SqL.of (sA _ _ e2), by omega, fun l qs H6 s6 nl el hrows => ?_⟩
      have hql := hrows.1
      rw [p.each_length] at hql
      have hol : (ownersOf 0 bs).length = bs.flatten.length := owners_len bs 0
      have hel := p.each_length bs.flatten []
      refine ⟨l, qs.map V.ref, rfl, SqL.of el, for_it (walk_enum (K := K) (a := l) (xs := qs.map V.ref)) (fun j σ H7 => ∃ (a5 a6 : Addr) (v7 v8 : Option V), σ = [some (.ref c), some (.ref r), some (.ref a2), some (.ref a3), some (.ref b), some (.ref a5), some (.ref a6), v7, v8, v9, v10] ∧ Same H6 H7 ∧
          H7 a5 = some (.lst (((p.each [] bs.flatten).take j).flatten.map V.int)) ∧ H7 a6 = some (.lst ((spread ((ownersOf 0 bs).take j) ((p.each [] bs.flatten).take j)).map V.int)))
        ⟨m1, m2, _, _, rfl, Same.refl H6, s6 _ _ f1, s6 _ _ f2⟩ (fun j σ H7 _ ⟨_, _, _, _, _, s7, _⟩ => SqL.of (s7 _ _ el)) ?_ ?_⟩
      · rintro j v σ H7 H8 hj ⟨a5, a6, v7, v8, rfl, s7, e5, e6⟩ ⟨T', x1, x2, rfl, nT, rfl, g1, g2⟩
        have g1 : V.int (j : Nat) = x1 := Option.some.inj g1
        subst g1
        rw [List.length_map] at hj
        obtain ⟨q, hq⟩ : ∃ q, qs[j]? = some q := ⟨qs[j], List.getElem?_eq_getElem hj⟩
        have g2 : (qs.map V.ref)[j]? = some x2 := g2
        rw [List.getElem?_map, hq] at g2
        have g2 : V.ref q = x2 := Option.some.inj g2
        subst g2
        obtain ⟨g, hg⟩ : ∃ g, (p.each [] bs.flatten)[j]? = some g := ⟨(p.each [] bs.flatten)[j]'(by omega), List.getElem?_eq_getElem (by omega)⟩
        obtain ⟨o, ho⟩ : ∃ o, (ownersOf 0 bs)[j]? = some o := ⟨(ownersOf 0 bs)[j]'(by omega), List.getElem?_eq_getElem (by omega)⟩
        have hg2 : g.length ≤ 2 := p.each_mem _ _ g (List.mem_of_getElem? hg)
        have eq7 := s7 _ _ (hrows.2 j q g hq hg)
        have l5 : ((p.each [] bs.flatten).take j).flatten.length ≤ 2 * 1600 := by
          refine Nat.le_trans (flat_len (n := 2) fun z hz => p.each_mem _ _ z (List.mem_of_mem_take hz)) ?_
          rw [List.length_take]
          omega
        have l6 : (spread ((ownersOf 0 bs).take j) ((p.each [] bs.flatten).take j)).length ≤ 2 * 1600 := by
          rw [spread_len _ _ (by rw [List.length_take, List.length_take]; omega)]
          exact l5
        have t5 : (p.each [] bs.flatten).take (j + 1) = (p.each [] bs.flatten).take j ++ [g] := take_succ_get hg
        have t6 : (ownersOf 0 bs).take (j + 1) = (ownersOf 0 bs).take j ++ [o] := take_succ_get ho
        have sB := same_upd (o := .tup [.int (j : Nat), .ref q]) (Same.refl H7) nT
        refine ⟨T', [.int (j : Nat), .ref q], rfl, SqT.of upd_same, rfl, _, _, rfl, _, _, rfl, rfl, ?_⟩
        generalize upd H7 T' (.tup [.int (j : Nat), .ref q]) = H9 at sB ⊢
        refine ⟨_, rfl, _, rfl, _, _, _, _, rfl, rfl, sB _ _ e5, sB _ _ eq7, (by rw [List.length_map, List.length_map]; omega), fun m3 nm3 => ?_⟩
        have sC := same_upd (o := .lst (((p.each [] bs.flatten).take j).flatten.map V.int ++ g.map V.int)) sB nm3
        have f5 : upd H9 m3 (.lst (((p.each [] bs.flatten).take j).flatten.map V.int ++ g.map V.int)) m3 = some (.lst (((p.each [] bs.flatten).take (j + 1)).flatten.map V.int)) := by
          rw [upd_same, t5, List.flatten_append, List.map_append]
          simp
        generalize upd H9 m3 (.lst (((p.each [] bs.flatten).take j).flatten.map V.int ++ g.map V.int)) = HA at sC f5 ⊢
        refine ⟨_, rfl, _, rfl, _, rfl, a3, _, _, .int o, rfl, rfl, SqL.of (sC _ _ (s7 _ _ (s6 _ _ (sA _ _ e3)))), atI_nat (by rw [List.getElem?_map, ho]; rfl), (by show 1 ≤ sizeLine; omega), fun m4 nm4 => ?_⟩
        have sD := same_upd (o := .lst [V.int o]) sC nm4
        have f5' : upd HA m4 (.lst [V.int o]) m3 = _ := (upd_ne (ne_of_none f5 nm4)).trans f5
        have f6 : upd HA m4 (.lst [V.int o]) m4 = some (.lst [V.int o]) := upd_same
        generalize upd HA m4 (.lst [V.int o]) = HB at sD f5' f6 ⊢
        refine ⟨_, rfl, .ref q, (g.map V.int).length, rfl, .inl ⟨_, SqL.of (sD _ _ eq7), rfl⟩, m4, _, _, rfl, rfl, f6, by omega, by rw [List.length_map]; omega, (by rw [List.length_map, Int.toNat_natCast]; show 1 * g.length ≤ sizeLine; omega), fun m5 nm5 => ?_⟩
        have eR : (List.replicate ((g.map V.int).length : Int).toNat [V.int o]).flatten = (List.replicate g.length o).map V.int := by
          rw [List.length_map, Int.toNat_natCast, List.map_replicate, List.flatten_replicate_singleton]
        rw [eR]
        have sE := same_upd (o := .lst ((List.replicate g.length o).map V.int)) sD nm5
        have f5'' : upd HB m5 (.lst ((List.replicate g.length o).map V.int)) m3 = _ := (upd_ne (ne_of_none f5' nm5)).trans f5'
        have f7 : upd HB m5 (.lst ((List.replicate g.length o).map V.int)) m5 = some (.lst ((List.replicate g.length o).map V.int)) := upd_same
        generalize upd HB m5 (.lst ((List.replicate g.length o).map V.int)) = HC at sE f5'' f7 ⊢
        refine ⟨_, _, _, _, rfl, rfl, sE _ _ e6, f7, (by rw [List.length_map, List.length_map, List.length_replicate]; omega), fun m6 nm6 => ?_⟩
        refine ⟨m3, m6, _, _, rfl, Same.trans s7 (same_upd sE nm6), (upd_ne (ne_of_none f5'' nm6)).trans f5'', ?_⟩
        rw [upd_same, t5, t6, spread_snoc _ _ _ _ (by rw [List.length_take, List.length_take]; omega), List.map_append]
      · rintro σ H7 ⟨a5, a6, v7, v8, rfl, s7, e5, e6⟩
        rw [List.length_map, hql] at e5 e6
        have t5 : (p.each [] bs.flatten).take bs.flatten.length = p.each [] bs.flatten := by rw [← hel, List.take_length]
        have t6 : (ownersOf 0 bs).take bs.flatten.length = ownersOf 0 bs := by rw [← hol, List.take_length]
        rw [t5] at e5 e6
        rw [t6, spread_blocks] at e6
        have eF : (p.each [] bs.flatten).flatten = (blkStep p [] bs).flatten := (blk_flat p bs []).symm
        rw [eF] at e5
        refine ⟨_, rfl, _, rfl, (by show 2 ≤ sizeLine; omega), fun t2 nt2 => ⟨t2, [.ref a5, .ref a6], rfl, SqT.of upd_same, rfl, _, _, rfl, _, _, rfl, rfl, ?_⟩⟩
        exact ⟨a5, a6, _, _, _, _, _, _, _, rfl, same_upd (Same.trans (Same.trans (Same.trans s4 sA) s6) s7) nt2, (upd_ne (ne_of_none e5 nt2)).trans e5, (upd_ne (ne_of_none e6 nt2)).trans e6⟩
    · rintro σ H4 ⟨a2, a3, v4, v5, v6, v7, v8, v9, v10, rfl, s4, e2, e3⟩
      rw [hxl, List.take_length] at e2 e3
      have hgl := given_len ps row
      have nH : ∀ {x : Addr}, H4 x = none → H x = none := fun {x} h => by
        cases q : H x with
        | none => rfl
        | some o =>
          rw [s4 _ _ q] at h
          cases h
      refine ⟨_, rfl, .ref r, (row.map V.int).length, rfl, .inr ⟨_, sqt_same s4 hrow, rfl⟩, ((row.map V.int).length : Nat), rfl, by omega, by rw [List.length_map]; omega, fun D nD => ?_⟩
      refine lc_range (lo := 0) (n := (((row.map V.int).length : Nat) : Int).toNat) (fun j H5 => Same H4 H5 ∧ ∃ qs : List Addr, H5 D = some (.lst (qs.map V.ref)) ∧ qs.length = j ∧ ∀ (i : Nat) (q : Addr), qs[i]? = some q → q ≠ D ∧ ∃ g, (givenB ps row)[i]? = some g ∧ H5 q = some (.tup (g.map V.int)))
        ⟨same_upd (Same.refl H4) nD, [], upd_same, rfl, fun i q e => by simp at e⟩ ?_ ?_
      · rintro j H5 hj ⟨s5, qs, f1, f2, f3⟩
        rw [Int.toNat_natCast, List.length_map] at hj
        obtain ⟨g, hg⟩ : ∃ g, (givenB ps row)[j]? = some g := ⟨(givenB ps row)[j]'(by omega), List.getElem?_eq_getElem (by omega)⟩
        have hnl : (givenB ps row).flatten.length ≤ 4000 := by
          have h1 := run_len ps row
          have h3 : 2 ^ ps.length ≤ 2 ^ 4 := Nat.pow_le_pow_right (by decide) hp4
          have h4 : 2 ^ ps.length * row.length ≤ 2 ^ 4 * 200 := Nat.mul_le_mul h3 hl
          show (runM ps row).length ≤ 4000
          omega
        refine ⟨rfl, _, _, _, _, _, _, _, _, a2, a3, 0 + (j : Int), (givenB ps row).flatten, ownersOf 0 (givenB ps row), rfl, SqL.of (s5 _ _ e2), SqL.of (s5 _ _ e3), (owners_len _ 0).symm, hnl, fun T' H6 s6 eT nT => ⟨_, s6 _ _ f1, ?_, ?_, qs ++ [T'], ?_, by rw [List.length_append, f2]; rfl, fun i q hq => ?_⟩⟩
        · rw [List.length_map]
          omega
        · intro b1 o1 hb1
          rw [upd_ne (ne_of_none hb1 nD)]
          exact s6 _ _ (s5 _ _ hb1)
        · rw [upd_same, List.map_append]
          rfl
        · by_cases hi : i < qs.length
          · rw [List.getElem?_append_left hi] at hq
            obtain ⟨n1, g1, hg1, e1⟩ := f3 i q hq
            exact ⟨n1, g1, hg1, by rw [upd_ne n1]; exact s6 _ _ e1⟩
          · have hi2 := (List.getElem?_eq_some_iff.mp hq).1
            rw [List.length_append] at hi2
            have hi2 : i < qs.length + 1 := hi2
            have ei : i = qs.length := by omega
            subst ei
            rw [List.getElem?_append_right (Nat.le_refl _), Nat.sub_self] at hq
            have hq : T' = q := Option.some.inj hq
            subst hq
            have nD' : T' ≠ D := fun z => by
              rw [z, f1] at nT
              cases nT
            refine ⟨nD', g, by rw [f2]; exact hg, ?_⟩
            rw [upd_ne nD', eT]
            have := pick_block (givenB ps row) 0 j g hg
            rw [show (0 : Int) + (j : Int) = ((0 + j : Nat) : Int) by omega, this]
      · rintro H5 ⟨s5, qs, f1, f2, f3⟩
        rw [Int.toNat_natCast, List.length_map] at f2
        refine k D qs H5 (Same.trans s4 s5) (nH nD) f1 ⟨by omega, fun i q g hq hg => ?_⟩
        obtain ⟨_, g1, hg1, e1⟩ := f3 i q hq
        rw [hg] at hg1
        rw [Option.some.inj hg1]
        exact e1
end
end FC
set_option Elab.async false
set_option linter.all false
set_option maxRecDepth 100000
set_option maxHeartbeats 4000000
/-! Numbers through a step, a number through a chain, a row through a chain. -/
namespace FC
open PySem L2
/-- a tuple stays when a list changes -/
theorem sqt_lst {K : PySem.W.Frag} {H : Hp} {a o : Addr} {ys xs zs : List V} (ho : H o = some (.lst xs)) (h : SqT K H a ys) : SqT K (upd H o (.lst zs)) a ys := by
  rcases h with (h | ⟨q, h⟩) | h
  · refine .inl (.inl ?_)
    rw [upd_ne (fun z => by rw [z, ho] at h; cases h)]
    exact h
  · refine .inl (.inr ⟨q, ?_⟩)
    rw [upd_ne (fun z => by rw [z, ho] at h; cases h)]
    exact h
  · exact .inr h
/-- the table of the givers -/
structure GivT (P : Program) (w : World) (K : PySem.W.Frag) (mg : Str → Option Value) (base : Heap) (d : Addr) : Prop where
  kd : ∃ es n, KDict K w d es n
  at_ : ∀ p : Stp, ∃ f, PySem.W.nsIn K d p.name = some (some (.ref f)) ∧ Held P w K mg base 1 f (spGive K p.name)
def spPassT (K : PySem.W.Frag) : Sp := fun vs H Q _ => ∃ (b h l : Addr) (p : Stp) (pre xs : List Int), vs = [.ref b, .ref h, .ref l] ∧ p.ok ∧ SqT K H b p.v ∧ HeldAt K H h (p.held pre) ∧ SqL K H l (xs.map V.int) ∧ xs.length ≤ 1000 ∧
  ∀ (t o h' : Addr) H', Same H H' → SqT K H' t [.ref o, .ref h'] → H o = none → H' o = some (.lst ((p.outs pre xs).map V.int)) → HeldAt K H' h' (p.held (pre ++ xs)) → Q (.ref t) H'
section
variable {P : Program} {w : World} {K : PySem.W.Frag} {mg : Str → Option Value} {base : Heap}
theorem scPassT : FnScope ["step", "held", "numbers", "giver", "out", "now", "number", "given"] ["step", "held", "numbers"] (defScope sPassT) := ⟨rfl, rfl, rfl, by decide +kernel, rfl, by decide +kernel, by decide +kernel⟩
theorem ok_passT {f dG : Addr} {fd : FuncData} (F : Fun K "pass_through" "pass_through" sPassT f fd) (mG : mg "GIVERS" = some (.ref dG)) (G : GivT P w K mg base dG) : FnOk P w K mg base CX0 2 f fd ["step", "held", "numbers"] (spPassT K) := by
  refine F.ok scPassT (fun vs H Q E h => ?_) (fun cdv A outer s H vs Q E hr h => ?_)
  · obtain ⟨b, h, l, p, pre, xs, rfl, _⟩ := h
    rfl
  · obtain ⟨b, h, l, p, pre, xs, rfl, hok, hb, hh, hl, hx, k⟩ := h
    have nd := scPassT.nd
    refine ⟨_, pss_cons (ps_set (i := 3) nd rfl (Or.inl rfl) (pe_ix ix_kdict (pe_glob (v := .ref dG) rfl mG rfl) (pe_ix (r := rIxT K) ix_tup (pv 0) pe_int (fun _ _ => rfl)) (fun _ _ => rfl)))
      (pss_cons (ps_set (i := 4) nd rfl (Or.inl rfl) (pe_lst pa_nil))
      (pss_cons (ps_set (i := 5) nd rfl (Or.inl rfl) (pv 1))
      (pss_cons (ps_for PassesOwn.never rfl (pi_list (pv 2)) (pg_name (i := 6) nd rfl (Or.inl rfl))
        (pss_cons (ps_asg (pe_callHd (i := 3) hr rfl (Or.inl rfl) (pa_cons (pv 0) (pa_cons (pv 5) (pa_cons (pv 6) pa_nil)))) (pg_tup rfl (pgs_cons (pg_name (i := 7) nd rfl (Or.inl rfl)) (pgs_cons (pg_name (i := 5) nd rfl (Or.inl rfl)) pgs_nil))))
        (pss_one (ps_expr (pe_bm PySem.F.plainAttrs_list PySem.F.slot_list_extend PySem.F.type_list_extend mt_extT (pv 4) (pa_cons (pv 7) pa_nil))))))
      (pss_one (ps_ret (pe_tup (pa_cons (pv 4) (pa_cons (pv 5) pa_nil)))))))), ?_⟩
    obtain ⟨es, nn, kd⟩ := G.kd
    obtain ⟨fg, gf, gh⟩ := G.at_ p
    refine ⟨_, rfl, b, _, 0, .str p.name, rfl, rfl, hb, atI_nat (j := 0) rfl, dG, p.name, .ref fg, rfl, rfl, ⟨es, nn, _, kd.at_, kd.lit, gf, rfl⟩, ?_⟩
    refine ⟨(by show 0 ≤ sizeLine; omega), fun o no => ⟨_, rfl, ?_⟩⟩
    have s0 := same_upd (o := .lst []) (Same.refl H) no
    refine ⟨_, rfl, l, rfl, ⟨_, sql_same s0 hl⟩, for_list (K := K) (a := l) (xs := xs.map V.int) (fun i σ H2 => ∃ (h2 : Addr) (v6 v7 : Option V), σ = [some (.ref b), some (.ref h), some (.ref l), some (.ref fg), some (.ref o), some (.ref h2), v6, v7] ∧ Same H H2 ∧
        H2 o = some (.lst ((p.outs pre (xs.take i)).map V.int)) ∧ HeldAt K H2 h2 (p.held (pre ++ xs.take i)))
      ⟨h, none, none, rfl, s0, upd_same, by rw [List.take_zero, List.append_nil]; exact hh.same s0⟩ (fun i σ H2 _ ⟨_, _, _, _, s2, _⟩ => sql_same s2 hl) ?_ ?_⟩
    · rintro i v σ H2 hi ⟨h2, v6, v7, rfl, s2, eo, eh⟩
      obtain ⟨x, hx', rfl⟩ : ∃ x, xs[i]? = some x ∧ v = .int x := by
        rw [List.getElem?_map] at hi
        obtain ⟨x, h1, h2⟩ := Option.map_eq_some_iff.mp hi
        exact ⟨x, h1, h2.symm⟩
      have hil := get_lt hx'
      have et : xs.take (i + 1) = xs.take i ++ [x] := take_succ_get hx'
      refine ⟨fg, _, rfl, gh, _, rfl, _, rfl, _, rfl, b, h2, x, p, pre ++ xs.take i, rfl, rfl, hok, sqt_same s2 hb, eh, fun t g h3 H3 s3 ht hg h3h => ?_⟩
      have eo3 := s3 _ _ eo
      refine ⟨t, _, rfl, ht, rfl, _, _, rfl, _, _, rfl, rfl, ?_⟩
      have hlen : ((p.outs pre (xs.take i)).map V.int).length + ((p.out (pre ++ xs.take i) x).map V.int).length ≤ sizeLine := by
        have h1 := p.outs_len pre (xs.take i)
        have h2 := p.out_len (pre ++ xs.take i) x
        have h3 : (xs.take i).length ≤ 1000 := by rw [List.length_take]; omega
        have hsl : 4000 < sizeLine := by decide
        rw [List.length_map, List.length_map]
        omega
      refine ⟨_, rfl, .inl ⟨rfl, _, SqL.of eo3⟩, _, rfl, o, g, _, _, rfl, rfl, eo3, hg, hlen, h3, _, _, rfl, ?_, ?_, ?_⟩
      · intro b1 o1 hb1
        rw [upd_ne (ne_of_none hb1 no)]
        exact s3 _ _ (s2 _ _ hb1)
      · rw [upd_same, et, outs_snoc, List.map_append]
      · have s4 : HeldAt K H3 h3 (p.held (pre ++ xs.take (i + 1))) := by
          rw [et, ← List.append_assoc]
          exact h3h
        exact sqt_lst eo3 s4
    · rintro σ H2 ⟨h2, v6, v7, rfl, s2, eo, eh⟩
      rw [List.length_map, List.take_length] at eo eh
      refine ⟨_, rfl, _, rfl, (by show 2 ≤ sizeLine; decide), fun t nt => ?_⟩
      have s3 := same_upd (o := .tup [V.ref o, .ref h2]) (Same.refl H2) nt
      exact k t o h2 _ (Same.trans s2 s3) sqt_new no (s3 _ _ eo) (eh.same s3)
/-- the states of a chain's steps behind a row, at a -/
def StateAt (K : PySem.W.Frag) (H : Hp) (a : Addr) (ps : List Stp) (row : List Int) : Prop := ∃ xs : List V, SqT K H a xs ∧ xs.length = ps.length ∧ ∀ (i : Nat) (x : V) (p : Stp), xs[i]? = some x → ps[i]? = some p → ∃ b, x = .ref b ∧ HeldAt K H b (p.held (runM (ps.take i) row))
theorem StateAt.same {K : PySem.W.Frag} {H H' : Hp} {a : Addr} {ps : List Stp} {row : List Int} (h : StateAt K H a ps row) (s : Same H H') : StateAt K H' a ps row := by
  obtain ⟨xs, h1, h2, h3⟩ := h
  refine ⟨xs, sqt_same s h1, h2, fun i x p hx hp => ?_⟩
  obtain ⟨b, e, hb⟩ := h3 i x p hx hp
  exact ⟨b, e, hb.same s⟩
theorem stps_same {K : PySem.W.Frag} {H H' : Hp} {c : Addr} {ps : List Stp} (h : StpsAt K H c ps) (s : Same H H') : StpsAt K H' c ps := by
  obtain ⟨xs, x1, x2, x3⟩ := h
  refine ⟨xs, sqt_same s x1, x2, fun i x p hx hp => ?_⟩
  obtain ⟨b, h1, h2⟩ := x3 i x p hx hp
  exact ⟨b, h1, sqt_same s h2⟩
def spStartP (K : PySem.W.Frag) : Sp := fun vs H Q _ => ∃ (c : Addr) (ps : List Stp), vs = [.ref c] ∧ StpsAt K H c ps ∧ ps.length ≤ 10 ∧ ∀ (t : Addr) H', Same H H' → StateAt K H' t ps [] → Q (.ref t) H'
theorem run_nil_row (cs : List Stp) : runM cs [] = [] := by
  have := run_len cs []
  rw [List.length_nil, Nat.mul_zero] at this
  exact List.eq_nil_of_length_eq_zero (by omega)
theorem rep_flat {n : Nat} {v : V} : (List.replicate n [v]).flatten = List.replicate n v := by
  induction n with
  | zero => rfl
  | succ n ih => rw [List.replicate_succ, List.flatten_cons, ih]; rfl
theorem scStartP : FnScope ["chain"] ["chain"] (defScope sStartP) := ⟨rfl, rfl, rfl, by decide +kernel, rfl, by decide +kernel, by decide +kernel⟩
theorem ok_startP {f nh : Addr} {fd : FuncData} (F : Fun K "start" "start" sStartP f fd) (T : Blt mg) (mN : mg "NOTHING_HELD" = some (.ref nh)) (hN : ∀ H, SqT K H nh [.int 0, .int 0]) : FnOk P w K mg base CX0 1 f fd ["chain"] (spStartP K) := by
  refine F.ok scStartP (fun vs H Q E h => ?_) (fun cdv A outer s H vs Q E hr h => ?_)
  · obtain ⟨c, ps, rfl, _⟩ := h
    rfl
  · obtain ⟨c, ps, rfl, hc, hl, k⟩ := h
    have nd := scStartP.nd
    refine ⟨_, pss_one (ps_ret (pe_op op_repA (pe_tup (pa_cons (pe_glob (v := .ref nh) rfl mN rfl) pa_nil)) (pe_callB call_len (by rfl) T.len PySem.boot_len (pa_cons (pv 0) pa_nil)))), ?_⟩
    obtain ⟨xs, x1, x2, x3⟩ := hc
    refine ⟨(by show 1 ≤ sizeLine; decide), fun q nq => ⟨_, rfl, .ref c, xs.length, rfl, ?_, ?_⟩⟩
    · exact .inr ⟨_, sqt_same (same_upd (Same.refl H) nq) x1, rfl⟩
    have s1 := same_upd (o := .tup [V.ref nh]) (Same.refl H) nq
    have fin : ∀ (t : Addr) H', Same H H' → SqT K H' t (List.replicate ps.length (V.ref nh)) → Q (.ref t) H' := fun t H' s2 ht => k t H' s2 ⟨_, ht, by rw [List.length_replicate], fun i x p hx hp => by
      have hm := List.mem_of_getElem? hx
      rw [List.mem_replicate] at hm
      refine ⟨nh, hm.2, ?_⟩
      rw [run_nil_row]
      unfold HeldAt
      rw [held_nil]
      exact hN H'⟩
    refine ⟨q, (xs.length : Int), [V.ref nh], rfl, rfl, sqt_new, by simp, by omega, by omega, (by show 1 ≤ 1000; decide), fun e1 => fin q _ s1 ?_, fun _ t nt => fin t _ (same_upd s1 nt) ?_⟩
    · have e1 : xs.length = 1 := by omega
      rw [← x2, e1]
      exact sqt_new
    · rw [Int.toNat_natCast, rep_flat, x2]
      exact sqt_new
/-- a number through a chain -/
def spAdv (K : PySem.W.Frag) : Sp := fun vs H Q _ => ∃ (c a : Addr) (x : Int) (ps : List Stp) (row : List Int), vs = [.ref c, .ref a, .int x] ∧ StpsAt K H c ps ∧ (∀ p ∈ ps, p.ok) ∧ ps.length ≤ 4 ∧ StateAt K H a ps row ∧
  ∀ (t g a' : Addr) H', Same H H' → SqT K H' t [.ref g, .ref a'] → SqT K H' g ((newM ps row [x]).map V.int) → StateAt K H' a' ps (row ++ [x]) → Q (.ref t) H'
abbrev NAv : List Str := ["chain", "state", "number", "numbers", "state_behind", "step", "held", "held_behind"]
theorem scAdvance : FnScope NAv ["chain", "state", "number"] (defScope sAdvance) := ⟨rfl, rfl, rfl, by decide +kernel, rfl, by decide +kernel, by decide +kernel⟩
theorem ok_advance {f : Addr} {fd : FuncData} (F : Fun K "advance" "advance" sAdvance f fd) (T : Blt mg) (CP : Cal P w K mg base CX0 2 "pass_through" ["step", "held", "numbers"] (spPassT K)) : FnOk P w K mg base CX0 3 f fd ["chain", "state", "number"] (spAdv K) := by
  refine F.ok scAdvance (fun vs H Q E h => ?_) (fun cdv A outer s H vs Q E hr h => ?_)
  · obtain ⟨c, a, x, ps, row, rfl, _⟩ := h
    rfl
  · obtain ⟨c, a, x, ps, row, rfl, hc, hok, hl, ha, k⟩ := h
    have nd := scAdvance.nd
    refine ⟨_, pss_cons (ps_set (i := 3) nd rfl (Or.inl rfl) (pe_lst (pa_cons (pv 2) pa_nil)))
      (pss_cons (ps_set (i := 4) nd rfl (Or.inl rfl) (pe_lst pa_nil))
      (pss_cons (ps_for PassesOwn.never rfl (RZ.pi_zipA (by rfl) T.zip (pa_cons (pv 0) (pa_cons (pv 1) pa_nil))) (pg_tup rfl (pgs_cons (pg_name (i := 5) nd rfl (Or.inl rfl)) (pgs_cons (pg_name (i := 6) nd rfl (Or.inl rfl)) pgs_nil)))
        (pss_cons (ps_asg (pe_cal CP hr pass0 (pa_cons (pv 5) (pa_cons (pv 6) (pa_cons (pv 3) pa_nil)))) (pg_tup rfl (pgs_cons (pg_name (i := 3) nd rfl (Or.inl rfl)) (pgs_cons (pg_name (i := 7) nd rfl (Or.inl rfl)) pgs_nil))))
        (pss_one (ps_expr (pe_bm PySem.F.plainAttrs_list PySem.F.slot_list_append PySem.F.type_list_append mt_append (pv 4) (pa_cons (pv 7) pa_nil))))))
      (pss_one (ps_ret (pe_tup (pa_cons (pe_callTy call_tuple_of (by rfl) T.tuple (by decide +kernel) (pa_cons (pv 3) pa_nil)) (pa_cons (pe_callTy call_tuple_of (by rfl) T.tuple (by decide +kernel) (pa_cons (pv 4) pa_nil)) pa_nil))))))), ?_⟩
    obtain ⟨cs, c1, c2, c3⟩ := hc
    obtain ⟨ss, a1, a2, a3⟩ := ha
    refine ⟨_, rfl, (by show 1 ≤ sizeLine; decide), fun l0 n0 => ⟨(by show 0 ≤ sizeLine; decide), fun o no => ?_⟩⟩
    have s0 := same_upd (o := .lst [V.int x]) (Same.refl H) n0
    have e0 : upd H l0 (.lst [V.int x]) l0 = some (.lst [V.int x]) := upd_same
    generalize upd H l0 (.lst [V.int x]) = H1 at s0 e0 no ⊢
    have s1 := same_upd (o := .lst []) s0 no
    have e1 : upd H1 o (.lst []) l0 = some (.lst [V.int x]) := (upd_ne (ne_of_none e0 no)).trans e0
    have eo : upd H1 o (.lst []) o = some (.lst []) := upd_same
    have noH : H o = none := by
      cases q : H o with
      | none => rfl
      | some v => rw [s0 _ _ q] at no; cases no
    generalize upd H1 o (.lst []) = H2 at s1 e1 eo ⊢
    refine ⟨_, rfl, _, rfl, c, a, cs, ss, rfl, .inr ⟨sqt_same s1 c1, sqt_same s1 a1, RZ.for_zipT (K := K) (xs := cs) (ys := ss) (by rw [c2, a2])
      (fun i σ H3 => ∃ (l : Addr) (bs : List V) (v5 v6 v7 : Option V), σ = [some (.ref c), some (.ref a), some (.int x), some (.ref l), some (.ref o), v5, v6, v7] ∧ Same H H3 ∧ H3 l = some (.lst ((newM (ps.take i) row [x]).map V.int)) ∧ H3 o = some (.lst bs) ∧ l ≠ o ∧ bs.length = i ∧
        ∀ (j : Nat) (y : V) (p : Stp), bs[j]? = some y → ps[j]? = some p → ∃ b, y = .ref b ∧ HeldAt K H3 b (p.held (runM (ps.take j) (row ++ [x]))))
      ⟨l0, [], none, none, none, rfl, s1, e1, eo, ne_of_none e0 (by assumption), rfl, fun j y p h _ => by simp at h⟩ (fun i σ H3 ⟨_, _, _, _, _, _, s3, _⟩ => ⟨sqt_same s3 c1, sqt_same s3 a1⟩) ?_ ?_⟩⟩
    · rintro i y z T σ H3 hy hz ⟨l, bs, v5, v6, v7, rfl, s3, el, eo3, lo, hb, hat⟩ hT
      have hiy := get_lt hy
      obtain ⟨p, hp⟩ : ∃ p, ps[i]? = some p := ⟨ps[i]'(by omega), List.getElem?_eq_getElem (by omega)⟩
      obtain ⟨b, rfl, hbv⟩ := c3 i y p hy hp
      obtain ⟨hd, rfl, hhd⟩ := a3 i z p hz hp
      have et : ps.take (i + 1) = ps.take i ++ [p] := take_succ_get hp
      have s4 := same_upd (o := .tup [V.ref b, .ref hd]) s3 hT
      have el4 : upd H3 T (.tup [V.ref b, .ref hd]) l = _ := (upd_ne (ne_of_none el hT)).trans el
      have eo4 : upd H3 T (.tup [V.ref b, .ref hd]) o = _ := (upd_ne (ne_of_none eo3 hT)).trans eo3
      have s34 := same_upd (o := .tup [V.ref b, .ref hd]) (Same.refl H3) hT
      have hnl : (newM (ps.take i) row [x]).length ≤ 1000 := by
        have h1 := newM_len (ps.take i) row [x]
        have h2 : (ps.take i).length ≤ 4 := by rw [List.length_take]; omega
        have h3 : 2 ^ (ps.take i).length ≤ 2 ^ 4 := Nat.pow_le_pow_right (by decide) h2
        rw [List.length_singleton] at h1
        omega
      refine ⟨T, [.ref b, .ref hd], rfl, SqT.of upd_same, rfl, _, _, rfl, _, _, rfl, rfl, ?_⟩
      generalize upd H3 T (.tup [V.ref b, .ref hd]) = H4 at s4 el4 eo4 s34 ⊢
      refine ⟨_, rfl, _, rfl, _, rfl, b, hd, l, p, runM (ps.take i) row, newM (ps.take i) row [x], rfl, hok p (List.mem_of_getElem? hp), sqt_same s4 hbv, hhd.same s4, SqL.of el4, hnl, fun t o2 h2 H5 s5 ht no2 eo2 hh2 => ?_⟩
      refine ⟨t, _, rfl, ht, rfl, _, _, rfl, _, _, rfl, rfl, ?_⟩
      have eo5 := s5 _ _ eo4
      have oo : o2 ≠ o := fun w => by rw [w, eo4] at no2; cases no2
      refine ⟨_, rfl, .inl ⟨rfl, _, SqL.of eo5⟩, _, rfl, o, bs, .ref h2, rfl, rfl, eo5, small1000 (by omega), ?_⟩
      refine ⟨o2, bs ++ [.ref h2], _, _, _, rfl, ?_, ?_, upd_same, oo, by rw [List.length_append, hb]; rfl, ?_⟩
      · intro b1 o1 hb1
        rw [upd_ne (ne_of_none hb1 noH)]
        exact s5 _ _ (s4 _ _ hb1)
      · rw [upd_ne oo, et, newM_append]
        exact eo2
      · intro j q p' hq hp'
        by_cases hj : j < bs.length
        · rw [List.getElem?_append_left hj] at hq
          obtain ⟨c', e1, e2⟩ := hat j q p' hq hp'
          exact ⟨c', e1, sqt_lst eo5 ((e2.same s34).same s5)⟩
        · have hj2 := get_lt hq
          rw [List.length_append, List.length_singleton] at hj2
          have ej : j = bs.length := by omega
          subst ej
          rw [List.getElem?_append_right (Nat.le_refl _), Nat.sub_self] at hq
          have hq : V.ref h2 = q := Option.some.inj hq
          subst hq
          rw [hb] at hp' ⊢
          rw [hp] at hp'
          have hp' : p = p' := Option.some.inj hp'
          subst hp'
          refine ⟨h2, rfl, sqt_lst eo5 ?_⟩
          rw [run_snoc]
          exact hh2
    · rintro σ H3 ⟨l, bs, v5, v6, v7, rfl, s3, el, eo3, lo, hb, hat⟩
      rw [c2, List.take_length] at el
      refine ⟨_, rfl, l, _, rfl, .inl ⟨SqL.of el, fun g ng => ⟨_, rfl, o, bs, rfl, .inl ⟨SqL.of ((upd_ne (ne_of_none eo3 ng)).trans eo3), fun q nq => ⟨(by show 2 ≤ sizeLine; decide), fun t nt => ?_⟩⟩⟩⟩⟩
      have s4 := same_upd (o := .tup ((newM ps row [x]).map V.int)) (Same.refl H3) ng
      have s5 := same_upd (o := .tup bs) (Same.refl _) nq
      have s6 := same_upd (o := .tup [V.ref g, .ref q]) (Same.refl _) nt
      refine k t g q _ (Same.trans (Same.trans (Same.trans s3 s4) s5) s6) sqt_new (sqt_same s6 (sqt_same s5 sqt_new)) ⟨bs, sqt_same s6 sqt_new, by rw [hb, c2], fun j y p hy hp => ?_⟩
      obtain ⟨b, e1, e2⟩ := hat j y p hy hp
      exact ⟨b, e1, ((e2.same s4).same s5).same s6⟩
end
end FC
set_option Elab.async false
set_option linter.all false
set_option maxRecDepth 100000
set_option maxHeartbeats 1000000
/-! What run promises. -/
namespace FC
open PySem PySem.Spec PyProof.Rows L2
def rowOkV : V → Bool
  | .int i => decide (-1000000000000000000000000000000 ≤ i) && decide (i ≤ 1000000000000000000000000000000)
  | _ => false
def rowOkO : Option (List V) → Bool
  | some xs => decide (xs.length ≤ 60) && xs.all rowOkV
  | none => false
/-- what run promises -/
def spRunP (K : PySem.W.Frag) (c0 c1 : Addr) : Sp := fun vs H Q E => ∃ x y, vs = [x, y] ∧
  ((∃ (b : Addr) (ps : List Stp) (r : Addr) (row : List Int), x = .ref b ∧ ChainAt K H b (ps.map Stp.v) ∧ (∀ p ∈ ps, p.ok) ∧ chainOk (ps.map Stp.v) = true ∧ y = .ref r ∧ SqT K H r (row.map V.int) ∧ rowOkO (some (row.map V.int)) = true ∧ ∀ t H', Same H H' → SqT K H' t ((runM ps row).map V.int) → Q (.ref t) H') ∨
   (∃ oo, ChainV K H x oo ∧ chainOkO oo = false ∧ ∀ H', Same H H' → E (.ref c0) none H') ∨
   (∃ oo ro, ChainV K H x oo ∧ chainOkO oo = true ∧ StepV K H y ro ∧ rowOkO ro = false ∧ ∀ H', Same H H' → E (.ref c1) none H'))
end FC
set_option Elab.async false
set_option linter.all false
set_option maxRecDepth 100000
set_option maxHeartbeats 4000000
/-! The program's check of numbers. -/
namespace FC
open PySem L2
abbrev big : Int := 1000000000000000000000000000000
def spIsNumber (K : PySem.W.Frag) : Sp := fun vs H Q _ => ∃ x, vs = [x] ∧ Nice K H x ∧ ∀ H', Same H H' → Q (.bl (rowOkV x)) H'
theorem rowOkV_isW {x : V} (h : isW x = false) : rowOkV x = false := by
  cases x <;> first | rfl | cases h
section
variable {P : Program} {w : World} {K : PySem.W.Frag} {mg : Str → Option Value} {base : Heap}
theorem scIsNumber : FnScope ["value"] ["value"] (defScope sIsNumber) := ⟨rfl, rfl, rfl, by decide +kernel, rfl, by decide +kernel, by decide +kernel⟩
theorem ok_isNumber {f : Addr} {tG : Tok} {fd : FuncData} (F : Fun K "is_number" "is_number" sIsNumber f fd) (CW : Cal P w K mg base CX0 1 "is_whole" ["value"] (spIsWhole K)) (mG : mg "GREATEST" = some (.int big tG)) : FnOk P w K mg base CX0 2 f fd ["value"] (spIsNumber K) := by
  refine F.ok scIsNumber (fun vs H Q E h => ?_) (fun cdv A outer s H vs Q E hr h => ?_)
  · obtain ⟨x, rfl, _⟩ := h
    rfl
  · obtain ⟨x, rfl, hx, k⟩ := h
    refine ⟨_, pss_one (ps_ret (pe_and (pe_cal CW hr pass0 (pa_cons (pv 0) pa_nil))
      (pe_and (pe_cmp (pc_le (pe_un un_neg (pe_glob (v := .int big) rfl mG ⟨_, rfl⟩)) (pv 0))) (pe_one (pe_cmp (pc_le (pv 0) (pe_glob (v := .int big) rfl mG ⟨_, rfl⟩))))))), ?_⟩
    refine ⟨_, rfl, x, rfl, hx, _, rfl, ?_⟩
    have k0 := k H (Same.refl H)
    cases hW : isW x with
    | false =>
      rw [rowOkV_isW hW] at k0
      exact iteF k0
    | true =>
      obtain ⟨n, rfl⟩ : ∃ n, x = V.int n := by
        cases x <;> first | exact ⟨_, rfl⟩ | cases hW
      refine iteT ?_
      have k0 : Q (.bl (decide (-big ≤ n) && decide (n ≤ big))) H := k0
      refine ⟨_, rfl, _, rfl, _, _, rfl, rfl, _, rfl, ?_⟩
      refine ite2 (fun h1 => ?_) (fun h1 => ?_)
      · have h1 : decide (-big ≤ n) = true := h1
        rw [h1, Bool.true_and] at k0
        exact ⟨_, rfl, _, _, rfl, rfl, k0⟩
      · have h1 : ¬ decide (-big ≤ n) = true := h1
        rw [eq_false_of_ne_true h1, Bool.false_and] at k0
        exact k0
end
end FC
set_option Elab.async false
set_option linter.all false
set_option maxRecDepth 100000
set_option maxHeartbeats 1000000
/-! A step that is one, as a kind with its numbers. -/
namespace FC
open PySem L2
theorem within_end {xs : List V} {a : Int} (h : within [] xs a = true) : xs = [] := by
  cases xs with
  | nil => rfl
  | cons x r => cases h
theorem within_step {l : Str} {ls : List Str} {xs : List V} {a : Int} (h : within (l :: ls) xs a = true) : ∃ n r, xs = .int n :: r ∧ (lohi l a).1 ≤ n ∧ n ≤ (lohi l a).2 ∧ within ls r n = true := by
  cases xs with
  | nil => cases h
  | cons x r =>
    cases x <;> first | cases h | skip
    rename_i n
    have h : (!(decide (n < (lohi l a).1) || decide (n > (lohi l a).2)) && within ls r n) = true := h
    rw [Bool.and_eq_true, Bool.not_eq_true', Bool.or_eq_false_iff, decide_eq_false_iff_not, decide_eq_false_iff_not] at h
    exact ⟨n, r, rfl, by omega, by omega, h.2⟩
theorem lohi_a (x : Int) : lohi "a" x = (-3, 3) := rfl
theorem lohi_b (x : Int) : lohi "b" x = (-9, 9) := rfl
theorem lohi_m (x : Int) : lohi "m" x = (2, 3) := rfl
theorem lohi_k (x : Int) : lohi "k" x = (2, 3) := rfl
theorem lohi_r (x : Int) : lohi "r" x = (0, x - 1) := rfl
theorem stp_of {ys : List V} (h : stepOk ys = true) : ∃ p : Stp, ys = p.v ∧ p.ok := by
  match ys, h with
  | .str name :: rest, h =>
    have h : stepOkN name rest = true := h
    unfold stepOkN at h
    split at h
    · rename_i ls hl
      have hm := lookup_mem hl
      rw [Bool.and_eq_true] at h
      have hw := h.2
      unfold tab at hm
      simp only [List.mem_cons, List.mem_nil_iff, or_false, Prod.mk.injEq] at hm
      rcases hm with ⟨rfl, rfl⟩ | ⟨rfl, rfl⟩ | ⟨rfl, rfl⟩ | ⟨rfl, rfl⟩ | ⟨rfl, rfl⟩ | ⟨rfl, rfl⟩ | ⟨rfl, rfl⟩ | ⟨rfl, rfl⟩ | ⟨rfl, rfl⟩ | ⟨rfl, rfl⟩
      · obtain ⟨a, r1, rfl, a1, a2, hw⟩ := within_step hw
        obtain ⟨b, r2, rfl, b1, b2, hw⟩ := within_step hw
        rw [within_end hw]
        rw [lohi_a] at a1 a2
        rw [lohi_b] at b1 b2
        exact ⟨.line a b, rfl, a1, a2, b1, b2⟩
      · obtain ⟨m, r1, rfl, m1, m2, hw⟩ := within_step hw
        obtain ⟨r, r2, rfl, q1, q2, hw⟩ := within_step hw
        obtain ⟨a, r3, rfl, a1, a2, hw⟩ := within_step hw
        obtain ⟨b, r4, rfl, b1, b2, hw⟩ := within_step hw
        rw [within_end hw]
        rw [lohi_a] at a1 a2
        rw [lohi_b] at b1 b2
        rw [lohi_m] at m1 m2
        rw [lohi_r] at q1 q2
        have m1 : (2 : Int) ≤ m := m1
        have m2 : m ≤ (3 : Int) := m2
        have q2 : r ≤ m - 1 := q2
        exact ⟨.turn m r a b, rfl, by unfold two3; omega, q1, by omega, a1, a2, b1, b2⟩
      · obtain ⟨m, r1, rfl, m1, m2, hw⟩ := within_step hw
        obtain ⟨r, r2, rfl, q1, q2, hw⟩ := within_step hw
        rw [within_end hw]
        rw [lohi_m] at m1 m2
        rw [lohi_r] at q1 q2
        have m1 : (2 : Int) ≤ m := m1
        have m2 : m ≤ (3 : Int) := m2
        have q2 : r ≤ m - 1 := q2
        exact ⟨.keep m r, rfl, by unfold two3; omega, q1, by omega⟩
      · obtain ⟨m, r1, rfl, m1, m2, hw⟩ := within_step hw
        obtain ⟨r, r2, rfl, q1, q2, hw⟩ := within_step hw
        rw [within_end hw]
        rw [lohi_k] at m1 m2
        rw [lohi_r] at q1 q2
        have m1 : (2 : Int) ≤ m := m1
        have m2 : m ≤ (3 : Int) := m2
        have q2 : r ≤ m - 1 := q2
        exact ⟨.every m r, rfl, by unfold two3; omega, q1, by omega⟩
      · rw [within_end hw]
        exact ⟨.twice, rfl, trivial⟩
      · rw [within_end hw]
        exact ⟨.sums, rfl, trivial⟩
      · obtain ⟨m, r1, rfl, m1, m2, hw⟩ := within_step hw
        obtain ⟨r, r2, rfl, q1, q2, hw⟩ := within_step hw
        rw [within_end hw]
        rw [lohi_m] at m1 m2
        rw [lohi_r] at q1 q2
        have m1 : (2 : Int) ≤ m := m1
        have m2 : m ≤ (3 : Int) := m2
        have q2 : r ≤ m - 1 := q2
        exact ⟨.anew m r, rfl, by unfold two3; omega, q1, by omega⟩
      · rw [within_end hw]
        exact ⟨.gaps, rfl, trivial⟩
      · obtain ⟨m, r1, rfl, m1, m2, hw⟩ := within_step hw
        rw [within_end hw]
        rw [lohi_k] at m1 m2
        have m1 : (2 : Int) ≤ m := m1
        have m2 : m ≤ (3 : Int) := m2
        exact ⟨.groups m, rfl, by show two3 m; unfold two3; omega⟩
      · rw [within_end hw]
        exact ⟨.count, rfl, trivial⟩
    · cases h
theorem stps_of : ∀ {cs : List (List V)}, (∀ ys ∈ cs, stepOk ys = true) → ∃ ps : List Stp, cs = ps.map Stp.v ∧ ∀ p ∈ ps, p.ok
  | [], _ => ⟨[], rfl, fun p h => by cases h⟩
  | ys :: r, h => by
    obtain ⟨p, e, hp⟩ := stp_of (h ys (by simp))
    obtain ⟨ps, e2, h2⟩ := stps_of (cs := r) fun z hz => h z (List.mem_cons_of_mem _ hz)
    refine ⟨p :: ps, by rw [e, e2]; rfl, fun q hq => ?_⟩
    rcases List.mem_cons.mp hq with z | z
    · rw [z]
      exact hp
    · exact h2 q z
theorem stps_at {K : PySem.W.Frag} {H : Hp} {a : Addr} {ps : List Stp} (h : ChainAt K H a (ps.map Stp.v)) : StpsAt K H a ps := by
  obtain ⟨xs, h1, h2⟩ := h
  refine ⟨xs, h1, by rw [h2.len, List.length_map, List.length_map], fun i x p hx hp => ?_⟩
  obtain ⟨b, e1, e2, _⟩ := h2.at_ i x (some p.v) hx (by rw [List.getElem?_map, List.getElem?_map, hp]; rfl)
  exact ⟨b, e1, e2⟩
end FC
set_option Elab.async false
set_option linter.all false
set_option maxRecDepth 100000
set_option maxHeartbeats 4000000
namespace FC
open PySem L2
/-- 2 or 3, and a remainder by it -/
def spRest : Sp := fun vs H Q _ => ∃ d : Addr, vs = [.ref d] ∧ Dice H d ∧ ∀ (t : Addr) (m r : Int) H', (m = 2 ∨ m = 3) → 0 ≤ r → r < m → Dice H' d → SameX d H H' → H t = none → H' t = some (.tup [.int m, .int r]) → Q (.ref t) H'
theorem SameX.upd {d p : Addr} {H H' : Hp} {o : HO} (e : SameX d H H') (h : H' p = none) : SameX d H (L2.upd H' p o) := fun b u q n => by
  have q' := e b u q n
  rw [upd_ne (ne_of_none q' h)]
  exact q'
theorem SameX.free {d l : Addr} {H H' : Hp} (e : SameX d H H') (hd : l ≠ d) (h : H' l = none) : H l = none := by
  cases q : H l with
  | none => rfl
  | some o =>
    rw [e l o q hd] at h
    cases h
theorem Dice.same {d : Addr} {H H' : Hp} (s : Same H H') (h : Dice H d) : Dice H' d := by
  obtain ⟨a, b, e⟩ := h
  exact ⟨a, b, s _ _ e⟩
theorem Dice.ne {d p : Addr} {H : Hp} (h : Dice H d) (n : H p = none) : d ≠ p := by
  obtain ⟨a, b, e⟩ := h
  exact ne_of_none e n
section
variable {P : Program} {w : World} {K : PySem.W.Frag} {mg : Str → Option Value} {base : Heap}
theorem scRoll : FnScope ["_law_dice", "_law_many", "_law_told_here"] ["_law_dice", "_law_many"] (defScope sRoll) := ⟨rfl, rfl, rfl, by decide +kernel, rfl, by decide +kernel, by decide +kernel⟩
theorem ok_roll {f : Addr} {fd : FuncData} (F : Fun K "_law_roll" "_law_roll" sRoll f fd) (CD : Cal P w K mg base CX0 1 "_law_drawn" ["_law_cell_here", "_law_k"] spDrawn) : FnOk P w K mg base CX0 2 f fd ["_law_dice", "_law_many"] spRoll := by
  refine F.ok scRoll (fun vs H Q E h => ?_) (fun cdv A outer s H vs Q E hr h => ?_)
  · obtain ⟨a, k, rfl, _⟩ := h
    rfl
  · obtain ⟨d, m, rfl, ⟨a, b, hd⟩, h1, h2, q⟩ := h
    have nd := scRoll.nd
    refine ⟨_, pss_cons (ps_if (pt_cmp (pc_ge (pe_ix ix_list (pv 0) pe_int (fun _ _ => rfl)) (pe_op op_pow pe_int pe_int)))
        (pss_cons (ps_set (i := 2) nd rfl (Or.inl rfl) (pe_op op_mod (pe_ix ix_list (pv 0) pe_int (fun _ _ => rfl)) (pv 1)))
        (pss_cons (ps_asg (pe_op op_fdivW (pe_ix ix_list (pv 0) pe_int (fun _ _ => rfl)) (pv 1)) (pg_sub (pv 0) pe_int set_list))
        (pss_one (ps_ret (pv 2))))) pss_nil)
      (pss_cons (ps_asg (pe_op op_add (pe_ix ix_list (pv 0) pe_int (fun _ _ => rfl)) pe_int) (pg_sub (pv 0) pe_int set_list))
      (pss_one (ps_ret (pe_op op_mod (pe_op op_fdiv (pe_cal CD hr pass0 (pa_cons (pe_ix ix_list (pv 0) pe_int (fun _ _ => rfl)) (pa_cons (pe_ix ix_list (pv 0) pe_int (fun _ _ => rfl)) pa_nil))) pe_int) (pv 1))))), ?_⟩
    have at0' : ∀ x y : Int, atI [V.int x, V.int y] 0 = some (V.int x) := fun x y => at0 _ _
    have at1' : ∀ x y : Int, atI [V.int x, V.int y] 1 = some (V.int y) := fun x y => by
      have h := atI_nat (xs := [V.int x, V.int y]) (j := 1) (v := V.int y) rfl
      exact h
    have only : ∀ (o : HO), SameX d H (upd H d o) := fun o c u e n => by
      rw [upd_ne n]
      exact e
    have hm : (0 : Int) < m := by omega
    have hb200 : m.natAbs < 2 ^ 200 := by
      have e : (2 : Nat) ^ 200 = 1606938044258990275541962092341162602522202993782792835301376 := by decide +kernel
      rw [e]
      omega
    refine ⟨_, rfl, d, _, _, _, rfl, rfl, SqL.of hd, at0' a b, _, _, rfl, rfl, ⟨by decide, by decide, by decide⟩, _, _, rfl, rfl, _, rfl, ?_⟩
    refine ite2 (fun _ => ?_) (fun _ => ?_)
    · refine ⟨_, rfl, d, _, _, _, rfl, rfl, SqL.of hd, at0' a b, _, rfl, _, _, rfl, rfl, hm, ?_⟩
      refine ⟨_, rfl, d, _, _, _, rfl, rfl, SqL.of hd, at0' a b, _, rfl, _, _, rfl, rfl, wide_div hm (b := 200) hb200 (by decide) (by decide), ?_⟩
      refine ⟨_, rfl, d, _, _, 0, rfl, rfl, hd, rfl, ?_⟩
      exact ⟨_, rfl, q _ _ (Int.emod_nonneg _ (Int.ne_of_gt hm)) (Int.emod_lt_of_pos _ hm) ⟨_, _, upd_same⟩ (only _)⟩
    · refine ⟨_, rfl, d, _, _, _, rfl, rfl, SqL.of hd, at1' a b, _, _, rfl, rfl, ?_⟩
      refine ⟨_, rfl, d, _, _, 1, rfl, rfl, hd, rfl, ?_⟩
      have hd2 : upd H d (.lst ([V.int a, V.int b].set 1 (V.int (b + 1)))) d = some (.lst [V.int a, V.int (b + 1)]) := upd_same
      refine ⟨_, rfl, d, _, _, _, rfl, rfl, SqL.of hd2, at0' a (b + 1), _, rfl, d, _, _, _, rfl, rfl, SqL.of hd2, at1' a (b + 1), a, b + 1, rfl, fun r hr0 => ?_⟩
      refine ⟨_, _, rfl, rfl, ⟨by decide, by decide⟩, _, rfl, _, _, rfl, rfl, hm, ?_⟩
      exact q _ _ (Int.emod_nonneg _ (Int.ne_of_gt hm)) (Int.emod_lt_of_pos _ hm) ⟨_, _, upd_same⟩ (only _)
theorem scRest : FnScope ["_law_dice", "_law_by"] ["_law_dice"] (defScope sRest) := ⟨rfl, rfl, rfl, by decide +kernel, rfl, by decide +kernel, by decide +kernel⟩
theorem ok_rest {f : Addr} {fd : FuncData} (F : Fun K "_law_rest" "_law_rest" sRest f fd) (CR : Cal P w K mg base CX0 2 "_law_roll" ["_law_dice", "_law_many"] spRoll) : FnOk P w K mg base CX0 3 f fd ["_law_dice"] spRest := by
  refine F.ok scRest (fun vs H Q E h => ?_) (fun cdv A outer s H vs Q E hr h => ?_)
  · obtain ⟨a, rfl, _⟩ := h
    rfl
  · obtain ⟨d, rfl, hd, q⟩ := h
    have nd := scRest.nd
    refine ⟨_, pss_cons (ps_set (i := 1) nd rfl (Or.inl rfl) (pe_op op_add pe_int (pe_cal CR hr pass0 (pa_cons (pv 0) (pa_cons pe_int pa_nil)))))
      (pss_one (ps_ret (pe_tup (pa_cons (pv 1) (pa_cons (pe_cal CR hr pass0 (pa_cons (pv 0) (pa_cons (pv 1) pa_nil))) pa_nil))))), ?_⟩
    refine ⟨_, rfl, d, 2, rfl, hd, by decide, by decide, fun r H1 r0 r1 d1 s1 => ⟨_, _, rfl, rfl, ?_⟩⟩
    refine ⟨_, rfl, _, rfl, _, rfl, d, 2 + r, rfl, d1, by omega, by omega, fun r2 H2 r3 r4 d2 s2 => ⟨(by show 2 ≤ sizeLine; decide), fun t nt => ?_⟩⟩
    have nt' : t ≠ d := (d2.ne nt).symm
    have s3 := s1.trans s2
    exact q t (2 + r) r2 _ (by omega) r3 r4 (by obtain ⟨x, y, e⟩ := d2; exact ⟨x, y, by rw [upd_ne (Ne.symm nt')]; exact e⟩) (s3.upd nt) (s3.free nt' nt) upd_same
end
end FC
set_option Elab.async false
set_option linter.all false
set_option maxRecDepth 100000
set_option maxHeartbeats 4000000
namespace FC
open PySem L2
def spRounds (K : PySem.W.Frag) : Sp := fun vs H Q _ => ∃ (a : Addr) (ns : List Int), vs = [.ref a, .int 4] ∧ SqL K H a (ns.map V.int) ∧ ns.length ≤ 63 ∧
  ∀ (t : Addr) (ds : List Addr) H', Same H H' → ds.length ≤ 4 → H' t = some (.lst (ds.map V.ref)) → (∀ d ∈ ds, Dice H' d ∧ H d = none) → H t = none → Q (.ref t) H'
section
variable {P : Program} {w : World} {K : PySem.W.Frag} {mg : Str → Option Value} {base : Heap}
theorem scRounds : FnScope ["_law_script", "_law_most", "_law_k"] ["_law_script", "_law_most"] (defScope sRounds) := ⟨rfl, rfl, rfl, by decide +kernel, rfl, by decide +kernel, by decide +kernel⟩
theorem ok_rounds {f : Addr} {fd : FuncData} (F : Fun K "_law_rounds" "_law_rounds" sRounds f fd) (T : Blt mg) (CC : Cal P w K mg base CX0 1 "_law_cell" ["_law_script", "_law_k"] (spCellL K)) : FnOk P w K mg base CX0 2 f fd ["_law_script", "_law_most"] (spRounds K) := by
  refine F.ok scRounds (fun vs H Q E h => ?_) (fun cdv A outer s H vs Q E hr h => ?_)
  · obtain ⟨a, k, rfl, _⟩ := h
    rfl
  · obtain ⟨a, ns, rfl, ha, hl, q⟩ := h
    have nd := scRounds.nd
    refine ⟨_, pss_one (ps_ret (pe_lc (own := [("_law_k", 2)]) (g := gName 2) (by rfl) nd
      (pi_range1 (by rfl) T.range (pa_cons (pe_callB (call_max2 rfl) (by rfl) T.max (by decide +kernel) (pa_cons pe_int (pa_cons (pe_callB (call_min2 rfl) (by rfl) T.min (by decide +kernel) (pa_cons (pv 1) (pa_cons (pe_callB call_len (by rfl) T.len PySem.boot_len (pa_cons (pv 0) pa_nil)) pa_nil))) pa_nil))) pa_nil))
      (blkOk_by (own := [("_law_k", 2)]) (N := ["_law_script", "_law_most", "_law_k"]) (sc := defScope sRounds) (by decide +kernel)) (fun _ _ _ _ _ => pg_name (i := 2) nd rfl (Or.inl rfl))
      (fun _ _ _ _ _ => pts_nil) (fun _ _ _ _ _ => pe_lst (pa_cons (pe_cal CC hr pass0 (pa_cons (pv 0) (pa_cons (pv 2) pa_nil))) (pa_cons pe_int pa_nil))))), ?_⟩
    have hN : ∃ N : Nat, (if (if (ns.length : Int) < 4 then (ns.length : Int) else 4) > 1 then (if (ns.length : Int) < 4 then (ns.length : Int) else 4) else 1) = (N : Int) ∧ N ≤ 4 := by
      by_cases h1 : (ns.length : Int) < 4
      · rw [if_pos h1]
        by_cases h2 : (ns.length : Int) > 1
        · rw [if_pos h2]
          exact ⟨ns.length, rfl, by omega⟩
        · rw [if_neg h2]
          exact ⟨1, rfl, by decide⟩
      · rw [if_neg h1]
        exact ⟨4, by decide, by decide⟩
    obtain ⟨N, eN, hN⟩ := hN
    have eL : ((ns.map V.int).length : Int) = (ns.length : Int) := by rw [List.length_map]
    refine ⟨_, rfl, _, rfl, _, (ns.map V.int).length, rfl, .inl ⟨_, ha, rfl⟩, _, _, rfl, _, _, rfl, (N : Int), ?_, by omega, by omega, fun D nD => ?_⟩
    · rw [eL, eN]
    have s1 := same_upd (o := .lst []) (Same.refl H) nD
    have eT : ((N : Int)).toNat = N := by omega
    rw [eT]
    refine lc_range (lo := 0) (n := N) (fun j H3 => ∃ ds : List Addr, ds.length = j ∧ H3 D = some (.lst (ds.map V.ref)) ∧ Same H H3 ∧ ∀ d ∈ ds, Dice H3 d ∧ H d = none ∧ d ≠ D)
      ⟨[], rfl, upd_same, s1, fun d hd => by simp at hd⟩ ?_ ?_
    · rintro j H3 hj ⟨ds, hds, hD, s3, each⟩
      refine ⟨rfl, ?_⟩
      have nDH : ∀ b o, H b = some o → b ≠ D := fun b o e => ne_of_none e nD
      refine ⟨_, rfl, _, rfl, a, ns, _, rfl, Same.seq s3 ha, hl, fun n H4 s4 => ⟨(by show 2 ≤ sizeLine; decide), fun d nd' => ⟨ds.map V.ref, ?_, ?_, ds ++ [d], ?_, ?_, ?_, ?_⟩⟩⟩
      · have h4 := s4 _ _ hD
        rw [upd_ne (ne_of_none h4 nd')]
        exact h4
      · rw [List.length_map]
        exact small1000 (by omega)
      · rw [List.length_append, hds]
        rfl
      · rw [upd_same, List.map_append]
        rfl
      · intro b o e
        have e4 := s4 _ _ (s3 b o e)
        rw [upd_ne (nDH b o e), upd_ne (ne_of_none e4 nd')]
        exact e4
      · intro c hc
        have dD : d ≠ D := fun z => by
          have h4 := s4 _ _ hD
          rw [← z, nd'] at h4
          cases h4
        rcases List.mem_append.mp hc with z | z
        · obtain ⟨⟨x, y, e1⟩, e2, e3⟩ := each c z
          have e4 := s4 _ _ e1
          refine ⟨⟨x, y, ?_⟩, e2, e3⟩
          rw [upd_ne e3, upd_ne (ne_of_none e4 nd')]
          exact e4
        · rw [List.mem_singleton.mp z]
          refine ⟨⟨n, 0, ?_⟩, ?_, dD⟩
          · rw [upd_ne dD]
            exact upd_same
          · exact Same.free (Same.trans s3 s4) nd'
    · rintro H3 ⟨ds, hds, hD, s3, each⟩
      exact q D ds H3 s3 (by omega) hD (fun d hd => ⟨(each d hd).1, (each d hd).2.1⟩) nD
end
end FC
set_option Elab.async false
set_option linter.all false
set_option maxRecDepth 100000
set_option maxHeartbeats 4000000
namespace FC
open PySem L2
def strInt : V → Bool
  | .str _ => true
  | .int _ => true
  | _ => false
theorem strInt_nice {K : PySem.W.Frag} {H : Hp} {y : V} (h : strInt y = true) : Nice K H y := by
  cases y <;> first | exact Nice.str _ | exact Nice.int _ | cases h
/-- a drawn step: a tuple of a name and numbers, new -/
def spStepL : Sp := fun vs H Q _ => ∃ d : Addr, vs = [.ref d] ∧ Dice H d ∧ ∀ (t : Addr) (ys : List V) H', ys.length ≤ 10 → (∀ y ∈ ys, strInt y = true) → Dice H' d → SameX d H H' → H' t = some (.tup ys) → Q (.ref t) H'
def kindsL : List Str := ["line", "sums", "gaps", "anew", "keep", "turn", "every", "groups", "count", "twice", "line", "sums"]
section
variable {P : Program} {w : World} {K : PySem.W.Frag} {mg : Str → Option Value} {base : Heap}
theorem scStep : FnScope ["_law_dice", "_law_kinds", "_law_kind", "_law_factor", "_law_more"] ["_law_dice"] (defScope sStep) := ⟨rfl, rfl, rfl, by decide +kernel, rfl, by decide +kernel, by decide +kernel⟩
theorem ok_step {f : Addr} {fd : FuncData} (F : Fun K "_law_step" "_law_step" sStep f fd) (CR : Cal P w K mg base CX0 2 "_law_roll" ["_law_dice", "_law_many"] spRoll) (CT : Cal P w K mg base CX0 3 "_law_rest" ["_law_dice"] spRest) : FnOk P w K mg base CX0 4 f fd ["_law_dice"] spStepL := by
  refine F.ok scStep (fun vs H Q E h => ?_) (fun cdv A outer s H vs Q E hr h => ?_)
  · obtain ⟨a, rfl, _⟩ := h
    rfl
  · obtain ⟨d, rfl, hd, q⟩ := h
    have nd := scStep.nd
    have hr2 : Room 2 _ := hr.mono (by decide)
    refine ⟨_, pss_cons (ps_set (i := 1) nd rfl (Or.inl rfl) (pe_lst (pa_cons pe_str (pa_cons pe_str (pa_cons pe_str (pa_cons pe_str (pa_cons pe_str (pa_cons pe_str (pa_cons pe_str (pa_cons pe_str (pa_cons pe_str (pa_cons pe_str (pa_cons pe_str (pa_cons pe_str pa_nil))))))))))))))
      (pss_cons (ps_set (i := 2) nd rfl (Or.inl rfl) (pe_ix ix_list (pv 1) (pe_cal CR hr2 pass0 (pa_cons (pv 0) (pa_cons pe_int pa_nil))) (fun _ _ => rfl)))
      (pss_cons (ps_if (pt_cmpR op_in_seq (pv 2) (pe_tup (pa_cons pe_str (pa_cons pe_str (pa_cons pe_str (pa_cons pe_str pa_nil))))) rfl) (pss_one (ps_ret (pe_tup (pa_cons (pv 2) pa_nil)))) pss_nil)
      (pss_cons (ps_if (pt_cmpR op_eq (pv 2) pe_str (nomark _)) (pss_one (ps_ret (pe_tup (pa_cons (pv 2) (pa_cons (pe_op op_add pe_int (pe_cal CR hr2 pass0 (pa_cons (pv 0) (pa_cons pe_int pa_nil)))) pa_nil))))) pss_nil)
      (pss_cons (ps_par (i := 3) (j := 4) (by rfl) nd rfl rfl (by decide) rfl rfl (pa_cons (pe_ix ix_list (pe_lst (pa_cons pe_int (pa_cons (pe_un un_neg pe_int) (pa_cons pe_int (pa_cons pe_int (pa_cons pe_int (pa_cons pe_int pa_nil))))))) (pe_cal CR hr2 pass0 (pa_cons (pv 0) (pa_cons pe_int pa_nil))) (fun _ _ => rfl))
          (pa_cons (pe_op op_sub (pe_cal CR hr2 pass0 (pa_cons (pv 0) (pa_cons pe_int pa_nil))) pe_int) pa_nil)) (by rfl))
      (pss_cons (ps_if (pt_cmpR op_eq (pv 2) pe_str (nomark _)) (pss_one (ps_ret (pe_tup (pa_cons (pv 2) (pa_cons (pv 3) (pa_cons (pv 4) pa_nil)))))) pss_nil)
      (pss_cons (ps_if (pt_cmpR op_eq (pv 2) pe_str (nomark _)) (pss_one (ps_ret (pe_op op_catT (pe_op op_catT (pe_tup (pa_cons (pv 2) pa_nil)) (pe_cal CT hr pass0 (pa_cons (pv 0) pa_nil))) (pe_tup (pa_cons (pv 3) (pa_cons (pv 4) pa_nil)))))) pss_nil)
      (pss_one (ps_ret (pe_op op_catT (pe_tup (pa_cons (pv 2) pa_nil)) (pe_cal CT hr pass0 (pa_cons (pv 0) pa_nil))))))))))), ?_⟩
    -- the kinds
    refine ⟨(by show 12 ≤ sizeLine; decide), fun p np => ?_⟩
    have hp1 : upd H p (.lst (kindsL.map V.str)) p = some (.lst (kindsL.map V.str)) := upd_same
    have s1 : Same H (upd H p (.lst (kindsL.map V.str))) := same_upd (Same.refl H) np
    have npd : p ≠ d := (hd.ne np).symm
    have d1 := hd.same s1
    show (tSeq _ _) _ _ (upd H p (.lst (kindsL.map V.str)))
    generalize upd H p (.lst (kindsL.map V.str)) = H1 at hp1 s1 d1 ⊢
    refine ⟨_, rfl, _, rfl, d, 12, rfl, d1, by decide, by decide, fun r H2 r0 r1 d2 s2 => ?_⟩
    obtain ⟨j, rfl⟩ := Int.eq_ofNat_of_zero_le r0
    have hj : j < kindsL.length := by
      show j < 12
      omega
    have hk : (kindsL.map V.str)[j]? = some (V.str kindsL[j]) := by rw [List.getElem?_map, List.getElem?_eq_getElem hj]; rfl
    have hp2 := s2 _ _ hp1 npd
    refine ⟨p, _, _, .str kindsL[j], rfl, rfl, SqL.of hp2, atI_nat hk, ?_⟩
    have s2' : SameX d H H2 := (SameX.of s1).trans s2
    generalize kindsL[j] = z at *
    have two : ∀ n : Nat, n ≤ 10 → n ≤ sizeLine := fun n h => Nat.le_trans h (by decide)
    have keepD : ∀ {H' : Hp} {t : Addr} {o : HO}, Dice H' d → H' t = none → Dice (upd H' t o) d := fun {H' t o} h n => by
      obtain ⟨x, y, e⟩ := h
      exact ⟨x, y, by rw [upd_ne (ne_of_none e n)]; exact e⟩
    -- a lone name
    refine ⟨_, rfl, two 4 (by decide), fun t nt => ⟨t, _, rfl, .inr (SqT.of upd_same), rfl, by decide, _, rfl, ?_⟩⟩
    have d3 := keepD (o := .tup [.str "sums", .str "gaps", .str "count", .str "twice"]) d2 nt
    have s3 := s2'.upd (o := .tup [.str "sums", .str "gaps", .str "count", .str "twice"]) nt
    show if inV _ _ = true then tRet _ _ _ (upd H2 t (.tup [.str "sums", .str "gaps", .str "count", .str "twice"])) else tNext _ _ (upd H2 t (.tup [.str "sums", .str "gaps", .str "count", .str "twice"]))
    generalize upd H2 t (.tup [.str "sums", .str "gaps", .str "count", .str "twice"]) = H3 at d3 s3 ⊢
    refine ite2 (fun _ => ?_) (fun _ => ?_)
    · refine ⟨_, rfl, two 1 (by decide), fun b nb => ?_⟩
      exact q b [.str z] _ (by show 1 ≤ 10; decide) (by intro y hy; rw [List.mem_singleton.mp hy]; rfl) (keepD d3 nb) (s3.upd nb) upd_same
    -- groups
    refine ⟨_, rfl, rfl, _, rfl, ?_⟩
    refine ite2 (fun _ => ?_) (fun _ => ?_)
    · refine ⟨_, rfl, _, rfl, d, 2, rfl, d3, by decide, by decide, fun r H4 r0 r1 d4 s4 => ⟨_, _, rfl, rfl, two 2 (by decide), fun b nb => ?_⟩⟩
      refine q b [.str z, .int (2 + r)] _ (by show 2 ≤ 10; decide) ?_ (keepD d4 nb) ((s3.trans s4).upd nb) upd_same
      intro y hy
      simp only [List.mem_cons, List.not_mem_nil, or_false] at hy
      rcases hy with rfl | rfl <;> rfl
    -- factor, more
    refine ⟨_, rfl, two 6 (by decide), fun l nl => ?_⟩
    have d4 := keepD (o := .lst ([1, -1, 2, 0, 3, 1].map V.int)) d3 nl
    have s4 := s3.upd (o := .lst ([1, -1, 2, 0, 3, 1].map V.int)) nl
    have hl : upd H3 l (.lst ([1, -1, 2, 0, 3, 1].map V.int)) l = some (.lst ([1, -1, 2, 0, 3, 1].map V.int)) := upd_same
    have nld : l ≠ d := (d3.ne nl).symm
    refine ⟨_, rfl, d, 6, rfl, d4, by decide, by decide, fun r H5 r0 r1 d5 s5 => ?_⟩
    obtain ⟨i, rfl⟩ := Int.eq_ofNat_of_zero_le r0
    have hi : i < ([1, -1, 2, 0, 3, 1] : List Int).length := by
      show i < 6
      omega
    have hm : (([1, -1, 2, 0, 3, 1] : List Int).map V.int)[i]? = some (V.int (([1, -1, 2, 0, 3, 1] : List Int)[i])) := by rw [List.getElem?_map, List.getElem?_eq_getElem hi]; rfl
    have hl5 := s5 _ _ hl nld
    refine ⟨l, _, _, _, rfl, rfl, SqL.of hl5, atI_nat hm, ?_⟩
    generalize ([1, -1, 2, 0, 3, 1] : List Int)[i] = x
    refine ⟨_, rfl, d, 7, rfl, d5, by decide, by decide, fun r2 H6 _ _ d6 s6 => ⟨_, _, rfl, rfl, _, _, rfl, ?_⟩⟩
    have sX : SameX d H H6 := (s4.trans s5).trans s6
    clear hl hl5 hm s4 s5 s6 d3 d4 d5 s3
    -- line
    refine ⟨_, rfl, rfl, _, rfl, ?_⟩
    refine ite2 (fun _ => ?_) (fun _ => ?_)
    · refine ⟨_, rfl, _, rfl, _, rfl, two 3 (by decide), fun b nb => ?_⟩
      refine q b [.str z, .int x, .int (r2 - 3)] _ (by show 3 ≤ 10; decide) ?_ (keepD d6 nb) (sX.upd nb) upd_same
      intro y hy
      simp only [List.mem_cons, List.not_mem_nil, or_false] at hy
      rcases hy with rfl | rfl | rfl <;> rfl
    -- turn
    refine ⟨_, rfl, rfl, _, rfl, ?_⟩
    refine ite2 (fun _ => ?_) (fun _ => ?_)
    · refine ⟨_, rfl, two 1 (by decide), fun b nb => ?_⟩
      have d7 := keepD (o := .tup [.str z]) d6 nb
      have s7 := sX.upd (o := .tup [.str z]) nb
      have hb7 : upd H6 b (.tup [.str z]) b = some (.tup [.str z]) := upd_same
      have nbd : b ≠ d := (d6.ne nb).symm
      refine ⟨_, rfl, d, rfl, d7, fun t m r H8 _ _ _ d8 s8 _ ht => ?_⟩
      have hb8 := s8 _ _ hb7 nbd
      refine ⟨b, t, _, _, rfl, rfl, SqT.of hb8, SqT.of ht, by simp, two 3 (by decide), (fun z => by cases z), fun _ c nc => ?_⟩
      have d9 := keepD (o := .tup ([V.str z] ++ [V.int m, V.int r])) d8 nc
      have s9 := (s7.trans s8).upd (o := .tup ([V.str z] ++ [V.int m, V.int r])) nc
      have hc9 : upd H8 c (.tup ([V.str z] ++ [V.int m, V.int r])) c = some (.tup [.str z, .int m, .int r]) := upd_same
      refine ⟨_, rfl, _, rfl, two 2 (by decide), fun e ne => ?_⟩
      refine ⟨c, e, _, _, rfl, rfl, SqT.of ((upd_ne (ne_of_none hc9 ne)).trans hc9), SqT.of upd_same, by simp, two 5 (by decide), (fun z => by cases z), fun _ g ng => ?_⟩
      refine q g [.str z, .int m, .int r, .int x, .int (r2 - 3)] _ (by show 5 ≤ 10; decide) ?_ (keepD (keepD d9 ne) ng) ((s9.upd ne).upd ng) upd_same
      intro y hy
      simp only [List.mem_cons, List.not_mem_nil, or_false] at hy
      rcases hy with rfl | rfl | rfl | rfl | rfl <;> rfl
    -- the others
    · refine ⟨_, rfl, two 1 (by decide), fun b nb => ?_⟩
      have d7 := keepD (o := .tup [.str z]) d6 nb
      have s7 := sX.upd (o := .tup [.str z]) nb
      have hb7 : upd H6 b (.tup [.str z]) b = some (.tup [.str z]) := upd_same
      have nbd : b ≠ d := (d6.ne nb).symm
      refine ⟨_, rfl, d, rfl, d7, fun t m r H8 _ _ _ d8 s8 _ ht => ?_⟩
      have hb8 := s8 _ _ hb7 nbd
      refine ⟨b, t, _, _, rfl, rfl, SqT.of hb8, SqT.of ht, by simp, two 3 (by decide), (fun z => by cases z), fun _ c nc => ?_⟩
      refine q c [.str z, .int m, .int r] _ (by show 3 ≤ 10; decide) ?_ (keepD d8 nc) ((s7.trans s8).upd nc) upd_same
      intro y hy
      simp only [List.mem_cons, List.not_mem_nil, or_false] at hy
      rcases hy with rfl | rfl | rfl <;> rfl
end
end FC
set_option Elab.async false
set_option linter.all false
set_option maxRecDepth 100000
set_option maxHeartbeats 4000000
namespace FC
open PySem L2
theorem sqt_sameX {K : PySem.W.Frag} {H H' : Hp} {a d : Addr} {xs : List V} (h : SqT K H a xs) (hd : Dice H d) (s : SameX d H H') : SqT K H' a xs := by
  obtain ⟨x, y, e⟩ := hd
  rcases h with (h | ⟨o, h⟩) | h
  · exact .inl (.inl (s _ _ h (ne_of h e (by intro z; cases z))))
  · exact .inl (.inr ⟨o, s _ _ h (ne_of h e (by intro z; cases z))⟩)
  · exact .inr h
theorem stepOk_strInt {ys : List V} (h : stepOk ys = true) : ∀ y ∈ ys, strInt y = true := by
  obtain ⟨name, ns, rfl, _⟩ := stepOk_shape h
  intro y hy
  rcases List.mem_cons.mp hy with z | z
  · rw [z]
    rfl
  · obtain ⟨n, _, rfl⟩ := List.mem_map.mp z
    rfl
theorem chainAt_sameX {K : PySem.W.Frag} {H H' : Hp} {a d : Addr} {cs : List (List V)} (h : ChainAt K H a cs) (hc : chainOk cs = true) (hd : Dice H d) (s : SameX d H H') : ChainAt K H' a cs := by
  obtain ⟨xs, h1, h2⟩ := h
  refine ⟨xs, sqt_sameX h1 hd s, h2.len, fun i x o hx ho => ?_⟩
  have hi := get_lt ho
  rw [List.length_map] at hi
  have e : (cs.map some)[i]? = some (some cs[i]) := by rw [List.getElem?_map, List.getElem?_eq_getElem hi]; rfl
  rw [e] at ho
  have ho : some cs[i] = o := Option.some.inj ho
  subst ho
  obtain ⟨b, e1, e2, _⟩ := h2.at_ i x _ hx e
  exact ⟨b, e1, sqt_sameX e2 hd s, fun y hy => strInt_nice (stepOk_strInt (chainOk_steps hc _ (List.getElem_mem hi)) y hy)⟩
theorem Steps.snoc {K : PySem.W.Frag} {H : Hp} {xs : List V} {os : List (Option (List V))} {x : V} {o : Option (List V)} (h : Steps K H xs os) (hx : StepV K H x o) : Steps K H (xs ++ [x]) (os ++ [o]) := by
  refine ⟨by rw [List.length_append, List.length_append, h.len]; rfl, fun i y p hy hp => ?_⟩
  by_cases hi : i < xs.length
  · rw [List.getElem?_append_left hi] at hy
    rw [List.getElem?_append_left (by rw [← h.len]; exact hi)] at hp
    exact h.at_ i y p hy hp
  · have hi2 := get_lt hy
    rw [List.length_append] at hi2
    have hi2 : i < xs.length + 1 := hi2
    have ei : i = xs.length := by omega
    subst ei
    rw [List.getElem?_append_right (Nat.le_refl _), Nat.sub_self] at hy
    rw [h.len, List.getElem?_append_right (Nat.le_refl _), Nat.sub_self] at hp
    have hy : x = y := Option.some.inj hy
    have hp : o = p := Option.some.inj hp
    rw [← hy, ← hp]
    exact hx
/-- a drawn chain -/
def spChainL (K : PySem.W.Frag) : Sp := fun vs H Q _ => ∃ d : Addr, vs = [.ref d, .int 4] ∧ Dice H d ∧ ∀ (a : Addr) (cs : List (List V)) H', chainOk cs = true → ChainAt K H' a cs → Dice H' d → SameX d H H' → Q (.ref a) H'
section
variable {P : Program} {w : World} {K : PySem.W.Frag} {mg : Str → Option Value} {base : Heap}
theorem scChain : FnScope ["_law_dice", "_law_most", "_law_found", "_law_turn", "_law_more"] ["_law_dice", "_law_most"] (defScope sChain) := ⟨rfl, rfl, rfl, by decide +kernel, rfl, by decide +kernel, by decide +kernel⟩
theorem ok_chain {f : Addr} {fd : FuncData} (F : Fun K "_law_chain" "_law_chain" sChain f fd) (T : Blt mg) (CR : Cal P w K mg base CX0 2 "_law_roll" ["_law_dice", "_law_many"] spRoll) (CS : Cal P w K mg base CX0 4 "_law_step" ["_law_dice"] spStepL)
    (CC : Cal P w K mg base CX0 4 "is_chain" ["value"] (spIsChain K)) : FnOk P w K mg base CX0 5 f fd ["_law_dice", "_law_most"] (spChainL K) := by
  refine F.ok scChain (fun vs H Q E h => ?_) (fun cdv A outer s H vs Q E hr h => ?_)
  · obtain ⟨a, rfl, _⟩ := h
    rfl
  · obtain ⟨d, rfl, hd, q⟩ := h
    have nd := scChain.nd
    have hr2 : Room 2 _ := hr.mono (by decide)
    refine ⟨_, pss_cons (ps_set (i := 2) nd rfl (Or.inl rfl) (pe_tup pa_nil))
      (pss_cons (ps_for PassesOwn.never rfl (pi_range1 (by rfl) T.range (pa_cons (pe_cal CR hr2 pass0 (pa_cons (pv 0) (pa_cons (pe_op op_add (pv 1) pe_int) pa_nil))) pa_nil)) (pg_name (i := 3) nd rfl (Or.inl rfl))
        (pss_cons (ps_set (i := 4) nd rfl (Or.inl rfl) (pe_op op_catA (pv 2) (pe_tup (pa_cons (pe_cal CS hr pass0 (pa_cons (pv 0) pa_nil)) pa_nil))))
        (pss_one (ps_set (i := 2) nd rfl (Or.inl rfl) (pe_ifExp (pt_val (pe_cal CC hr pass0 (pa_cons (pv 4) pa_nil))) (pv 4) (pv 2))))))
      (pss_one (ps_ret (pv 2)))), ?_⟩
    have keepD : ∀ {H' : Hp} {t : Addr} {o : HO}, Dice H' d → H' t = none → Dice (upd H' t o) d := fun {H' t o} h n => by
      obtain ⟨x, y, e⟩ := h
      exact ⟨x, y, by rw [upd_ne (ne_of_none e n)]; exact e⟩
    refine ⟨(by show 0 ≤ sizeLine; decide), fun p np => ?_⟩
    have d1 := keepD (o := .tup []) hd np
    have s1 := (SameX.refl d H).upd (o := .tup []) np
    have c1 : ChainAt K (upd H p (.tup [])) p [] := ⟨[], SqT.of upd_same, rfl, fun i x o hx _ => by simp at hx⟩
    generalize upd H p (.tup []) = H1 at d1 s1 c1 ⊢
    refine ⟨_, rfl, _, rfl, _, _, rfl, rfl, d, 5, rfl, d1, by decide, by decide, fun r H2 r0 r1 d2 s2 => ?_⟩
    have c2 := chainAt_sameX c1 (by rfl) d1 s2
    have s2' := s1.trans s2
    clear c1 d1 s1 s2
    refine ⟨r, rfl, by omega, by omega, for_range (lo := 0) (n := r.toNat) (fun i σ H3 => ∃ (a : Addr) (cs : List (List V)) (v3 v4 : Option V), σ = [some (.ref d), some (.int 4), some (.ref a), v3, v4] ∧ chainOk cs = true ∧ ChainAt K H3 a cs ∧ Dice H3 d ∧ SameX d H H3)
      ⟨p, [], none, none, rfl, rfl, c2, d2, s2'⟩ ?_ ?_⟩
    · rintro i σ H3 hi ⟨a, cs, v3, v4, rfl, hc, hca, d3, s3⟩
      -- found + (a step,)
      refine ⟨_, rfl, _, rfl, d, rfl, d3, fun t ys H4 hy1 hy2 d4 s4 ht => ⟨(by show 1 ≤ sizeLine; decide), fun b nb => ?_⟩⟩
      have hca4 := chainAt_sameX hca hc d3 s4
      have s5 : Same H4 (upd H4 b (.tup [.ref t])) := same_upd (Same.refl H4) nb
      obtain ⟨xs, hxs, hst⟩ := hca4.same s5
      have hl := chainOk_len hc
      have hlx : xs.length ≤ 4 := by
        rw [hst.len, List.length_map]
        exact hl
      have d5 := keepD (o := .tup [.ref t]) d4 nb
      have ht5 : upd H4 b (.tup [.ref t]) t = some (.tup ys) := s5 _ _ ht
      have sX : SameX d H (upd H4 b (.tup [.ref t])) := (s3.trans s4).upd nb
      have hb5 : upd H4 b (.tup [.ref t]) b = some (.tup [.ref t]) := upd_same
      have stv : ∀ {H' : Hp}, Same (upd H4 b (.tup [.ref t])) H' → StepV K H' (.ref t) (some ys) := fun {H'} s => ⟨t, rfl, SqT.of (s _ _ ht5), fun y hy => strInt_nice (hy2 y hy)⟩
      -- what follows, for the longer tuple at m
      have fin : ∀ (D : Ends) (m : Addr) (H6 : Hp), Same (upd H4 b (.tup [.ref t])) H6 → ChainAt K H6 m (cs ++ [ys]) → Dice H6 d → SameX d H H6 →
          (∀ (a' : Addr) (cs' : List (List V)) (H7 : Hp), chainOk cs' = true → ChainAt K H7 a' cs' → Dice H7 d → SameX d H H7 → D.nx [some (.ref d), some (.int 4), some (.ref a'), some (.int (0 + i)), some (.ref m)] H7) →
          tAsg (tIf (tB (tCal (spIsChain K) E0 (tCons (tVar 4) tNil))) (tVar 4) (tVar 2)) (gName 2) D [some (.ref d), some (.int 4), some (.ref a), some (.int (0 + i)), some (.ref m)] H6 := by
        intro D m H6 s6 cm d6 sX6 go
        have cm' := cm.v
        refine ⟨_, rfl, .ref m, _, rfl, cm', fun H7 s7 => ⟨_, rfl, ?_⟩⟩
        show if chainOkL ((cs ++ [ys]).map some) = true then _ else _
        rw [chainOkL_some]
        refine ite2 (fun hok => ?_) (fun _ => ?_)
        · exact ⟨_, rfl, go m (cs ++ [ys]) H7 hok (cm.same s7) (d6.same s7) (sX6.trans (SameX.of s7))⟩
        · exact ⟨_, rfl, go a cs H7 hc ((hca4.same (Same.trans s5 s6)).same s7) (d6.same s7) (sX6.trans (SameX.of s7))⟩
      refine ⟨a, b, xs, [.ref t], rfl, rfl, hxs, SqT.of hb5, ?_, fun e => ?_, fun _ e => by simp at e, fun hx _ m nm => ?_⟩
      · show xs.length + 1 ≤ sizeLine
        exact Nat.le_of_lt (small1000 (by omega))
      · subst e
        refine fin _ b _ (Same.refl _) ⟨[.ref t], SqT.of hb5, ?_⟩ d5 sX (fun a' cs' H7 h1 h2 h3 h4 => ⟨a', cs', _, _, rfl, h1, h2, h3, h4⟩)
        have e0 : cs = [] := by
          have := hst.len
          rw [List.length_map] at this
          exact List.length_eq_zero_iff.mp this.symm
        subst e0
        exact Steps.snoc (xs := []) (os := []) hst (stv (Same.refl _))
      · have s6 := same_upd (o := .tup (xs ++ [.ref t])) (Same.refl (upd H4 b (.tup [.ref t]))) nm
        refine fin _ m _ s6 ⟨_, SqT.of upd_same, ?_⟩ (keepD d5 nm) (sX.upd nm) (fun a' cs' H7 h1 h2 h3 h4 => ⟨a', cs', _, _, rfl, h1, h2, h3, h4⟩)
        rw [List.map_append]
        exact (hst.same s6).snoc (stv s6)
    · rintro σ H3 ⟨a, cs, v3, v4, rfl, hc, hca, d3, s3⟩
      exact ⟨_, rfl, q a cs H3 hc hca d3 s3⟩
end
end FC
set_option Elab.async false
set_option linter.all false
set_option maxRecDepth 100000
set_option maxHeartbeats 4000000
/-! While an exception is handled: a list's iterator at its end, sums, a comprehension of numbers of truth values, isinstance of the exception itself. -/
namespace FC
open PySem PySem.Spec PyProof.Rows L2
section
variable {prog : Program} {w : World} {A : Around} {E : Value → Shared → Prop} {s : Shared}
/-- the iterator has nothing more to give -/
theorem list_out_hot {it l x1 : Addr} {i : Nat} {items : Array Value} {Q : Option Value → Shared → Prop} (hot : HotX.HotAt A x1 s.heap) (apart : x1 ≠ it) (p : s.heap.IsListIter it l i) (q : s.heap.IsList l items) (out : items[i]? = none)
    (go : ∀ h', Heap.ExtBut it s.heap h' → Q none { s with heap := h' }) : wpAny (model prog w) A (pyNext (.ref it)) Q E s := by
  obtain ⟨o, a1, a2, a3⟩ := id p
  obtain ⟨ol, b1, _, n, b3⟩ := q
  obtain ⟨hh, ox, vx, c1, c2, c3⟩ := hot
  unfold pyNext
  refine wpAny_bind (wpAny_attempt (wpAny_callSpecial?_slot (name := Str.ofString "__next__") p.typeIs slot_listiter_next (wpAny_call_entry slot_listiter_next p.typeIs entry_listiter_next ?_ (args_listiter_next _))))
  show wpAny _ _ (field (.ref it) 0 >>= fun _ => _) _ _ s
  refine wpAny_bind (wpAny_field a1 a3 (x := .ref l) rfl ?_)
  show wpAny _ _ (if (Value.ref l == Value.none) = true then _ else _) _ _ s
  rw [if_neg (fun z : (Value.ref l == Value.none) = true => Bool.noConfusion z)]
  show wpAny _ _ (field (.ref it) 1 >>= fun _ => _) _ _ s
  refine wpAny_bind (wpAny_field a1 a3 (x := .int i 0) rfl ?_)
  show wpAny _ _ (seqItems? (.ref l) >>= fun _ => _) _ _ s
  refine wpAny_bind (wpAny_seqItems b1 b3 ?_)
  simp only [Int.toNat_natCast, out]
  refine wpAny_bind (wpAny_rule (wpAny_bind (wpAny_setField a1 a3 (by simp) ?_)))
  show wpAny _ _ (newExc (.type "StopIteration") [] >>= fun _ => _) _ _ _
  refine wpAny_bind ?_
  simp only [newExc, newTuple]
  refine wpAny_bind (wpAny_newObj_type ?_ (by size_fits))
  refine wpAny_bind (m := firstArgMember _ _) (wpAny_of_eq (a := Value.none) (by first | rfl | (simp only [firstArgMember]; rfl)) ?_)
  refine wpAny_newObj_type ?_ (by size_fits)
  have up := fun (b : Addr) (u : Obj) (hb : it ≠ b) (e : s.heap.get? b = some u) => (Heap.get?_update_other s.heap (Obj.mapFields fun x => x.setIfInBounds 0 Value.none) hb).trans e
  refine HotX.raiseNew_hot ⟨hh, ox, vx, Heap.get?_push_of_some _ (Heap.get?_push_of_some _ (up x1 ox apart.symm c1)), c2, c3⟩ (Nat.ne_of_lt (Heap.lt_size (Heap.get?_push_of_some _ (up x1 ox apart.symm c1)))) (Heap.get?_push_size _ rfl) rfl
    (by first | (simp; done) | (simp; omega) | (simp only [Array.size_append]; simp; omega)) ?_
  refine wpAny_bind (wpAny_isInstance (T := "StopIteration") (b := true) ⟨_, Heap.get?_update_self _ (Heap.get?_push_size _ rfl) rfl, rfl⟩ isSubtype_stop ?_)
  refine wpAny_pure (go _ fun b u hb e => ?_)
  have e2 := up b u (fun z => hb z.symm) e
  rw [Heap.get?_update_other _ _ (Nat.ne_of_gt (Heap.lt_size (Heap.get?_push_of_some _ e2)))]
  exact Heap.get?_push_of_some _ (Heap.get?_push_of_some _ e2)
/-- a list's items, one after the other, while the exception at x1 is handled -/
theorem walk_hot {I l x1 : Addr} {items : Array Value} (apart : x1 ≠ I) (other : l ≠ I) :
    Walks prog w A I [I, l, x1] [I] items.size (fun i v => items[i]? = some v) (fun i h => h.IsListIter I l i ∧ h.IsList l items ∧ HotX.HotAt A x1 h) where
  sub := fun b hb => by
    rw [List.mem_singleton.mp hb]
    simp
  frame := fun i h h' st keep => by
    obtain ⟨⟨o, a1, a2, a3⟩, ⟨u, b1, b2⟩, hh, ox, vx, c1, c2⟩ := st
    exact ⟨⟨o, keep I (by simp) o a1, a2, a3⟩, ⟨u, keep l (by simp) u b1, b2⟩, hh, ox, vx, keep x1 (by simp) ox c1, c2⟩
  item := fun i s Q E hi st go => by
    obtain ⟨p, q, hh, ox, vx, c1, c2⟩ := st
    refine wpAny_pyNext_list_item p q (x := items[i]) (by simp [hi]) fun h' p' same => ?_
    exact go _ h' s.toks (by simp [hi]) ⟨p', q.extBut same.extBut other, hh, ox, vx, (same.2 x1 apart).trans c1, c2⟩ fun b o hb e => (same.2 b (fun z => hb (by simp [z]))).trans e
  done := fun s Q E st go => list_out_hot st.2.2 apart st.1 st.2.1 (by simp) fun h' ext => go h' s.toks fun b o hb e => ext b o (fun z => hb (by simp [z])) e
  self := fun _ _ _ _ st go => wpAny_pyIter_listiter st.1 go
theorem hot_fresh {x1 : Addr} {h : Heap} (hot : HotX.HotAt A x1 h) : x1 < h.objs.size := by
  obtain ⟨_, _, _, e, _⟩ := hot
  exact Heap.lt_size e
theorem hot_push {x1 : Addr} {h : Heap} {o : Obj} (hot : HotX.HotAt A x1 h) : HotX.HotAt A x1 (h.push o) := by
  obtain ⟨a, u, v, e, c⟩ := hot
  exact ⟨a, u, v, Heap.get?_push_of_some _ e, c⟩
theorem list_lt {l : Addr} {items : Array Value} {h : Heap} (hl : h.IsList l items) : l < h.objs.size := by
  obtain ⟨_, e, _⟩ := hl
  exact Heap.lt_size e
end
section
variable {X : Cx}
/-- sum of a list of numbers -/
theorem sum_hot (hc : L2H.HotC X) : CallR X (.builtin "sum") (rSum X.K) := by
  intro pins s σ H vs us Q I r h
  obtain ⟨a, ns, rfl, hs, q⟩ := h
  obtain ⟨its, rv, hl, _⟩ := I.list hs
  rw [Vals.ref1 r]
  obtain ⟨x1, hot⟩ := hc.at I
  obtain ⟨xs, e⟩ := rv.ints.allInts.items
  have hn : numsOf (intItems xs).toList = ns := by
    rw [← e]
    exact rv.ints.numsOf
  rw [nums_intItems] at hn
  have hl' := hl.isList
  rw [e] at hl'
  have l1 := hot_fresh hot
  have l2 := list_lt hl'
  refine PySem.call_sum_walkG (wpAny_pyIter_list hl' ?_)
  refine ⟨s.heap.objs.size, [s.heap.objs.size, a, x1], [s.heap.objs.size], _, _, _, numAt xs, rfl, walk_hot (Nat.ne_of_lt l1) (Nat.ne_of_lt l2), ⟨⟨_, Heap.get?_push_size _ rfl, rfl, rfl⟩, hl'.push _, hot_push hot⟩, fun b hb => ?_, fun _ _ => intItems_at, fun h' tk t' keep => ?_⟩
  · show b < (s.heap.push _).objs.size
    rw [Heap.size_push]
    have hb : b = s.heap.objs.size ∨ b = a ∨ b = x1 := by simpa using hb
    rcases hb with z | z | z
    · rw [z]
      exact Nat.lt_succ_self _
    · rw [z]
      exact Nat.lt_succ_of_lt l2
    · rw [z]
      exact Nat.lt_succ_of_lt l1
  · have ev : preSum (numAt xs) (intItems xs).size = ns.sum := by
      have : (intItems xs).size = xs.size := by simp [intItems]
      rw [this, preSum_eq, List.take_of_length_le (by simp), hn]
    rw [ev]
    refine ⟨.int ns.sum, H, I.kept (t' := tk) fun b o e2 => keep b o (fun z => ?_) (Heap.get?_push_of_some _ e2), ⟨_, rfl⟩, q⟩
    rw [List.mem_singleton.mp z] at e2
    exact Nat.lt_irrefl _ (Heap.lt_size e2)
/-- isinstance of the exception that is handled -/
theorem isi_hot {p : Addr × Obj} {D : Addr} (hp : p ∈ X.pn) (C : ExcC X.K D) (hz : Zc (.ref D) none p.2) (hf : ∃ vs, p.2.data = .fields vs) : CallR X (.builtin "isinstance") (rIsE X.K D p.1) := by
  intro pins s σ H xs us Q I r h
  obtain ⟨c, u, b, rfl, hu, e, q⟩ := h
  obtain ⟨u1, u2, rfl, r1, r2⟩ := vals2 r
  cases (show u1 = Value.ref p.1 from r1)
  have e2 := hu _ r2
  subst e2
  have at_ := (I.pin p (List.mem_append_left _ hp)).1
  obtain ⟨vs, hv⟩ := hf
  have J : PySem.W.InstAt s.heap p.1 p.2 D none := by
    obtain ⟨a, oc, od, oda, osl⟩ := p
    obtain ⟨h1, h2⟩ := hz
    dsimp only at h1 h2 hv at_ ⊢
    subst h1 h2 hv
    exact ⟨at_, rfl, rfl, trivial⟩
  exact PySem.W.kia_one (PySem.W.handS_kitx_exc C.hg C.hk C.hs C.hd C.ha C.hn C.ht C.hm) I.kIn J e (fun z => nomatch z) fun tk => ⟨.bl b, H, I.kept (t' := tk) fun _ _ z => z, rfl, q⟩
end
end FC
set_option Elab.async false
set_option linter.all false
set_option maxRecDepth 100000
set_option maxHeartbeats 4000000
namespace FC
open PySem PySem.Spec PyProof.Rows L2
def b01 (b : Bool) : Int := if b then 1 else 0
/-- [int(x) for x in flags], flags in slot i -/
def tInts (K : PySem.W.Frag) (i : Nat) : TE := fun σ H Q => ∃ (a : Addr) (bs : List Bool), σ[i]? = some (some (.ref a)) ∧ SqL K H a (bs.map V.bl) ∧ ∀ D, H D = Option.none → Q (.ref D) (upd H D (.lst ((bs.map b01).map V.int)))
theorem bools_of : ∀ {bs : List Bool} {us : List Value}, Vals (bs.map V.bl) us → us = bs.map Value.bool
  | [], _, .nil => rfl
  | b :: r, _, .cons h t => by
    rw [bools_of (bs := r) t]
    cases h
    rfl
section
variable {X : Cx}
theorem pe_ints_hot {i : Nat} {x y : Str} {scope : Scope} {p1 p2 p3 p4 p5 pos : Pos} (hc : L2H.HotC X) (hi : X.mg "int" = Option.none) (hN : X.N[i]? = some y) (hv : Vis X.env.scope y) (hd : (y == ("__debug__" : Str)) = false) (hcd : (y == ("__classdict__" : Str)) = false)
    (hkind : scope.kind = .function) (hcell : ∀ z ∈ scope.names, z.2 ≠ .cell) (hfree : ∀ z ∈ scope.names, z.2 ≠ .free) (hnames : ∀ z ∈ scope.names, z.2 = .local → scope.names.lookup z.1 = some .local) (hx : scope.names.lookup x = some .local) (hxd : (x == ("__debug__" : Str)) = false)
    (hint : ∀ C cl, (compEnvC scope cl C X.env).kindOf "int" = some .globalImplicit) (hxl : ∀ C cl, (compEnvC scope cl C X.env).kindOf x = some .local)
    (hst : ∀ C cl, starEach [.Name x p2] (compEnvC scope cl C X.env) = (false, eval (.Name x p2) (compEnvC scope cl C X.env)) :: starEach [] (compEnvC scope cl C X.env)) :
    PE X (.ListComp (.Call (.Name "int" p1) [.Name x p2] [] p3) [⟨.Name x p4, .Name y p5, [], 0⟩] scope pos) (tInts X.K i) := by
  refine ⟨fun pins s σ H Q I h => ?_⟩
  obtain ⟨a, bs, hs, ha, q⟩ := h
  obtain ⟨its, rv, hl, hz⟩ := I.list ha
  have eits := bools_of rv
  obtain ⟨x1, hot⟩ := hc.at I
  have l1 := hot_fresh hot
  have l2 := list_lt hl.isList
  have noF : ∀ z ∈ scope.names, z.2 = .free → ∃ c, X.env.cells.lookup z.1 = some c := fun z hz e => absurd e (hfree z hz)
  obtain ⟨mb, hb1, hb2⟩ := I.mod.blt
  refine wpAny_ListComp_free (fun _ => true) (fun v u => ∃ b t, v = Value.bool b ∧ u = Value.int (b01 b) t) (closure_ok noF) hcell hkind hnames hx ?_
  refine thn ((pe_var (pos := p5) hN hv hd hcd).run pins s σ H (fun v H1 => v = .ref a ∧ H1 = H) I ⟨.ref a, hs, rfl, rfl⟩) fun u s1 ⟨v, H1, I1, r1, e1, e2⟩ => ?_
  subst e1 e2
  obtain rfl : u = Value.ref a := r1
  obtain ⟨its1, rv1, hl1, _⟩ := I1.list ha
  have eits1 := bools_of rv1
  obtain ⟨x2, hot1⟩ := hc.at I1
  have l3 := hot_fresh hot1
  have l4 := list_lt hl1.isList
  refine wpAny_pyIter_list hl1.isList ?_
  refine ⟨s1.heap.objs.size, [s1.heap.objs.size, a, x2], [s1.heap.objs.size], _, _, _, rfl, walk_hot (Nat.ne_of_lt l3) (Nat.ne_of_lt l4), ?_, ⟨⟨_, Heap.get?_push_size _ rfl, rfl, rfl⟩, hl1.isList.push _, hot_push hot1⟩, fun b hb => ?_, ⟨?_, ?_⟩, ?_⟩
  · have := rv1.length
    simp only [List.size_toArray]
    omega
  · show b < (s1.heap.push _).objs.size
    rw [Heap.size_push]
    have hb : b = s1.heap.objs.size ∨ b = a ∨ b = x2 := by simpa using hb
    rcases hb with z | z | z
    · rw [z]
      exact Nat.lt_succ_self _
    · rw [z]
      exact Nat.lt_succ_of_lt l4
    · rw [z]
      exact Nat.lt_succ_of_lt l3
  · intro C j v s3 m3 E' _ _ _ _ _ _
    exact wpAny_tests_nil ⟨rfl, s3.heap, s3.toks, rfl, fun _ _ e => e⟩
  · intro C j v s3 m3 E' hC hj _ hn hm keep tk
    have kb : ∀ b o, X.base.get? b = some o → s3.heap.get? b = some o := fun b o e => keep b o (fun z => by
      have := Heap.lt_size (I1.bk b o e)
      rw [List.mem_singleton.mp z] at this
      exact Nat.lt_irrefl _ this) (Heap.get?_push_of_some _ (I1.bk b o e))
    obtain ⟨b, rfl⟩ : ∃ b, v = Value.bool b := by
      rw [eits1] at hj
      simp only [List.getElem?_toArray, List.getElem?_map] at hj
      cases e : bs[j]? with
      | none =>
        rw [e] at hj
        cases hj
      | some b =>
        rw [e] at hj
        exact ⟨b, (Option.some.inj hj).symm⟩
    have hk : (compEnvC scope (cloFrom X.env.cells scope.names []) C X.env).scope.kind = .function := hkind
    refine wpAny_Call_Name_kw (Calls.Name_function_global hk (hint C _) (Calls.loadGlobal_builtin (by show s3.heap.Ns X.env.globals X.mg; rw [I1.ok.glob]; exact I1.mod.glob.keeps kb) hi (by show s3.heap.Ns X.env.builtins mb; rw [I1.ok.blt]; exact hb1.keeps kb) ((hb2 "int" (by decide)).trans (show bootBuiltins "int" = some (.type "int") by decide +kernel)) ?_))
    refine PyProof.Rows.callWith_type1 (Calls.spliced_cons (wpAny_Name (wpAny_loadName_local hk (hxl C _) hn hm ?_) hxd)) (hst C _) (by rfl)
    refine Calls.spliced_nil (call_int_bool ⟨⟨b, _, rfl, rfl⟩, s3.heap, s3.toks + 1, rfl, fun _ _ e => e⟩)
  · intro D h' tk ys vs hD _ hp hlen hP hF keep
    have evs : vs = bs.map Value.bool := by
      rw [← eits1]
      refine List.ext_getElem? fun j => ?_
      by_cases hj : j < vs.length
      · have e1 : vs[j]? = some vs[j] := List.getElem?_eq_getElem hj
        have e2 := hP j _ e1
        rw [e1]
        simpa using e2.symm
      · rw [List.getElem?_eq_none (by omega), List.getElem?_eq_none (by simpa [hlen] using hj)]
    have hF' : Paired (fun v u => ∃ b t, v = Value.bool b ∧ u = Value.int (b01 b) t) vs ys.toList := by
      have e : vs.filter (fun _ => true) = vs := List.filter_eq_self.mpr fun _ _ => rfl
      rw [← e]
      exact hF
    rw [evs] at hF'
    have rvals : Vals ((bs.map b01).map V.int) ys.toList := by
      have all : ∀ (bs : List Bool) (us : List Value), Paired (fun v u => ∃ b t, v = Value.bool b ∧ u = Value.int (b01 b) t) (bs.map Value.bool) us → Vals ((bs.map b01).map V.int) us := by
        intro bs
        induction bs with
        | nil =>
          intro us h
          cases h
          exact .nil
        | cons b r ih =>
          intro us h
          cases h with
          | cons h t =>
            obtain ⟨b', t', e1, e2⟩ := h
            cases e1
            rw [e2]
            exact .cons ⟨_, rfl⟩ (ih _ t)
      exact all bs _ hF'
    obtain ⟨n, hp⟩ := hp
    have kk : ∀ b o, s1.heap.get? b = some o → h'.get? b = some o := fun b o e => keep b o (fun z => by
      have := Heap.lt_size e
      rw [List.mem_singleton.mp z] at this
      exact Nat.lt_irrefl _ this) (Heap.get?_push_of_some _ e)
    have hD1 : s1.heap.get? D = Option.none := by
      cases e : s1.heap.get? D with
      | none => rfl
      | some o =>
        have := Heap.get?_push_of_some (h := s1.heap) { cls := .type "list_iterator", data := .fields #[.ref a, .int 0 0] } e
        have h2 : (s1.heap.push { cls := .type "list_iterator", data := .fields #[.ref a, .int 0 0] }).get? D = Option.none := hD
        rw [h2] at this
        cases this
    have hDn : H1 D = Option.none := I1.hok.gone hD1
    have I2 : Inv X pins σ (upd H1 D (.lst ((bs.map b01).map V.int))) { s1 with heap := h', toks := tk } := by
      refine I1.laidN (t' := tk) kk hD1 hDn ⟨?_, ys.toList, n, rvals, ?_⟩
      · have := rv1.length
        rw [List.length_map, List.length_map]
        rw [List.length_map] at this hz
        omega
      · simpa using hp
    exact ⟨.ref D, _, I2, rfl, q D hDn⟩
end
end FC
set_option Elab.async false
set_option linter.all false
set_option maxRecDepth 100000
set_option maxHeartbeats 4000000
/-! A def that is called within an except suite and is told of the exception that is handled. -/
namespace FC
open PySem PySem.Spec PyProof.Rows L2
structure FnP (P : Program) (w : World) (K : PySem.W.Frag) (mg : Str → Option Value) (base : Heap) (k : Nat) (f : Addr) (fd : FuncData) (ps : List Str) (sp : Addr × Obj → Sp) : Prop where
  len : ∀ p vs H Q E, sp p vs H Q E → vs.length = ps.length
  run : ∀ (p : Addr × Obj) (A : Around) (out : List Env) (s : Shared) (H : Hp) (args : Args) (us : List Value) (vs : List V) (Q : VK) (E : XK), L2H.RoomH k A → L2H.Hot1 A p → L2H.PinOk out H s p → Env0 P w K mg base A out s H →
    BindsTo s fd args (ps.zip us) → Vals vs us → sp p vs H Q E → codeAny (model P w) A (.call (.ref f) args) (CR CX0 out P w H s Q E) s
theorem okP {P : Program} {w : World} {K : PySem.W.Frag} {mg : Str → Option Value} {base : Heap} {x : Str} {st : Stmt} {f : Addr} {fd : FuncData} {N ps : List Str} {k : Nat} {sp : Addr × Obj → Sp} (F : Fun K x x st f fd) (S : FnScope N ps (defScope st))
    (len : ∀ p vs H Q E, sp p vs H Q E → vs.length = ps.length)
    (body : ∀ (c : Value) (p : Addr × Obj) (A : Around) (out : List Env) (s : Shared) (H : Hp) (vs : List V) (Q : VK) (E : XK), L2H.Hot1 A p → L2H.RoomH k (A.deeper (envOfC x (defScope st) s.heap.objs.size f c)) → sp p vs H Q E →
      ∃ t, PSs (L2H.cxH CX0 P w K mg base N x (defScope st) f c A out s H E p) (defBody st) t ∧ t { nx := fun _ H' => Q .non H', rt := Q } (L2.start N vs) H) : FnP P w K mg base (k + 1) f fd ps sp := by
  obtain ⟨oc, od, kV, doc, pm, an, c, ct, osl, rfl, lk, code⟩ := F.ex
  refine ⟨len, fun p A out s H args us vs Q E room hot pin e0 bind rel told => ?_⟩
  have old : ∀ b o, base.get? b = some o → s.heap.get? b = some o := fun b o e => (e0.bs b o e).1
  have KX : K.In s.heap := e0.mod.kin.keeps old
  have kinds : ∀ y ∈ ps.zip us, (defScope st).names.lookup y.1 = some .local ∨ ((defScope st).names.lookup y.1 = some .cell ∧ ((cellsFrom (s.heap.objs.size + 1) (defScope st).names []).lookup y.1).isSome = true) := by
    rintro ⟨n, u⟩ hy
    exact (S.par n (List.of_mem_zip hy).1).elim .inl fun q => .inr ⟨q, PySem.W.cellsFrom_some _ _ _ (.inl q)⟩
  refine codeAny_call_function room.depth (KX _ _ lk) rfl S.co S.gen rfl (PySem.W.codeRec_of KX code) (bind _ _ _ _ (wpAny_newFunctionEnv_cells S.kind kinds fun env he s1 x => ?_))
  subst he
  refine ⟨(e0.mod.nolimit.keeps old).keeps x.toInCall.keep, codeAny_func ?_⟩
  obtain ⟨t, run, told'⟩ := body c p A out s H vs Q E hot (room.deeper _) told
  have I := L2H.inv_startH (CX := CX0) (E := E) S pin e0 (len _ _ _ _ _ told) rel x
  refine wpAny_mono (run.run [] s1 (L2.start N vs) H _ I told') (fun fl s' hs => ?_) fun _ _ hs => hs
  cases fl with
  | ret u =>
    obtain ⟨v, σ', H', J, rv, q⟩ := hs
    exact ⟨v, H', J.os, J.bare, J.base, J.hok, rv, q⟩
  | next =>
    obtain ⟨σ', H', J, q⟩ := hs
    exact ⟨V.non, H', J.os, J.bare, J.base, J.hok, rfl, q⟩
  | brk =>
    obtain ⟨_, _, _, q⟩ := hs
    exact q.elim
  | cont =>
    obtain ⟨_, _, _, q⟩ := hs
    exact q.elim
section
variable {X : Cx} {k : Nat} {f : Addr} {fd : FuncData} {ps : List Str} {sp : Addr × Obj → Sp} {x : Str} {e : Expr} {es : List Expr} {t : TA} {q pos : Pos} {p : Addr × Obj}
theorem pe_callP (F : FnP X.prog X.w X.K X.mg X.base k f fd ps sp) (hr : L2H.RoomH k X.A) (hot : L2H.Hot1 X.A p) (hp : p ∈ X.pn) (hg : Gl X x) (hm : X.mg x = some (.ref f)) (hk : PySem.W.keepIn X.K (.ref f) = true) (hb : Binds X.K fd ps []) (ha : PA X (e :: es) t)
    (hd : (x == ("__debug__" : Str)) = false := by decide) (he : starEach (e :: es) X.env = (false, eval e X.env) :: starEach es X.env := by rfl) (hpl : (backTo pos (starEach es X.env)).any (·.1) = false := by rfl) :
    PE X (.Call (.Name x q) (e :: es) [] pos) (tCal (sp p) E0 t) := by
  refine ⟨fun pins s σ H Q I told => wpAny_Call_Name_kw (ld_glob I hg hm ?_ hd)⟩
  refine PySem.W.callWith_K (h₀ := X.base) I.ok.mod.kin hk (thn (ha.run pos pins s σ H _ I told) fun us s1 hh => ?_) he hpl
  obtain ⟨vs, H1, I1, rel, told1⟩ := hh
  refine ⟨I1.kIn, ?_⟩
  have bind := hb s1 us I1.kIn (by rw [List.append_nil, ← rel.length]; exact F.len _ _ _ _ _ told1)
  rw [List.append_nil] at bind
  obtain ⟨a1, a2, a3, a4, a5⟩ := I1.pin p (List.mem_append_left _ hp)
  have pin : L2H.PinOk X.stack H1 s1 p := ⟨a1, a2, fun z => (List.mem_cons.mp (I1.stkSub p.1 z)).elim a3 a4, a5⟩
  refine wpAny_call (codeAny_mono (F.run p X.A X.stack s1 H1 ⟨us, []⟩ us vs Q E0 hr hot pin I1.env0 bind rel told1) fun r s' hq => ?_)
  cases r with
  | error e => exact (show False from hq).elim
  | ok fl =>
    cases fl with
    | ret u => exact I1.after hq
    | next => exact False.elim hq
    | brk => exact False.elim hq
    | cont => exact False.elim hq
end
end FC
set_option Elab.async false
set_option linter.all false
set_option maxRecDepth 100000
set_option maxHeartbeats 4000000
namespace FC
open PySem L2
def termNames : List Str := ["InvalidChain", "InvalidRow", "InvalidNumber", "InvalidText", "TooMany", "NothingToUndo"]
/-- the six classes stand at c0 .. c5 -/
structure SixT (mg : Str → Option Value) (c0 c1 c2 c3 c4 c5 : Addr) : Prop where
  g0 : mg "InvalidChain" = some (.ref c0)
  g1 : mg "InvalidRow" = some (.ref c1)
  g2 : mg "InvalidNumber" = some (.ref c2)
  g3 : mg "InvalidText" = some (.ref c3)
  g4 : mg "TooMany" = some (.ref c4)
  g5 : mg "NothingToUndo" = some (.ref c5)
/-- D is the i-th of them -/
structure OneT (K : PySem.W.Frag) (D : Addr) (i : Nat) (c0 c1 c2 c3 c4 c5 : Addr) : Prop where
  lt : i < 6
  ex : ExcC K D
  k0 : PySem.W.kitOne K (.ref D) (.ref c0) = some (decide (0 = i))
  k1 : PySem.W.kitOne K (.ref D) (.ref c1) = some (decide (1 = i))
  k2 : PySem.W.kitOne K (.ref D) (.ref c2) = some (decide (2 = i))
  k3 : PySem.W.kitOne K (.ref D) (.ref c3) = some (decide (3 = i))
  k4 : PySem.W.kitOne K (.ref D) (.ref c4) = some (decide (4 = i))
  k5 : PySem.W.kitOne K (.ref D) (.ref c5) = some (decide (5 = i))
  kv : PySem.W.kitOne K (.ref D) (.type "ValueError") = some true
def spTerm (K : PySem.W.Frag) (c0 c1 c2 c3 c4 c5 : Addr) : Addr × Obj → Sp := fun p vs H Q _ => ∃ (D : Addr) (i : Nat) (z : Str), vs = [.ref p.1] ∧ Zc (.ref D) none p.2 ∧ (∃ us, p.2.data = .fields us) ∧ OneT K D i c0 c1 c2 c3 c4 c5 ∧ termNames[i]? = some z ∧
  ∀ t H', Same H H' → H' t = some (.tup [.str "error", .str z]) → Q (.ref t) H'
section
variable {P : Program} {w : World} {K : PySem.W.Frag} {mg : Str → Option Value} {base : Heap} {c0 c1 c2 c3 c4 c5 : Addr}
theorem scTerm : FnScope ["_law_e", "_law_flags", "_law_kinds"] ["_law_e"] (defScope sTerm) := ⟨rfl, rfl, rfl, by decide +kernel, rfl, by decide +kernel, by decide +kernel⟩
theorem ok_term {f : Addr} {fd : FuncData} (F : Fun K "_law_term" "_law_term" sTerm f fd) (T : Blt mg) (G : SixT mg c0 c1 c2 c3 c4 c5) : FnP P w K mg base 1 f fd ["_law_e"] (spTerm K c0 c1 c2 c3 c4 c5) := by
  refine okP F scTerm (fun p vs H Q E h => ?_) (fun cdv p A outer s H vs Q E hot hr h => ?_)
  · obtain ⟨_, _, _, rfl, _⟩ := h
    rfl
  · obtain ⟨D, i, z, rfl, hz, hf, O, hzi, k⟩ := h
    have nd := scTerm.nd
    have hc : L2H.HotC (L2H.cxH CX0 P w K mg base ["_law_e", "_law_flags", "_law_kinds"] "_law_term" (defScope sTerm) f cdv A outer s H E p) := ⟨p, hot, List.mem_cons_self⟩
    have hI := isi_hot (X := L2H.cxH CX0 P w K mg base ["_law_e", "_law_flags", "_law_kinds"] "_law_term" (defScope sTerm) f cdv A outer s H E p) (p := p) (D := D) List.mem_cons_self O.ex hz hf
    refine ⟨_, pss_cons (ps_set (i := 1) nd rfl (Or.inl rfl) (pe_lst (pa_cons (pe_callB hI (by rfl) T.isi (by decide +kernel) (pa_cons (pv 0) (pa_cons (pe_glob (v := .ref c0) rfl G.g0 rfl) pa_nil)))
          (pa_cons (pe_callB hI (by rfl) T.isi (by decide +kernel) (pa_cons (pv 0) (pa_cons (pe_glob (v := .ref c1) rfl G.g1 rfl) pa_nil))) (pa_cons (pe_callB hI (by rfl) T.isi (by decide +kernel) (pa_cons (pv 0) (pa_cons (pe_glob (v := .ref c2) rfl G.g2 rfl) pa_nil))) pa_nil)))))
      (pss_cons (ps_set (i := 1) nd rfl (Or.inl rfl) (pe_op op_cat (pv 1) (pe_lst (pa_cons (pe_callB hI (by rfl) T.isi (by decide +kernel) (pa_cons (pv 0) (pa_cons (pe_glob (v := .ref c3) rfl G.g3 rfl) pa_nil)))
          (pa_cons (pe_callB hI (by rfl) T.isi (by decide +kernel) (pa_cons (pv 0) (pa_cons (pe_glob (v := .ref c4) rfl G.g4 rfl) pa_nil))) (pa_cons (pe_callB hI (by rfl) T.isi (by decide +kernel) (pa_cons (pv 0) (pa_cons (pe_glob (v := .ref c5) rfl G.g5 rfl) pa_nil))) pa_nil))))))
      (pss_cons (ps_set (i := 2) nd rfl (Or.inl rfl) (pe_lst (pa_cons pe_str (pa_cons pe_str (pa_cons pe_str (pa_cons pe_str (pa_cons pe_str (pa_cons pe_str pa_nil))))))))
      (pss_cons (ps_if (PW.pt (pw_or (pt_cmpR op_ne (pe_callB (sum_hot hc) (by rfl) T.sum (by decide +kernel) (pa_cons (pe_ints_hot (i := 1) hc T.int rfl (Or.inl rfl) (by decide) (by decide) rfl (by decide +kernel) (by decide +kernel) (by decide +kernel) (by decide +kernel) (by decide)
            (fun _ _ => by rfl) (fun _ _ => by rfl) (fun _ _ => by rfl)) pa_nil)) pe_int (nomark _))
          (pw_or1 (pt_not (pt_val (pe_callB hI (by rfl) T.isi (by decide +kernel) (pa_cons (pv 0) (pa_cons (pe_bltn (v := .ty "ValueError") (by rfl) T.vErr (by decide +kernel) rfl) pa_nil)))))))) (pss_one (ps_ret (pe_tup (pa_cons pe_str (pa_cons pe_str pa_nil))))) pss_nil)
      (pss_one (ps_ret (pe_tup (pa_cons pe_str (pa_cons (pe_ix ix_list (pv 2) (pe_bm PySem.F.plainAttrs_list PySem.F.slot_list_index PySem.F.type_list_index mt_index (pv 1) (pa_cons pe_bl pa_nil)) (fun _ _ => rfl)) pa_nil)))))))), ?_⟩
    have two : ∀ n : Nat, n ≤ 10 → n ≤ sizeLine := fun n h => Nat.le_trans h (by decide)
    have one : ∀ {a : Addr} {u : Value}, RelV (.ref a) u → u = .ref a := fun h => h
    refine ⟨_, rfl, _, _, _, rfl, fun u h => h, O.k0, _, rfl, _, _, _, rfl, fun u h => h, O.k1, _, rfl, _, _, _, rfl, fun u h => h, O.k2, two 3 (by decide), fun a na => ?_⟩
    have s1 := same_upd (o := .lst [.bl (decide (0 = i)), .bl (decide (1 = i)), .bl (decide (2 = i))]) (Same.refl H) na
    have ha : upd H a (.lst [.bl (decide (0 = i)), .bl (decide (1 = i)), .bl (decide (2 = i))]) a = some (.lst [.bl (decide (0 = i)), .bl (decide (1 = i)), .bl (decide (2 = i))]) := upd_same
    refine ⟨_, rfl, _, rfl, _, _, _, rfl, fun u h => h, O.k3, _, rfl, _, _, _, rfl, fun u h => h, O.k4, _, rfl, _, _, _, rfl, fun u h => h, O.k5, two 3 (by decide), fun b nb => ?_⟩
    have s2 := same_upd (o := .lst [.bl (decide (3 = i)), .bl (decide (4 = i)), .bl (decide (5 = i))]) s1 nb
    refine ⟨a, b, _, _, rfl, rfl, (upd_ne (ne_of_none ha nb)).trans ha, upd_same, two 6 (by decide), fun c nc => ?_⟩
    have s3 := same_upd (o := .lst ([0, 1, 2, 3, 4, 5].map fun j => V.bl (decide (j = i)))) s2 nc
    have hc3 : upd (upd (upd H a (.lst [.bl (decide (0 = i)), .bl (decide (1 = i)), .bl (decide (2 = i))])) b (.lst [.bl (decide (3 = i)), .bl (decide (4 = i)), .bl (decide (5 = i))])) c (.lst ([0, 1, 2, 3, 4, 5].map fun j => V.bl (decide (j = i)))) c = some (.lst ([0, 1, 2, 3, 4, 5].map fun j => V.bl (decide (j = i)))) := upd_same
    refine ⟨two 6 (by decide), fun d nd' => ?_⟩
    have s4 := same_upd (o := .lst (termNames.map V.str)) s3 nd'
    have hc4 : upd (upd (upd (upd H a (.lst [.bl (decide (0 = i)), .bl (decide (1 = i)), .bl (decide (2 = i))])) b (.lst [.bl (decide (3 = i)), .bl (decide (4 = i)), .bl (decide (5 = i))])) c (.lst ([0, 1, 2, 3, 4, 5].map fun j => V.bl (decide (j = i))))) d (.lst (termNames.map V.str)) c = some (.lst (([0, 1, 2, 3, 4, 5].map fun j => decide (j = i)).map V.bl)) := (upd_ne (ne_of_none hc3 nd')).trans hc3
    have hd4 : upd (upd (upd (upd H a (.lst [.bl (decide (0 = i)), .bl (decide (1 = i)), .bl (decide (2 = i))])) b (.lst [.bl (decide (3 = i)), .bl (decide (4 = i)), .bl (decide (5 = i))])) c (.lst ([0, 1, 2, 3, 4, 5].map fun j => V.bl (decide (j = i))))) d (.lst (termNames.map V.str)) d = some (.lst (termNames.map V.str)) := upd_same
    show tSeq _ _ _ _ (upd (upd (upd (upd H a (.lst [.bl (decide (0 = i)), .bl (decide (1 = i)), .bl (decide (2 = i))])) b (.lst [.bl (decide (3 = i)), .bl (decide (4 = i)), .bl (decide (5 = i))])) c (.lst ([0, 1, 2, 3, 4, 5].map fun j => V.bl (decide (j = i))))) d (.lst (termNames.map V.str)))
    generalize upd (upd (upd (upd H a (.lst [.bl (decide (0 = i)), .bl (decide (1 = i)), .bl (decide (2 = i))])) b (.lst [.bl (decide (3 = i)), .bl (decide (4 = i)), .bl (decide (5 = i))])) c (.lst ([0, 1, 2, 3, 4, 5].map fun j => V.bl (decide (j = i))))) d (.lst (termNames.map V.str)) = H4 at s4 hc4 hd4 ⊢
    clear s1 s2 s3 hc3 ha
    -- the sum is 1
    refine ⟨c, _, rfl, SqL.of hc4, fun e ne => ?_⟩
    have s5 := same_upd (o := .lst ((([0, 1, 2, 3, 4, 5].map fun j => decide (j = i)).map b01).map V.int)) s4 ne
    have hc5 : upd H4 e (.lst ((([0, 1, 2, 3, 4, 5].map fun j => decide (j = i)).map b01).map V.int)) c = some (.lst (([0, 1, 2, 3, 4, 5].map fun j => decide (j = i)).map V.bl)) := (upd_ne (ne_of_none hc4 ne)).trans hc4
    have hd5 : upd H4 e (.lst ((([0, 1, 2, 3, 4, 5].map fun j => decide (j = i)).map b01).map V.int)) d = some (.lst (termNames.map V.str)) := (upd_ne (ne_of_none hd4 ne)).trans hd4
    have hsum : (([0, 1, 2, 3, 4, 5].map fun j => decide (j = i)).map b01).sum = 1 := by
      have hi := O.lt
      have all : ∀ i < 6, (([0, 1, 2, 3, 4, 5].map fun j => decide (j = i)).map b01).sum = 1 := by decide
      exact all i hi
    refine ⟨e, _, rfl, SqL.of upd_same, ?_⟩
    rw [hsum]
    refine ⟨rfl, _, rfl, iteF ?_⟩
    refine ⟨_, rfl, _, _, _, rfl, fun u h => h, O.kv, _, rfl, iteF ?_⟩
    -- the name
    have hl := O.lt
    have hidx : ([0, 1, 2, 3, 4, 5].map fun j => decide (j = i))[i]? = some true := by
      have all : ∀ i < 6, ([0, 1, 2, 3, 4, 5].map fun j => decide (j = i))[i]? = some true := by decide
      exact all i hl
    have hbef : ∀ m, m < i → ∀ b, ([0, 1, 2, 3, 4, 5].map fun j => decide (j = i))[m]? = some b → b = false := by
      have all : ∀ i < 6, ∀ m < i, ([0, 1, 2, 3, 4, 5].map fun j => decide (j = i))[m]? = some false := by decide
      intro m hm b hb
      rw [all i hl m hm] at hb
      exact (Option.some.inj hb).symm
    refine ⟨_, rfl, _, rfl, .inl ⟨rfl, _, SqL.of hc5⟩, c, _, .bl true, i, .bl true, rfl, rfl, SqL.of hc5, rfl, ?_, ?_, rfl, ?_, ?_⟩
    · simp [flatV]
    · rw [List.getElem?_map, hidx]
      rfl
    · intro m z' hm hz'
      rw [List.getElem?_map] at hz'
      cases e1 : ([0, 1, 2, 3, 4, 5].map fun j => decide (j = i))[m]? with
      | none =>
        rw [e1] at hz'
        cases hz'
      | some b =>
        rw [e1] at hz'
        have e2 := hbef m hm b e1
        have e3 : V.bl b = z' := Option.some.inj hz'
        rw [← e3, e2]
        rfl
    · have hz2 : (termNames.map V.str)[i]? = some (.str z) := by rw [List.getElem?_map, hzi]; rfl
      refine ⟨d, _, _, _, rfl, rfl, SqL.of hd5, atI_nat hz2, two 2 (by decide), fun t nt => ?_⟩
      exact k t _ (same_upd s5 nt) upd_same
end
end FC
set_option Elab.async false
set_option linter.all false
set_option maxRecDepth 100000
set_option maxHeartbeats 1000000
/-! _law_told(lambda: ..): the lambda's exceptions bear no context. -/
namespace FC
open PySem PySem.Spec PyProof.Rows L2
/-- another wish of what leaves the code -/
theorem inv_xe {X : Cx} {pins : List (Addr × Obj)} {σ : L2.St} {H : Hp} {s : Shared} {xe : Value → Shared → Prop} (I : Inv X pins σ H s) : Inv { X with xe := xe } pins σ H s :=
  ⟨⟨I.ok.mod, I.ok.kind, I.ok.glob, I.ok.blt, I.ok.above, I.ok.inj, I.ok.has, I.ok.cab, I.ok.hd, I.ok.frames, I.ok.stk, I.ok.exf, I.ok.bs, I.ok.bsz, I.ok.noex, I.ok.exfs, I.ok.funs, I.ok.frf⟩,
    I.os, I.bare, I.base, I.loc, I.cell, I.free, I.freeC, I.pin, I.hok, I.len⟩
/-- the lambda's body, entered at s from the frames out -/
def lamN (X : Cx) (A : Around) (out : List Env) (s : Shared) (H : Hp) (E : XK) (scope : Scope) (f c : Addr) : Cx :=
  { LamX.lamCx X A out s H E scope f c with
    xe := fun e s1 => wpAny (model X.prog X.w) (A.deeper (LamX.lamEnv X scope s.heap.objs.size f c)) (leaving (LamX.lamEnv X scope s.heap.objs.size f c) e) (fun _ s2 => L2N.CX X.prog X.w out H s E e s2) (fun e2 s2 => L2N.CX X.prog X.w out H s E e2 s2) s1 }
section
variable {X : Cx} {pins : List (Addr × Obj)} {σ : L2.St} {H : Hp} {s : Shared}
/-- the lambda at f is called while the frame env runs above X's -/
theorem lam_run {env : Env} {A : Around} {f c : Addr} {pm ctv : Value} {params : Arguments} {body : Expr} {scope : Scope} {k : Nat} {E : XK} {tb : TE} {s1 : Shared} {HZ : Hp} {Q : VK} (I : Inv X pins σ H s) (L : LamX.LamS X.env.scope scope)
    (here : s1.heap.get? f = some (PySem.W.kla_obj "<lambda>" (X.env.qual ++ "<lambda>") params body scope (cloFrom X.env.cells scope.names []) pm c ctv))
    (bind : bindArgs (PySem.W.kla_fn "<lambda>" (X.env.qual ++ "<lambda>") params body scope (cloFrom X.env.cells scope.names []) pm (.ref c) ctv) ⟨[], []⟩ = pure []) (e1 : Env0 X.prog X.w X.K X.mg X.base A (env :: X.stack) s1 HZ) (lim : s1.heap.NoLimit)
    (un : Un (frs X.stack) [] H HZ s.heap s1.heap) (hr : Room (k + 1) A) (hc : HZ c = some (LamX.CodeO c (X.env.qual ++ "<lambda>")))
    (hbody : ∀ (A : Around) (out : List Env) (s : Shared) (H : Hp), Room k (A.deeper (LamX.lamEnv X scope s.heap.objs.size f c)) → PE (lamN X A out s H E scope f c) body tb) (told : tb σ HZ Q) :
    codeAny (model X.prog X.w) A (.call (.ref f) ⟨[], []⟩) (CR (L2N.CX X.prog X.w) (env :: X.stack) X.prog X.w HZ s1 Q E) s1 := by
  obtain ⟨⟨oc, vs, t, o1, o2, o3⟩, _, _⟩ := e1.hok c _ hc
  refine PySem.W.kla_callFunE hr.depth here rfl L.co L.gen rfl ⟨c, oc, vs, t, rfl, o1, o2, o3⟩ ?_
  rw [bind]
  refine wpAny_pure (wpAny_newFunctionEnv (fun y hy => (L.own y hy).2) (fun y hy => absurd hy (by simp)) (fun h1 ns ext => ⟨lim.fresh _ ext, ?_⟩) L.kind)
  have kp : ∀ b o, s1.heap.get? b = some o → h1.get? b = some o := fun b o e => ext.extBut b o (Nat.ne_of_lt (Heap.lt_size e)) (Heap.get?_push_of_some _ e)
  have J := inv_xe (xe := (lamN X A (env :: X.stack) s1 HZ E scope f c).xe) (LamX.lam_start2 (tk := s1.toks + ([] : List (Str × Value)).length) (E := E) (f := f) (c' := c) I L e1 hr.hd un ns kp)
  refine PySem.W.kla_codeExpr (wpAny_mono ((hbody A (env :: X.stack) s1 HZ (hr.deeper _)).run [] _ _ HZ Q J told) (fun v s2 hq => ?_) fun _ _ hq => hq)
  obtain ⟨u, H', J', rv, q⟩ := hq
  exact ⟨u, H', J'.os, J'.bare, J'.base, J'.hok, rv, q⟩
end
theorem takes0N {X : Cx} : L2N.Takes X (fun _ _ _ _ => False) := fun _ _ h => by
  obtain ⟨_, _, _, _, _, _, _, _, _, _, _, _, _, _, _, _, z⟩ := h
  exact z.elim
theorem scTold : FnScope ["_law_deed", "_law_e"] ["_law_deed"] (defScope sTold) := ⟨rfl, rfl, rfl, by decide +kernel, rfl, by decide +kernel, by decide +kernel⟩
/-- what is wanted of an exception of the lambda: its name is told -/
def wishE (K : PySem.W.Frag) (CE c0 c1 c2 c3 c4 c5 : Addr) (Q : VK) : XK := fun cls d H => ∃ (D : Addr) (i : Nat) (z : Str), cls = .ref D ∧ d = Option.none ∧ PySem.W.exmOne K (.ref D) (.ref CE) = some true ∧ OneT K D i c0 c1 c2 c3 c4 c5 ∧ termNames[i]? = some z ∧
  ∀ t H', Same H H' → H' t = some (.tup [.str "error", .str z]) → Q (.ref t) H'
/-- _law_told(lambda: body), body's reading t -/
def tTold (K : PySem.W.Frag) (T : List (Addr × Str)) (CE c0 c1 c2 c3 c4 c5 : Addr) (t : XK → TE) : TE := fun σ H Q => LamX.Tabs T H ∧ ∀ H1, LamX.ExtN H H1 → LamX.Tabs T H1 → t (wishE K CE c0 c1 c2 c3 c4 c5 Q) σ H1 Q
section
variable {X : Cx}
theorem pe_told {T : List (Addr × Str)} {g c P f2 CE c0 c1 c2 c3 c4 c5 : Addr} {fdg fd2 : FuncData} {k : Nat} {params : Arguments} {body : Expr} {scope : Scope} {t : XK → TE} {p lpos pos : Pos}
    (Fg : Fun X.K "_law_told" "_law_told" sTold g fdg) (bg : Binds X.K fdg ["_law_deed"] []) (mg : X.mg "_law_told" = some (.ref g)) (hg : Gl X "_law_told")
    (F2 : FnP X.prog X.w X.K X.mg X.base 1 f2 fd2 ["_law_e"] (spTerm X.K c0 c1 c2 c3 c4 c5)) (m2 : X.mg "_law_term" = some (.ref f2)) (k2 : PySem.W.keepIn X.K (.ref f2) = true) (b2 : Binds X.K fd2 ["_law_e"] []) (mE : X.mg "ChainError" = some (.ref CE))
    (TB : LamX.TabB X.base X.mg c P) (hcode : X.env.code = .ref c) (hmT : (P, X.env.qual ++ "<lambda>") ∈ T) (hu : ∀ p ∈ T, p.1 = P → p.2 = X.env.qual ++ "<lambda>") (hr : Room (k + 3) X.A) (L : LamX.LamS X.env.scope scope) (hdef : defaultsOf params X.env = ([], []))
    (bind : ∀ (q : Str) (cl : List (Str × Addr)) (pm cv ctv : Value), bindArgs (PySem.W.kla_fn "<lambda>" q params body scope cl pm cv ctv) ⟨[], []⟩ = pure [])
    (hbody : ∀ (A : Around) (out : List Env) (s : Shared) (H : Hp) (E : XK) (f c : Addr), Room (k + 1) (A.deeper (LamX.lamEnv X scope s.heap.objs.size f c)) → PE (lamN X A out s H E scope f c) body (t E)) :
    PE X (.Call (.Name "_law_told" p) [.Lambda params body scope lpos] [] pos) (tTold X.K T CE c0 c1 c2 c3 c4 c5 t) := by
  refine ⟨fun pins s σ H Q I h => ?_⟩
  obtain ⟨hT, h⟩ := h
  refine wpAny_Call_Name_kw (ld_glob I hg mg ?_ (by decide))
  refine PySem.W.callWith_K (h₀ := X.base) I.ok.mod.kin Fg.kp ?_ (by rfl) (by rfl)
  show wpAny _ _ (spliced ((false, eval (.Lambda params body scope lpos) X.env) :: backTo pos (starEach [] X.env))) _ _ s
  refine Calls.spliced_cons (LamX.lam_make2 I TB hcode hmT hu hT hdef (L.has I.ok) fun f c' pm' ctv H1 s1 I1 eN T1 hf hfn hfr hco => ?_)
  refine Calls.spliced_nil ⟨I1.kIn, ?_⟩
  have told := h H1 eN T1
  obtain ⟨oc, od, kV, doc, pm, an, cdv, ct, osl, rfl, lk, hcd⟩ := Fg.ex
  have rc : codeAny (model X.prog X.w) X.A (.call (.ref g) ⟨[.ref f], []⟩) (CR CX0 X.stack X.prog X.w H1 s1 Q E0) s1 := by
    refine LamX.run_ofS (N := ["_law_deed", "_law_e"]) (ps := ["_law_deed"]) (us := [.ref f]) (vs := [.ref f]) (CX := CX0) lk hcd scTold hr I1.env0 (bg s1 [.ref f] I1.kIn rfl) (.cons rfl .nil) rfl fun hr' => ?_
    have nd := scTold.nd
    -- deed()
    have act : ∀ (W : WX) (pn : List (Addr × Obj)) (xe : Value → Shared → Prop) (p1 p2 : Pos), L2N.Takes ((cxOf CX0 X.prog X.w X.K X.mg X.base ["_law_deed", "_law_e"] "_law_told" (defScope sTold) g cdv X.A X.stack s1 H1 E0).tr pn xe) W → (∀ cls d σ' H', wishE X.K CE c0 c1 c2 c3 c4 c5 Q cls d H' → W cls d σ' H') →
        PE ((cxOf CX0 X.prog X.w X.K X.mg X.base ["_law_deed", "_law_e"] "_law_told" (defScope sTold) g cdv X.A X.stack s1 H1 E0).tr pn xe) (.Call (.Name "_law_deed" p1) [] [] p2)
          (fun σZ HZ Q' => σZ[0]? = some (some (.ref f)) ∧ HZ c' = some (LamX.CodeO c' (X.env.qual ++ "<lambda>")) ∧ t (wishE X.K CE c0 c1 c2 c3 c4 c5 Q) σ HZ Q') := by
      intro W pn xe p1 p2 tk hW
      refine ⟨fun pinsZ sZ σZ HZ Q' IZ h' => ?_⟩
      obtain ⟨h0, hcZ, ht⟩ := h'
      refine wpAny_Call_Name_kw (thn ((pv (pos := p1) 0).run pinsZ sZ σZ HZ (fun v H2 => v = .ref f ∧ H2 = HZ) IZ ⟨.ref f, h0, rfl, rfl⟩) fun u s2 ⟨v, H2, I2, r2, e1, e2⟩ => ?_)
      subst e1 e2
      obtain rfl : u = Value.ref f := r2
      have here := I2.base.keep f _ hf hfn hfr (fun z => nomatch (show f ∈ ([] : List Addr) from z))
      refine PySem.W.callWith_F0 ⟨_, _, _, _, here⟩ ?_
      have un : Un (frs X.stack) [] H1 H2 s1.heap s2.heap := I2.base
      have go := lam_run (X := X) (env := envOfC "_law_told" (defScope sTold) s1.heap.objs.size g cdv) (A := X.A.deeper (envOfC "_law_told" (defScope sTold) s1.heap.objs.size g cdv)) (E := wishE X.K CE c0 c1 c2 c3 c4 c5 Q) (s1 := s2) (HZ := H2) (Q := Q') I1 L here (bind _ _ _ _ _)
        I2.env0 I2.nolimit un hr' hcZ (fun A out s H hr2 => hbody A out s H _ f c' hr2) ht
      refine wpAny_call (codeAny_mono go fun r s3 hq => ?_)
      cases r with
      | error e => exact L2N.passes_call tk hW pinsZ σZ H2 s2 e s3 I2 hq
      | ok fl =>
        cases fl with
        | ret u => exact I2.after hq
        | next => exact False.elim hq
        | brk => exact False.elim hq
        | cont => exact False.elim hq
    refine ⟨_, (pss_one (L2N.ps_try_as (X := (cxOf CX0 X.prog X.w X.K X.mg X.base ["_law_deed", "_law_e"] "_law_told" (defScope sTold) g cdv X.A X.stack s1 H1 E0)) (i := 1) (c := .ref CE)
        (tb := fun W D σZ HZ => (∀ cls d σ' H', wishE X.K CE c0 c1 c2 c3 c4 c5 Q cls d H' → W cls d σ' H') ∧ σZ[0]? = some (some (.ref f)) ∧ HZ c' = some (LamX.CodeO c' (X.env.qual ++ "<lambda>")) ∧ t (wishE X.K CE c0 c1 c2 c3 c4 c5 Q) σ HZ D.rt)
        (ts := fun a cls d D σZ HZ => (∃ σ0 : L2.St, σZ = σ0.set 1 (some (.ref a))) ∧ ∃ (Dc : Addr) (i : Nat) (z : Str), cls = .ref Dc ∧ d = Option.none ∧ OneT X.K Dc i c0 c1 c2 c3 c4 c5 ∧ termNames[i]? = some z ∧ ∀ t H', Same HZ H' → H' t = some (.tup [.str "error", .str z]) → D.rt (.ref t) H')
        (Wout := fun _ _ _ _ => False) rfl rfl nd rfl rfl ⟨rfl, by decide, .inl mE⟩ takes0N (fun W pn xe tk _ => ⟨fun pinsB sB σB HB D IB hB => ?_⟩) (fun a oe cls d pn hz hf => ⟨fun pinsB sB σB HB D IB hB => ?_⟩))), ?_⟩
    · obtain ⟨hW, h0, h1, h2⟩ := hB
      exact (pss_one (ps_ret (act W pn xe _ _ tk hW))).run pinsB sB σB HB D IB ⟨h0, h1, h2⟩
    · obtain ⟨⟨σ0, e0⟩, Dc, i, z, rfl, rfl, O, hzi, k⟩ := hB
      have hlen := IB.len
      rw [e0, List.length_set] at hlen
      have hlen : σ0.length = 2 := hlen
      have h1 : σB[1]? = some (some (.ref a)) := by
        rw [e0, List.getElem?_set_self (by omega)]
      obtain ⟨us, hus⟩ := hf
      refine (pss_one (ps_ret (pe_callP (X := (cxOf CX0 X.prog X.w X.K X.mg X.base ["_law_deed", "_law_e"] "_law_told" (defScope sTold) g cdv X.A X.stack s1 H1 E0).suite a ((a, oe) :: pn)) (p := (a, oe)) F2 ⟨?_, ?_⟩ ⟨rfl, us, hus, hz.2.2 us hus⟩ List.mem_cons_self (by rfl) m2 k2 b2 (pa_cons (pv 1) pa_nil)))).run pinsB sB σB HB D IB ⟨.ref a, h1, Dc, i, z, rfl, hz.zc, ⟨us, hus⟩, O, hzi, k⟩
      · have := hr'.dp
        show (X.A.deeper (envOfC "_law_told" (defScope sTold) s1.heap.objs.size g cdv)).depth + 3 * 1 + 5 < _
        omega
      · have := hr'.un
        show (X.A.deeper (envOfC "_law_told" (defScope sTold) s1.heap.objs.size g cdv)).units + 16 * 1 + 200 < _
        omega
    · refine ⟨fun cls d σ' H' hw => ?_, rfl, hco, told⟩
      obtain ⟨Dc, i, z, rfl, rfl, em, O, hzi, k⟩ := hw
      exact ⟨true, em, fun _ a _ => ⟨⟨σ', rfl⟩, Dc, i, z, rfl, rfl, O, hzi, k⟩, fun z => by cases z⟩
  refine wpAny_call (codeAny_mono rc fun r s2 hq => ?_)
  cases r with
  | error e => exact (show False from hq).elim
  | ok fl =>
    cases fl with
    | ret u => exact I1.after hq
    | next => exact False.elim hq
    | brk => exact False.elim hq
    | cont => exact False.elim hq
end
end FC
set_option Elab.async false
set_option linter.all false
set_option maxRecDepth 100000
set_option maxHeartbeats 1000000
namespace FC
open PySem PySem.Spec PyProof.Rows L2
/-! ### data of chains, for == -/
def vData : V → PyData
  | .str z => .str z
  | .int i => .int i
  | _ => .none
def stepData (ys : List V) : PyData := .tuple (ys.map vData)
def chainData (cs : List (List V)) : PyData := .tuple (cs.map stepData)
theorem dp_flat {K : PySem.W.Frag} {H : Hp} : ∀ {ys : List V}, (∀ y ∈ ys, strInt y = true) → DpAll K H ys (ys.map vData)
  | [], _ => .nil
  | y :: r, h => by
    have h1 := h y (by simp)
    refine .cons ?_ (dp_flat fun z hz => h z (List.mem_cons_of_mem _ hz))
    cases y <;> first | exact .str _ | exact .int _ | cases h1
theorem dp_steps {K : PySem.W.Frag} {H : Hp} : ∀ {xs : List V} {cs : List (List V)}, xs.length = cs.length → (∀ (i : Nat) (x : V) (ys : List V), xs[i]? = some x → cs[i]? = some ys → Dp K H x (stepData ys)) → DpAll K H xs (cs.map stepData)
  | [], [], _, _ => .nil
  | x :: r, ys :: s, hl, h => .cons (h 0 x ys rfl rfl) (dp_steps (by simpa using hl) fun i x ys h1 h2 => h (i + 1) x ys (by simpa using h1) (by simpa using h2))
  | [], _ :: _, hl, _ => by simp at hl
  | _ :: _, [], hl, _ => by simp at hl
theorem chain_dp {K : PySem.W.Frag} {H : Hp} {a : Addr} {cs : List (List V)} (h : ChainAt K H a cs) (hc : chainOk cs = true) : Dp K H (.ref a) (chainData cs) := by
  obtain ⟨xs, h1, h2⟩ := h
  refine .tup h1 (dp_steps (by rw [h2.len, List.length_map]) fun i x ys hx hy => ?_)
  obtain ⟨b, rfl, hb, _⟩ := h2.at_ i x (some ys) hx (by rw [List.getElem?_map, hy]; rfl)
  exact .tup hb (dp_flat (stepOk_strInt (chainOk_steps hc ys (List.mem_of_getElem? hy))))
theorem lay_all : ∀ {ds : List PyData}, (∀ d ∈ ds, d.canLay0 = true) → PyData.canLayAll0 ds = true
  | [], _ => rfl
  | d :: r, h => by
    show (d.canLay0 && PyData.canLayAll0 r) = true
    rw [h d (by simp), lay_all fun z hz => h z (List.mem_cons_of_mem _ hz)]
    rfl
theorem depth_all {n : Nat} : ∀ {ds : List PyData}, (∀ d ∈ ds, d.depth ≤ n) → PyData.depthAll ds ≤ n
  | [], _ => Nat.zero_le _
  | d :: r, h => by
    show max d.depth (PyData.depthAll r) ≤ n
    have h1 := h d (by simp)
    have h2 := depth_all (n := n) fun z hz => h z (List.mem_cons_of_mem _ hz)
    omega
theorem step_shaped {ys : List V} (h : stepOk ys = true) : (stepData ys).canLay0 = true ∧ (stepData ys).depth ≤ 1 := by
  obtain ⟨name, ns, rfl, hn, _⟩ := stepOk_shape h
  have hk : PyData.strOk name = true := by
    have all : ∀ x ∈ names, PyData.strOk x = true := by decide +kernel
    exact all _ hn
  constructor
  · refine lay_all fun d hd => ?_
    obtain ⟨v, hv, rfl⟩ := List.mem_map.mp hd
    rcases List.mem_cons.mp hv with z | z
    · rw [z]
      exact hk
    · obtain ⟨n, _, rfl⟩ := List.mem_map.mp z
      rfl
  · show PyData.depthAll _ + 1 ≤ 1
    have := depth_all (n := 0) (ds := (V.str name :: ns.map V.int).map vData) fun d hd => by
      obtain ⟨v, hv, rfl⟩ := List.mem_map.mp hd
      rcases List.mem_cons.mp hv with z | z
      · rw [z]
        exact Nat.le_refl _
      · obtain ⟨n, _, rfl⟩ := List.mem_map.mp z
        exact Nat.le_refl _
    omega
theorem chain_shaped {cs : List (List V)} (h : chainOk cs = true) : SeqAt.shaped (chainData cs) = true := by
  have hs := chainOk_steps h
  show (PyData.canLayAll0 (cs.map stepData) && decide (PyData.depthAll (cs.map stepData) + 1 ≤ 64)) = true
  rw [lay_all fun d hd => by
    obtain ⟨ys, hy, rfl⟩ := List.mem_map.mp hd
    exact (step_shaped (hs ys hy)).1]
  have := depth_all (n := 1) (ds := cs.map stepData) fun d hd => by
    obtain ⟨ys, hy, rfl⟩ := List.mem_map.mp hd
    exact (step_shaped (hs ys hy)).2
  rw [decide_eq_true (by omega)]
  rfl
def errData (z : Str) : PyData := .tuple [.str "error", .str z]
theorem err_shaped : SeqAt.shaped (errData "InvalidText") = true := by decide +kernel
theorem err_dp {K : PySem.W.Frag} {H : Hp} {t : Addr} {z : Str} (h : H t = some (.tup [.str "error", .str z])) : Dp K H (.ref t) (errData z) := .tup (SqT.of h) (.cons (.str _) (.cons (.str _) .nil))
theorem chain_not_err {cs : List (List V)} (z : Str) : PyData.eqv (chainData cs) (errData z) = false := by
  match cs with
  | [] => rfl
  | [] :: r => rfl
  | (y :: s) :: r => rfl
end FC
set_option Elab.async false
set_option linter.all false
set_option maxRecDepth 100000
set_option maxHeartbeats 4000000
/-! Feeds: what stands of one in the heap; its methods. -/
namespace FC
open PySem PySem.Spec PyProof.Rows L2
abbrev fdM (i : Nat) : Stmt := inClass sFeed i
/-- the fields of a feed -/
structure FC5 where
  c : Addr
  n : Addr
  an : Addr
  st : Addr
  un : Addr
def FC5.fs (F : FC5) : List (Str × V) := [("chain", .ref F.c), ("numbers", .ref F.n), ("answers", .ref F.an), ("states", .ref F.st), ("undone", .ref F.un)]
theorem FC5.chain (F : FC5) : F.fs.lookup ("chain" : Str) = some (.ref F.c) := rfl
theorem FC5.numbers (F : FC5) : F.fs.lookup ("numbers" : Str) = some (.ref F.n) := rfl
theorem FC5.answers (F : FC5) : F.fs.lookup ("answers" : Str) = some (.ref F.an) := rfl
theorem FC5.states (F : FC5) : F.fs.lookup ("states" : Str) = some (.ref F.st) := rfl
theorem FC5.undone (F : FC5) : F.fs.lookup ("undone" : Str) = some (.ref F.un) := rfl
theorem FC5.put (F : FC5) (u : Addr) : putF "undone" (.ref u) F.fs = FC5.fs { F with un := u } := rfl
theorem fs_init (F : FC5) : putF "undone" (.ref F.un) (putF "states" (.ref F.st) (putF "answers" (.ref F.an) (putF "numbers" (.ref F.n) (putF "chain" (.ref F.c) [])))) = F.fs := rfl
def FC5.cells (F : FC5) (a : Addr) : List Addr := [a, F.n, F.an, F.st, F.un]
/-- tuples of these numbers -/
def SqTs (K : PySem.W.Frag) (H : Hp) (qs : List Addr) (gs : List (List Int)) : Prop := qs.length = gs.length ∧ ∀ (i : Nat) (q : Addr) (g : List Int), qs[i]? = some q → gs[i]? = some g → SqT K H q (g.map V.int)
/-- at a stands a feed of these steps, numbers, and numbers taken back -/
structure FeedS (K : PySem.W.Frag) (C : Addr) (H : Hp) (a : Addr) (F : FC5) (ps : List Stp) (row und : List Int) : Prop where
  ins : ∃ dx, H a = some (.ins C dx F.fs)
  chain : StpsAt K H F.c ps
  numbers : H F.n = some (.lst (row.map V.int))
  answers : ∃ qs : List Addr, H F.an = some (.lst (qs.map V.ref)) ∧ SqTs K H qs (givenB ps row)
  states : ∃ ss : List Addr, H F.st = some (.lst (ss.map V.ref)) ∧ ss.length = row.length ∧ ∀ (i : Nat) (s : Addr), ss[i]? = some s → StateAt K H s ps (row.take (i + 1))
  undone : H F.un = some (.lst (und.map V.int))
  a1 : F.n ≠ F.an
  a2 : F.n ≠ F.st
  a3 : F.n ≠ F.un
  a4 : F.an ≠ F.st
  a5 : F.an ≠ F.un
  a6 : F.st ≠ F.un
theorem FeedS.same {K : PySem.W.Frag} {C a : Addr} {H H' : Hp} {F : FC5} {ps : List Stp} {row und : List Int} (f : FeedS K C H a F ps row und) (s : Same H H') : FeedS K C H' a F ps row und := by
  obtain ⟨⟨dx, h1⟩, h2, h3, ⟨qs, h4, h5⟩, ⟨ss, h6, h7, h8⟩, h9, a1, a2, a3, a4, a5, a6⟩ := f
  exact ⟨⟨dx, s _ _ h1⟩, stps_same h2 s, s _ _ h3, ⟨qs, s _ _ h4, h5.1, fun i q g hq hg => sqt_same s (h5.2 i q g hq hg)⟩, ⟨ss, s _ _ h6, h7, fun i q hq => (h8 i q hq).same s⟩, s _ _ h9, a1, a2, a3, a4, a5, a6⟩
/-- all but the places of L is as it was -/
def Frm (L : List Addr) (H H' : Hp) : Prop := ∀ b o, H b = some o → b ∉ L → H' b = some o
theorem Frm.refl (L : List Addr) (H : Hp) : Frm L H H := fun _ _ h _ => h
theorem Frm.same {L : List Addr} {H H' : Hp} (s : Same H H') : Frm L H H' := fun b o h _ => s b o h
theorem Frm.trans {L : List Addr} {H H1 H2 : Hp} (x : Frm L H H1) (y : Frm L H1 H2) : Frm L H H2 := fun b o h n => y b o (x b o h n) n
theorem Frm.upd {L : List Addr} {H H1 : Hp} {p : Addr} {o : HO} (x : Frm L H H1) (hp : p ∈ L) : Frm L H (upd H1 p o) := fun b ob h n => by
  rw [upd_ne (fun z => n (by rw [z]; exact hp))]
  exact x b ob h n
theorem sqt_frm {K : PySem.W.Frag} {L : List Addr} {H H' : Hp} {a : Addr} {xs : List V} (s : Frm L H H') (hn : ∀ b ∈ L, ∀ ys, H b ≠ some (.tup ys) ∧ ∀ o, H b ≠ some (.frz o (.tup ys))) (h : SqT K H a xs) : SqT K H' a xs := by
  rcases h with (h | ⟨o, h⟩) | h
  · exact .inl (.inl (s _ _ h (fun z => (hn _ z xs).1 h)))
  · exact .inl (.inr ⟨o, s _ _ h (fun z => (hn _ z xs).2 o h)⟩)
  · exact .inr h
/-- a feed's own places hold no tuples -/
theorem FeedS.noT {K : PySem.W.Frag} {C a : Addr} {H : Hp} {F : FC5} {ps : List Stp} {row und : List Int} (f : FeedS K C H a F ps row und) : ∀ b ∈ F.cells a, ∀ ys, H b ≠ some (.tup ys) ∧ ∀ o, H b ≠ some (.frz o (.tup ys)) := fun b hb ys => by
  obtain ⟨⟨dx, h1⟩, _, h3, ⟨qs, h4, _⟩, ⟨ss, h6, _⟩, h9, _⟩ := f
  unfold FC5.cells at hb
  simp only [List.mem_cons, List.mem_nil_iff, or_false] at hb
  rcases hb with rfl | rfl | rfl | rfl | rfl
  · rw [h1]; exact ⟨(by intro z; cases z), fun o => (by intro z; cases z)⟩
  · rw [h3]; exact ⟨(by intro z; cases z), fun o => (by intro z; cases z)⟩
  · rw [h4]; exact ⟨(by intro z; cases z), fun o => (by intro z; cases z)⟩
  · rw [h6]; exact ⟨(by intro z; cases z), fun o => (by intro z; cases z)⟩
  · rw [h9]; exact ⟨(by intro z; cases z), fun o => (by intro z; cases z)⟩
theorem state_frm {K : PySem.W.Frag} {L : List Addr} {H H' : Hp} {a : Addr} {ps : List Stp} {row : List Int} (s : Frm L H H') (hn : ∀ b ∈ L, ∀ ys, H b ≠ some (.tup ys) ∧ ∀ o, H b ≠ some (.frz o (.tup ys))) (h : StateAt K H a ps row) : StateAt K H' a ps row := by
  obtain ⟨xs, h1, h2, h3⟩ := h
  refine ⟨xs, sqt_frm s hn h1, h2, fun i x p hx hp => ?_⟩
  obtain ⟨b, e, hb⟩ := h3 i x p hx hp
  exact ⟨b, e, sqt_frm s hn hb⟩
theorem stps_frm {K : PySem.W.Frag} {L : List Addr} {H H' : Hp} {c : Addr} {ps : List Stp} (s : Frm L H H') (hn : ∀ b ∈ L, ∀ ys, H b ≠ some (.tup ys) ∧ ∀ o, H b ≠ some (.frz o (.tup ys))) (h : StpsAt K H c ps) : StpsAt K H' c ps := by
  obtain ⟨xs, x1, x2, x3⟩ := h
  refine ⟨xs, sqt_frm s hn x1, x2, fun i x p hx hp => ?_⟩
  obtain ⟨b, h1, h2⟩ := x3 i x p hx hp
  exact ⟨b, h1, sqt_frm s hn h2⟩
/-- the class's facts -/
structure FdT (K : PySem.W.Frag) (mg : Str → Option Value) (C : Addr) : Prop where
  cl : Cls K C
  nc : NoAttr K C "chain"
  nn : NoAttr K C "numbers"
  na : NoAttr K C "answers"
  ns : NoAttr K C "states"
  nu : NoAttr K C "undone"
  gC : mg "Feed" = some (.ref C)
theorem get_snoc {α : Type} {l : List α} {x y : α} {i : Nat} (h : (l ++ [x])[i]? = some y) : (i < l.length ∧ l[i]? = some y) ∨ (i = l.length ∧ x = y) := by
  by_cases hi : i < l.length
  · rw [List.getElem?_append_left hi] at h
    exact .inl ⟨hi, h⟩
  · have h2 := get_lt h
    rw [List.length_append, List.length_singleton] at h2
    have e : i = l.length := by omega
    subst e
    rw [List.getElem?_append_right (Nat.le_refl _), Nat.sub_self] at h
    exact .inr ⟨rfl, Option.some.inj h⟩
/-- a number more -/
theorem feed_push {K : PySem.W.Frag} {C a g a' : Addr} {H : Hp} {F : FC5} {ps : List Stp} {row und : List Int} {x : Int} {qs ss : List Addr} (f : FeedS K C H a F ps row und) (hq : H F.an = some (.lst (qs.map V.ref))) (hqa : SqTs K H qs (givenB ps row))
    (hs : H F.st = some (.lst (ss.map V.ref))) (hsl : ss.length = row.length) (hss : ∀ (i : Nat) (s : Addr), ss[i]? = some s → StateAt K H s ps (row.take (i + 1))) (hg : SqT K H g ((newM ps row [x]).map V.int)) (ha : StateAt K H a' ps (row ++ [x])) {H' : Hp}
    (e : H' = upd (upd (upd H F.n (.lst (row.map V.int ++ [.int x]))) F.an (.lst (qs.map V.ref ++ [.ref g]))) F.st (.lst (ss.map V.ref ++ [.ref a']))) :
    FeedS K C H' a F ps (row ++ [x]) und ∧ Frm (F.cells a) H H' ∧ SqT K H' g ((newM ps row [x]).map V.int) := by
  have fr : Frm (F.cells a) H H' := by
    rw [e]
    exact ((((Frm.refl _ H).upd (by simp [FC5.cells])).upd (by simp [FC5.cells])).upd (by simp [FC5.cells]))
  have nt := f.noT
  obtain ⟨dx, hi⟩ := f.ins
  have n1 : a ≠ F.n := ne_of hi f.numbers (by intro z; cases z)
  have n2 : a ≠ F.an := ne_of hi hq (by intro z; cases z)
  have n3 : a ≠ F.st := ne_of hi hs (by intro z; cases z)
  refine ⟨⟨⟨dx, by rw [e, upd_ne n3, upd_ne n2, upd_ne n1]; exact hi⟩, stps_frm fr nt f.chain, ?_, ⟨qs ++ [g], ?_, ?_, ?_⟩, ⟨ss ++ [a'], ?_, ?_, ?_⟩, ?_, f.a1, f.a2, f.a3, f.a4, f.a5, f.a6⟩, fr, sqt_frm fr nt hg⟩
  · rw [e, upd_ne f.a2, upd_ne f.a1, upd_same, List.map_append]
    rfl
  · rw [e, upd_ne f.a4, upd_same, List.map_append]
    rfl
  · rw [given_snoc, List.length_append, List.length_append, hqa.1]
    rfl
  · intro i q gg h1 h2
    rw [given_snoc] at h2
    rcases get_snoc h1 with ⟨l1, h1⟩ | ⟨l1, h3⟩
    · rw [List.getElem?_append_left (by rw [← hqa.1]; exact l1)] at h2
      exact sqt_frm fr nt (hqa.2 i q gg h1 h2)
    · subst l1
      subst h3
      rw [hqa.1, List.getElem?_append_right (Nat.le_refl _), Nat.sub_self] at h2
      have h2 : newM ps row [x] = gg := Option.some.inj h2
      rw [← h2]
      exact sqt_frm fr nt hg
  · rw [e, upd_same, List.map_append]
    rfl
  · rw [List.length_append, List.length_append, hsl]
    rfl
  · intro i s h1
    rcases get_snoc h1 with ⟨l1, h1⟩ | ⟨l1, h3⟩
    · rw [List.take_append_of_le_length (by omega)]
      exact state_frm fr nt (hss i s h1)
    · subst l1
      subst h3
      rw [List.take_of_length_le (by rw [List.length_append, hsl]; exact Nat.le_refl _)]
      exact state_frm fr nt ha
  · rw [e, upd_ne f.a6.symm, upd_ne f.a5.symm, upd_ne f.a3.symm]
    exact f.undone
section
variable {P : Program} {w : World} {K : PySem.W.Frag} {mg : Str → Option Value} {base : Heap}
/-! ### take -/
def spTake (K : PySem.W.Frag) (C : Addr) : Sp := fun vs H Q _ => ∃ (a : Addr) (x : Int) (F : FC5) (ps : List Stp) (row und : List Int), vs = [.ref a, .int x] ∧ FeedS K C H a F ps row und ∧ (∀ p ∈ ps, p.ok) ∧ ps.length ≤ 4 ∧ row.length ≤ 100 ∧
  ∀ (g : Addr) H', FeedS K C H' a F ps (row ++ [x]) und → Frm (F.cells a) H H' → SqT K H' g ((newM ps row [x]).map V.int) → Q (.ref g) H'
theorem scTake : FnScope ["self", "number", "state", "answer", "state_behind"] ["self", "number"] (defScope (fdM 6)) := ⟨rfl, rfl, rfl, by decide +kernel, rfl, by decide +kernel, by decide +kernel⟩
theorem ok_take {f C : Addr} {fd : FuncData} (F : Fun K "take" "Feed.take" (fdM 6) f fd) (T : FdT K mg C) (CS : Cal P w K mg base CX0 1 "start" ["chain"] (spStartP K)) (CA : Cal P w K mg base CX0 3 "advance" ["chain", "state", "number"] (spAdv K)) :
    FnOk P w K mg base CX0 4 f fd ["self", "number"] (spTake K C) := by
  refine F.ok scTake (fun vs H Q E h => ?_) (fun cdv A outer s H vs Q E hr h => ?_)
  · obtain ⟨a, x, F, ps, row, und, rfl, _⟩ := h
    rfl
  · obtain ⟨a, x, F, ps, row, und, rfl, hf, hok, hl, hlr, k⟩ := h
    have nd := scTake.nd
    have hr1 : Room 1 _ := hr.mono (by decide)
    refine ⟨_, pss_cons (ps_set (i := 2) nd rfl (Or.inl rfl) (pe_ifExp (pt_truth (pe_fld (pv 0) rfl) (fun _ => rfl)) (pe_ix ix_list (pe_fld (pv 0) rfl) (pe_un un_neg pe_int) (fun _ _ => rfl)) (pe_cal CS hr1 pass0 (pa_cons (pe_fld (pv 0) rfl) pa_nil))))
      (pss_cons (ps_asg (pe_cal CA hr pass0 (pa_cons (pe_fld (pv 0) rfl) (pa_cons (pv 2) (pa_cons (pv 1) pa_nil)))) (pg_tup rfl (pgs_cons (pg_name (i := 3) nd rfl (Or.inl rfl)) (pgs_cons (pg_name (i := 4) nd rfl (Or.inl rfl)) pgs_nil))))
      (pss_cons (ps_expr (pe_bm PySem.F.plainAttrs_list PySem.F.slot_list_append PySem.F.type_list_append mt_append (pe_fld (pv 0) rfl) (pa_cons (pv 1) pa_nil)))
      (pss_cons (ps_expr (pe_bm PySem.F.plainAttrs_list PySem.F.slot_list_append PySem.F.type_list_append mt_append (pe_fld (pv 0) rfl) (pa_cons (pv 3) pa_nil)))
      (pss_cons (ps_expr (pe_bm PySem.F.plainAttrs_list PySem.F.slot_list_append PySem.F.type_list_append mt_append (pe_fld (pv 0) rfl) (pa_cons (pv 4) pa_nil)))
      (pss_one (ps_ret (pv 3))))))), ?_⟩
    obtain ⟨dx, hi⟩ := hf.ins
    obtain ⟨ss, hst, hsl, hss⟩ := hf.states
    refine ⟨_, rfl, a, C, dx, _, _, rfl, hi, T.cl, T.ns, F.states, _, .inl ⟨_, SqL.of hst, rfl⟩, ?_⟩
    rcases List.eq_nil_or_concat ss with e | ⟨ss0, s0, e⟩
    · subst e
      have er : row = [] := List.eq_nil_of_length_eq_zero hsl.symm
      refine iteF ?_
      refine ⟨_, rfl, a, C, dx, _, _, rfl, hi, T.cl, T.nc, F.chain, F.c, ps, rfl, hf.chain, by omega, fun s0 H1 s01 hs0 => ?_⟩
      have hs0 : StateAt K H1 s0 ps row := by rw [er]; exact hs0
      have f1 := hf.same s01
      obtain ⟨dx1, hi1⟩ := f1.ins
      refine ⟨_, rfl, a, C, dx1, _, _, rfl, hi1, T.cl, T.nc, F.chain, _, rfl, _, rfl, F.c, s0, x, ps, row, rfl, f1.chain, hok, hl, hs0, fun t g a' H2 s2 ht hg ha' => ?_⟩
      have f2 := f1.same s2
      obtain ⟨dx2, hi2⟩ := f2.ins
      obtain ⟨qs, hq, hqa⟩ := f2.answers
      obtain ⟨ss', hs', hsl', hss'⟩ := f2.states
      have hn := f2.numbers
      have n1 : a ≠ F.n := ne_of hi2 hn (by intro z; cases z)
      have n2 : a ≠ F.an := ne_of hi2 hq (by intro z; cases z)
      have hsz : 1000 < sizeLine := by decide
      have hlq : qs.length ≤ 100 := by rw [hqa.1, given_len]; exact hlr
      refine ⟨t, _, rfl, ht, rfl, _, _, rfl, _, _, rfl, rfl, ?_⟩
      refine ⟨_, rfl, a, C, dx2, _, _, rfl, hi2, T.cl, T.nn, F.numbers, .inl ⟨rfl, _, SqL.of hn⟩, _, rfl, F.n, _, _, rfl, rfl, hn, (by rw [List.length_map]; omega), ?_⟩
      refine ⟨_, rfl, a, C, dx2, _, _, rfl, (upd_ne n1).trans hi2, T.cl, T.na, F.answers, .inl ⟨rfl, _, SqL.of ((upd_ne f2.a1.symm).trans hq)⟩, _, rfl, F.an, _, _, rfl, rfl, (upd_ne f2.a1.symm).trans hq, (by rw [List.length_map]; omega), ?_⟩
      refine ⟨_, rfl, a, C, dx2, _, _, rfl, (upd_ne n2).trans ((upd_ne n1).trans hi2), T.cl, T.ns, F.states, .inl ⟨rfl, _, SqL.of ((upd_ne f2.a4.symm).trans ((upd_ne f2.a2.symm).trans hs'))⟩, _, rfl, F.st, _, _, rfl, rfl, (upd_ne f2.a4.symm).trans ((upd_ne f2.a2.symm).trans hs'), (by rw [List.length_map]; omega), ?_⟩
      obtain ⟨p1, p2, p3⟩ := feed_push f2 hq hqa hs' hsl' hss' hg ha' rfl
      exact ⟨_, rfl, k g _ p1 ((Frm.same (Same.trans s01 s2)).trans p2) p3⟩
    · subst e
      refine ite2 (fun _ => ?_) (fun z => absurd (by simp) z)
      refine ⟨_, rfl, a, C, dx, _, _, rfl, hi, T.cl, T.ns, F.states, _, rfl, F.st, _, _, .ref s0, rfl, rfl, SqL.of hst, (by rw [List.concat_eq_append, List.map_append]; exact atI_last _ _), ?_⟩
      have s01 := Same.refl H
      have hs0 : StateAt K H s0 ps row := by
        have := hss ss0.length s0 (by rw [List.concat_eq_append, List.getElem?_append_right (Nat.le_refl _), Nat.sub_self]; rfl)
        rw [List.concat_eq_append, List.length_append, List.length_singleton] at hsl
        rw [List.take_of_length_le (by omega)] at this
        exact this
      have f1 := hf.same s01
      obtain ⟨dx1, hi1⟩ := f1.ins
      refine ⟨_, rfl, a, C, dx1, _, _, rfl, hi1, T.cl, T.nc, F.chain, _, rfl, _, rfl, F.c, s0, x, ps, row, rfl, f1.chain, hok, hl, hs0, fun t g a' H2 s2 ht hg ha' => ?_⟩
      have f2 := f1.same s2
      obtain ⟨dx2, hi2⟩ := f2.ins
      obtain ⟨qs, hq, hqa⟩ := f2.answers
      obtain ⟨ss', hs', hsl', hss'⟩ := f2.states
      have hn := f2.numbers
      have n1 : a ≠ F.n := ne_of hi2 hn (by intro z; cases z)
      have n2 : a ≠ F.an := ne_of hi2 hq (by intro z; cases z)
      have hsz : 1000 < sizeLine := by decide
      have hlq : qs.length ≤ 100 := by rw [hqa.1, given_len]; exact hlr
      refine ⟨t, _, rfl, ht, rfl, _, _, rfl, _, _, rfl, rfl, ?_⟩
      refine ⟨_, rfl, a, C, dx2, _, _, rfl, hi2, T.cl, T.nn, F.numbers, .inl ⟨rfl, _, SqL.of hn⟩, _, rfl, F.n, _, _, rfl, rfl, hn, (by rw [List.length_map]; omega), ?_⟩
      refine ⟨_, rfl, a, C, dx2, _, _, rfl, (upd_ne n1).trans hi2, T.cl, T.na, F.answers, .inl ⟨rfl, _, SqL.of ((upd_ne f2.a1.symm).trans hq)⟩, _, rfl, F.an, _, _, rfl, rfl, (upd_ne f2.a1.symm).trans hq, (by rw [List.length_map]; omega), ?_⟩
      refine ⟨_, rfl, a, C, dx2, _, _, rfl, (upd_ne n2).trans ((upd_ne n1).trans hi2), T.cl, T.ns, F.states, .inl ⟨rfl, _, SqL.of ((upd_ne f2.a4.symm).trans ((upd_ne f2.a2.symm).trans hs'))⟩, _, rfl, F.st, _, _, rfl, rfl, (upd_ne f2.a4.symm).trans ((upd_ne f2.a2.symm).trans hs'), (by rw [List.length_map]; omega), ?_⟩
      obtain ⟨p1, p2, p3⟩ := feed_push f2 hq hqa hs' hsl' hss' hg ha' rfl
      exact ⟨_, rfl, k g _ p1 ((Frm.same (Same.trans s01 s2)).trans p2) p3⟩
end
end FC
set_option Elab.async false
set_option linter.all false
set_option maxRecDepth 100000
set_option maxHeartbeats 4000000
/-! The other methods of a feed. -/
namespace FC
open PySem PySem.Spec PyProof.Rows L2
/-- a method that may let out an exception whose context is None -/
theorem okM {P : Program} {w : World} {K : PySem.W.Frag} {mg : Str → Option Value} {base : Heap} {x q : Str} {st : Stmt} {f : Addr} {fd : FuncData} {N ps : List Str} {k : Nat} {sp : Sp} (F : Fun K x q st f fd) (S : FnScope N ps (defScope st))
    (len : ∀ vs H Q E, sp vs H Q E → vs.length = ps.length)
    (body : ∀ (c : Value) (A : Around) (outer : List Env) (s : Shared) (H : Hp) (vs : List V) (Q : VK) (E : XK), Room k (A.deeper (PyProof.Rows.envOfC q (defScope st) s.heap.objs.size f c)) → sp vs H Q E →
      ∃ t, PSs (cxOf (L2N.CX P w) P w K mg base N q (defScope st) f c A outer s H E) (defBody st) t ∧ t { nx := fun _ H' => Q .non H', rt := Q } (start N vs) H) :
    FnOk P w K mg base (L2N.CX P w) (k + 1) f fd ps sp := by
  obtain ⟨oc, od, kV, doc, pm, an, c, ct, osl, rfl, lk, hcd⟩ := F.ex
  exact fn_of lk hcd S len fun A outer s H vs Q E hr h => body c A outer s H vs Q E hr h
/-- another list for the numbers taken back -/
theorem feed_un {K : PySem.W.Frag} {C a l : Addr} {H : Hp} {F : FC5} {ps : List Stp} {row und : List Int} {dx : Addr} (f : FeedS K C H a F ps row und) (hi : H a = some (.ins C dx F.fs)) (hl : H l = none) {H' : Hp}
    (e : H' = upd (upd H l (.lst [])) a (.ins C dx (FC5.fs { F with un := l }))) : FeedS K C H' a { F with un := l } ps row [] ∧ Frm (F.cells a) H H' := by
  have al : a ≠ l := ne_of_none hi hl
  have fr : Frm [a] H H' := fun b o h n => by
    have n : b ≠ a := fun z => n (by rw [z]; exact List.mem_singleton.mpr rfl)
    rw [e, upd_ne n, upd_ne (ne_of_none h hl)]
    exact h
  have nt : ∀ b ∈ [a], ∀ ys, H b ≠ some (.tup ys) ∧ ∀ o, H b ≠ some (.frz o (.tup ys)) := fun b hb => f.noT b (by rw [List.mem_singleton.mp hb]; simp [FC5.cells])
  have keep : ∀ b o, H b = some o → b ≠ a → H' b = some o := fun b o h n => fr b o h (fun z => n (List.mem_singleton.mp z))
  obtain ⟨qs, hq, hqa⟩ := f.answers
  obtain ⟨ss, hs, hsl, hss⟩ := f.states
  have hn := f.numbers
  refine ⟨⟨⟨dx, by rw [e, upd_same]⟩, stps_frm fr nt f.chain, keep _ _ hn (ne_of hn hi (by intro z; cases z)), ⟨qs, keep _ _ hq (ne_of hq hi (by intro z; cases z)), hqa.1, fun i q g h1 h2 => sqt_frm fr nt (hqa.2 i q g h1 h2)⟩,
    ⟨ss, keep _ _ hs (ne_of hs hi (by intro z; cases z)), hsl, fun i s h => state_frm fr nt (hss i s h)⟩, by rw [e, upd_ne (fun z => al z.symm), upd_same]; rfl, f.a1, f.a2, ne_of_none hn hl, f.a4, ne_of_none hq hl, ne_of_none hs hl⟩, fun b o h n => keep b o h (fun z => n (by rw [z]; simp [FC5.cells]))⟩
section
variable {P : Program} {w : World} {K : PySem.W.Frag} {mg : Str → Option Value} {base : Heap}
/-- what a changed feed may bring -/
def FeedQ (K : PySem.W.Frag) (C : Addr) (H : Hp) (a : Addr) (F : FC5) (ps : List Stp) (row und : List Int) (ans : List Int) (Q : VK) : Prop :=
  ∀ (g : Addr) (H' : Hp) (F' : FC5), FeedS K C H' a F' ps row und → Frm (F.cells a) H H' → (∀ b ∈ F'.cells a, b ∈ F.cells a ∨ H b = none) → F'.c = F.c → SqT K H' g (ans.map V.int) → Q (.ref g) H'
/-! ### put -/
def spPut (K : PySem.W.Frag) (C c2 c4 : Addr) : Sp := fun vs H Q E => ∃ (a : Addr) (y : V) (F : FC5) (ps : List Stp) (row und : List Int), vs = [.ref a, y] ∧ Nice K H y ∧ FeedS K C H a F ps row und ∧ (∀ p ∈ ps, p.ok) ∧ ps.length ≤ 4 ∧ row.length ≤ 100 ∧
  ((rowOkV y = false ∧ ∀ H', Same H H' → E (.ref c2) none H') ∨ (rowOkV y = true ∧ 60 ≤ row.length ∧ ∀ H', Same H H' → E (.ref c4) none H') ∨
   (∃ x, y = .int x ∧ rowOkV y = true ∧ row.length < 60 ∧ FeedQ K C H a F ps (row ++ [x]) [] (newM ps row [x]) Q))
theorem scPut : FnScope ["self", "number"] ["self", "number"] (defScope (fdM 1)) := ⟨rfl, rfl, rfl, by decide +kernel, rfl, by decide +kernel, by decide +kernel⟩
theorem ok_put {f fT C c2 c4 : Addr} {tM : Tok} {fd fdT : FuncData} (F : Fun K "put" "Feed.put" (fdM 1) f fd) (T : FdT K mg C) (B : Blt mg) (CN : Cal P w K mg base CX0 2 "is_number" ["value"] (spIsNumber K)) (mM : mg "MOST_NUMBERS" = some (.int 60 tM))
    (GT : FnOk P w K mg base CX0 4 fT fdT ["self", "number"] (spTake K C)) (bT : Binds K fdT ["self", "number"] []) (mT : Meth K C "take" fT) (X2 : ExcT K mg "InvalidNumber" c2) (X4 : ExcT K mg "TooMany" c4) :
    FnOk P w K mg base (L2N.CX P w) 5 f fd ["self", "number"] (spPut K C c2 c4) := by
  refine okM F scPut (fun vs H Q E h => ?_) (fun cdv A outer s H vs Q E hr h => ?_)
  · obtain ⟨a, y, F, ps, row, und, rfl, _⟩ := h
    rfl
  · obtain ⟨a, y, F, ps, row, und, rfl, hy, hf, hok, hl, hlr, h⟩ := h
    have hr2 : Room 2 _ := hr.mono (by decide)
    refine ⟨_, pss_cons (ps_if (pt_not (pt_val (pe_cal CN hr2 pass0 (pa_cons (pv 1) pa_nil)))) (pss_one (L2N.ps_raise rfl (L2N.takes_of rfl rfl rfl rfl) (L2N.pmk_own PySem.F.excBase_ValueError X2.q X2.gC X2.kC (raises_own X2.bP X2.tP) rfl))) pss_nil)
      (pss_cons (ps_if (pt_cmp (pc_ge (pe_callB call_len_seq (by rfl) B.len PySem.boot_len (pa_cons (pe_fld (pv 0) rfl) pa_nil)) (pe_glob (v := .int 60) rfl mM ⟨_, rfl⟩))) (pss_one (L2N.ps_raise rfl (L2N.takes_of rfl rfl rfl rfl) (L2N.pmk_own PySem.F.excBase_ValueError X4.q X4.gC X4.kC (raises_own X4.bP X4.tP) rfl))) pss_nil)
      (pss_cons (ps_fld (pv 0) (pe_lst pa_nil) rfl)
      (pss_one (ps_ret (pe_meth (pv 0) T.cl mT GT hr bT .nil pass0 (pa_cons (pv 1) pa_nil)))))), ?_⟩
    refine ⟨_, rfl, y, rfl, hy, fun H1 s1 => ⟨_, rfl, ?_⟩⟩
    have f1 := hf.same s1
    obtain ⟨dx, hi⟩ := f1.ins
    rcases h with ⟨hw, k⟩ | ⟨hw, h60, k⟩ | ⟨x, rfl, hw, h60, k⟩
    · rw [hw]
      exact iteT (k H1 s1)
    · rw [hw]
      refine iteF ?_
      refine ⟨_, rfl, a, C, dx, _, _, rfl, hi, T.cl, T.nn, F.numbers, F.n, _, rfl, .inl (SqL.of f1.numbers), _, _, rfl, rfl, _, rfl, ?_⟩
      refine ite2 (fun _ => k H1 s1) (fun z => absurd (decide_eq_true (by rw [List.length_map]; omega)) z)
    · rw [hw]
      refine iteF ?_
      refine ⟨_, rfl, a, C, dx, _, _, rfl, hi, T.cl, T.nn, F.numbers, F.n, _, rfl, .inl (SqL.of f1.numbers), _, _, rfl, rfl, _, rfl, ?_⟩
      refine ite2 (fun z => absurd (of_decide_eq_true z) (by rw [List.length_map]; omega)) (fun _ => ?_)
      refine ⟨Nat.zero_le _, fun l nl => ⟨_, rfl, a, C, dx, _, rfl, (upd_ne (ne_of_none hi nl)).trans hi, T.cl, T.nu, (by show 5 < 1000; decide), ?_⟩⟩
      obtain ⟨f2, fr2⟩ := feed_un f1 hi nl rfl
      rw [FC5.put]
      have hnH : H l = none := by
        cases q : H l with
        | none => rfl
        | some v => rw [s1 _ _ q] at nl; cases nl
      refine ⟨_, rfl, a, dx, _, rfl, upd_same, rfl, _, rfl, a, x, { F with un := l }, ps, row, [], rfl, f2, hok, hl, by omega, fun g H3 f3 fr3 hg => ?_⟩
      refine k g H3 _ f3 (fun b o hb n => fr3 b o (fr2 b o (s1 b o hb) n) fun z => ?_) (fun b hb => ?_) rfl hg
      · simp only [FC5.cells, List.mem_cons, List.mem_nil_iff, or_false] at z n
        rcases z with z | z | z | z | z
        · exact n (.inl z)
        · exact n (.inr (.inl z))
        · exact n (.inr (.inr (.inl z)))
        · exact n (.inr (.inr (.inr (.inl z))))
        · rw [z, hnH] at hb; cases hb
      · simp only [FC5.cells, List.mem_cons, List.mem_nil_iff, or_false] at hb ⊢
        rcases hb with z | z | z | z | z
        · exact .inl (.inl z)
        · exact .inl (.inr (.inl z))
        · exact .inl (.inr (.inr (.inl z)))
        · exact .inl (.inr (.inr (.inr (.inl z))))
        · rw [z]; exact .inr hnH
end
end FC
set_option Elab.async false
set_option linter.all false
set_option maxRecDepth 100000
set_option maxHeartbeats 4000000
/-! A feed is made; two feeds are compared. -/
namespace FC
open PySem PySem.Spec PyProof.Rows L2
/-- a new list is put into a field -/
theorem init_step {C a dx l : Addr} {H0 G : Hp} {fs : List (Str × V)} {z : Str} (fr : Frm [a] H0 G) (hi : G a = some (.ins C dx fs)) (nl : G l = none) {G' : Hp} (e : G' = upd (upd G l (.lst [])) a (.ins C dx (putF z (.ref l) fs))) :
    Frm [a] H0 G' ∧ G' a = some (.ins C dx (putF z (.ref l) fs)) ∧ G' l = some (.lst []) ∧ (∀ b o, G b = some o → b ≠ a → G' b = some o) ∧ a ≠ l := by
  have al : a ≠ l := ne_of_none hi nl
  have keep : ∀ b o, G b = some o → b ≠ a → G' b = some o := fun b o h n => by rw [e, upd_ne n, upd_ne (ne_of_none h nl)]; exact h
  refine ⟨fun b o h n => keep b o (fr b o h n) (fun w => n (by rw [w]; simp)), by rw [e, upd_same], by rw [e, upd_ne (fun w => al w.symm), upd_same], keep, al⟩
section
variable {P : Program} {w : World} {K : PySem.W.Frag} {mg : Str → Option Value} {base : Heap}
def spInitF (K : PySem.W.Frag) (C c0 : Addr) : Sp := fun vs H Q E => ∃ (a dx : Addr) (y : V), vs = [.ref a, y] ∧ H a = some (.ins C dx []) ∧
  ((∃ oo, ChainV K H y oo ∧ chainOkO oo = false ∧ ∀ H', Same H H' → E (.ref c0) none H') ∨
   (∃ (c : Addr) (ps : List Stp), y = .ref c ∧ ChainAt K H c (ps.map Stp.v) ∧ chainOk (ps.map Stp.v) = true ∧ ∀ H' F, FeedS K C H' a F ps [] [] → F.c = c → Frm [a] H H' → (∀ b ∈ F.cells a, b = a ∨ H b = none) → Q .non H'))
theorem scInitF : FnScope ["self", "chain"] ["self", "chain"] (defScope (fdM 0)) := ⟨rfl, rfl, rfl, by decide +kernel, rfl, by decide +kernel, by decide +kernel⟩
theorem ok_initF {f C c0 : Addr} {fd : FuncData} (F : Fun K "__init__" "Feed.__init__" (fdM 0) f fd) (T : FdT K mg C) (CK : Cal P w K mg base (L2N.CX P w) 5 "check_chain" ["value"] (spCheck K c0)) : FnOk P w K mg base (L2N.CX P w) 6 f fd ["self", "chain"] (spInitF K C c0) := by
  refine okM F scInitF (fun vs H Q E h => ?_) (fun cdv A outer s H vs Q E hr h => ?_)
  · obtain ⟨a, dx, y, rfl, _⟩ := h
    rfl
  · obtain ⟨a, dx, y, rfl, hi, h⟩ := h
    refine ⟨_, pss_cons (ps_expr (pe_cal CK hr (L2N.passes_call (W := fun cls d _ H => E cls d H) (L2N.takes_of rfl rfl rfl rfl) (fun _ _ _ _ h => h)) (pa_cons (pv 1) pa_nil)))
      (pss_cons (ps_fld (pv 0) (pv 1) rfl) (pss_cons (ps_fld (pv 0) (pe_lst pa_nil) rfl) (pss_cons (ps_fld (pv 0) (pe_lst pa_nil) rfl) (pss_cons (ps_fld (pv 0) (pe_lst pa_nil) rfl) (pss_one (ps_fld (pv 0) (pe_lst pa_nil) rfl)))))), ?_⟩
    rcases h with ⟨oo, hx, hf, k⟩ | ⟨c, ps, rfl, hca, hcok, k⟩
    · exact ⟨_, rfl, y, oo, rfl, hx, fun H1 s1 => ⟨fun z => (by rw [hf] at z; cases z), fun _ => k H1 s1⟩⟩
    · have e1 : chainOkO (some ((ps.map Stp.v).map some)) = true := (chainOkL_some _).trans hcok
      refine ⟨_, rfl, _, _, rfl, hca.v, fun H1 s1 => ⟨fun _ => ?_, fun z => (by rw [e1] at z; cases z)⟩⟩
      have hi1 := s1 _ _ hi
      refine ⟨_, rfl, _, rfl, a, C, dx, _, rfl, hi1, T.cl, T.nc, (by show 0 < 1000; decide), ?_⟩
      have fr1 : Frm [a] H (upd H1 a (.ins C dx (putF "chain" (.ref c) []))) := (Frm.same s1).upd (by simp)
      have i1 : upd H1 a (.ins C dx (putF "chain" (.ref c) [])) a = some (.ins C dx (putF "chain" (.ref c) [])) := upd_same
      have free1 : ∀ b, upd H1 a (.ins C dx (putF "chain" (.ref c) [])) b = none → H b = none := fun b hb => by
        have n : b ≠ a := fun w => by rw [w, i1] at hb; cases hb
        rw [upd_ne n] at hb
        cases q : H b with
        | none => rfl
        | some v => rw [s1 _ _ q] at hb; cases hb
      generalize upd H1 a (.ins C dx (putF "chain" (.ref c) [])) = G1 at fr1 i1 free1 ⊢
      refine ⟨Nat.zero_le _, fun l1 n1 => ⟨_, rfl, a, C, dx, _, rfl, (upd_ne (ne_of_none i1 n1)).trans i1, T.cl, T.nn, (by show 1 < 1000; decide), ?_⟩⟩
      obtain ⟨fr2, i2, e21, k2, al1⟩ := init_step fr1 i1 n1 (z := "numbers") rfl
      have free2 : ∀ b, upd (upd G1 l1 (.lst [])) a (.ins C dx (putF "numbers" (.ref l1) (putF "chain" (.ref c) []))) b = none → G1 b = none := fun b hb => by
        cases q : G1 b with
        | none => rfl
        | some v =>
          by_cases n : b = a
          · rw [n, i2] at hb; cases hb
          · rw [k2 _ _ q n] at hb; cases hb
      generalize upd (upd G1 l1 (.lst [])) a (.ins C dx (putF "numbers" (.ref l1) (putF "chain" (.ref c) []))) = G2 at fr2 i2 e21 k2 free2 ⊢
      refine ⟨Nat.zero_le _, fun l2 n2 => ⟨_, rfl, a, C, dx, _, rfl, (upd_ne (ne_of_none i2 n2)).trans i2, T.cl, T.na, (by show 2 < 1000; decide), ?_⟩⟩
      obtain ⟨fr3, i3, e32, k3, al2⟩ := init_step fr2 i2 n2 (z := "answers") rfl
      have e31 := k3 _ _ e21 (fun z => al1 z.symm)
      have free3 : ∀ b, upd (upd G2 l2 (.lst [])) a (.ins C dx (putF "answers" (.ref l2) (putF "numbers" (.ref l1) (putF "chain" (.ref c) [])))) b = none → G2 b = none := fun b hb => by
        cases q : G2 b with
        | none => rfl
        | some v =>
          by_cases n : b = a
          · rw [n, i3] at hb; cases hb
          · rw [k3 _ _ q n] at hb; cases hb
      generalize upd (upd G2 l2 (.lst [])) a (.ins C dx (putF "answers" (.ref l2) (putF "numbers" (.ref l1) (putF "chain" (.ref c) [])))) = G3 at fr3 i3 e32 k3 e31 free3 ⊢
      refine ⟨Nat.zero_le _, fun l3 n3 => ⟨_, rfl, a, C, dx, _, rfl, (upd_ne (ne_of_none i3 n3)).trans i3, T.cl, T.ns, (by show 3 < 1000; decide), ?_⟩⟩
      obtain ⟨fr4, i4, e43, k4, al3⟩ := init_step fr3 i3 n3 (z := "states") rfl
      have e41 := k4 _ _ e31 (fun z => al1 z.symm)
      have e42 := k4 _ _ e32 (fun z => al2 z.symm)
      have free4 : ∀ b, upd (upd G3 l3 (.lst [])) a (.ins C dx (putF "states" (.ref l3) (putF "answers" (.ref l2) (putF "numbers" (.ref l1) (putF "chain" (.ref c) []))))) b = none → G3 b = none := fun b hb => by
        cases q : G3 b with
        | none => rfl
        | some v =>
          by_cases n : b = a
          · rw [n, i4] at hb; cases hb
          · rw [k4 _ _ q n] at hb; cases hb
      generalize upd (upd G3 l3 (.lst [])) a (.ins C dx (putF "states" (.ref l3) (putF "answers" (.ref l2) (putF "numbers" (.ref l1) (putF "chain" (.ref c) []))))) = G4 at fr4 i4 e43 k4 e41 e42 free4 ⊢
      refine ⟨Nat.zero_le _, fun l4 n4 => ⟨_, rfl, a, C, dx, _, rfl, (upd_ne (ne_of_none i4 n4)).trans i4, T.cl, T.nu, (by show 4 < 1000; decide), ?_⟩⟩
      obtain ⟨fr5, i5, e54, k5, al4⟩ := init_step fr4 i4 n4 (z := "undone") rfl
      have e51 := k5 _ _ e41 (fun z => al1 z.symm)
      have e52 := k5 _ _ e42 (fun z => al2 z.symm)
      have e53 := k5 _ _ e43 (fun z => al3 z.symm)
      have d12 : l1 ≠ l2 := ne_of_none e21 n2
      have d13 : l1 ≠ l3 := ne_of_none e31 n3
      have d14 : l1 ≠ l4 := ne_of_none e41 n4
      have d23 : l2 ≠ l3 := ne_of_none e32 n3
      have d24 : l2 ≠ l4 := ne_of_none e42 n4
      have d34 : l3 ≠ l4 := ne_of_none e43 n4
      have nt : ∀ b ∈ [a], ∀ ys, H b ≠ some (.tup ys) ∧ ∀ o, H b ≠ some (.frz o (.tup ys)) := fun b hb ys => by
        rw [List.mem_singleton.mp hb, hi]
        exact ⟨(by intro z; cases z), fun o => (by intro z; cases z)⟩
      refine k _ ⟨c, l1, l2, l3, l4⟩ ⟨⟨dx, i5⟩, stps_frm fr5 nt (stps_at hca), e51, ⟨[], e52, ?_, fun i q g h1 _ => by simp at h1⟩, ⟨[], e53, rfl, fun i s h => by simp at h⟩, e54, d12, d13, d14, d23, d24, d34⟩ rfl fr5 (fun b hb => ?_)
      · rw [given_len]
        rfl
      · simp only [FC5.cells, List.mem_cons, List.mem_nil_iff, or_false] at hb
        rcases hb with z | z | z | z | z
        · exact .inl z
        · exact .inr (by rw [z]; exact free1 _ n1)
        · exact .inr (by rw [z]; exact free1 _ (free2 _ n2))
        · exact .inr (by rw [z]; exact free1 _ (free2 _ (free3 _ n3)))
        · exact .inr (by rw [z]; exact free1 _ (free2 _ (free3 _ (free4 _ n4))))
end
/-! ### == -/
def intsD (ns : List Int) : List PyData := ns.map PyData.int
theorem dp_intsD {K : PySem.W.Frag} {H : Hp} : ∀ (ns : List Int), DpAll K H (ns.map V.int) (intsD ns)
  | [] => .nil
  | n :: r => .cons (.int n) (dp_intsD r)
theorem stps_dp {K : PySem.W.Frag} {H : Hp} {c : Addr} {ps : List Stp} (h : StpsAt K H c ps) (hc : chainOk (ps.map Stp.v) = true) : Dp K H (.ref c) (chainData (ps.map Stp.v)) := by
  obtain ⟨xs, x1, x2, x3⟩ := h
  refine .tup x1 (dp_steps (by rw [x2, List.length_map]) fun i x ys hx hy => ?_)
  rw [List.getElem?_map] at hy
  obtain ⟨p, hp, rfl⟩ := Option.map_eq_some_iff.mp hy
  obtain ⟨b, rfl, hb⟩ := x3 i x p hx hp
  exact .tup hb (dp_flat (stepOk_strInt (chainOk_steps hc _ (List.mem_of_getElem? (by rw [List.getElem?_map, hp]; rfl)))))
theorem ints_lay (ns : List Int) : PyData.canLayAll0 (intsD ns) = true := lay_all fun d hd => by
  obtain ⟨i, _, rfl⟩ := List.mem_map.mp hd
  rfl
theorem ints_dep (ns : List Int) : PyData.depthAll (intsD ns) ≤ 0 := depth_all fun d hd => by
  obtain ⟨i, _, rfl⟩ := List.mem_map.mp hd
  exact Nat.le_refl _
theorem lst_shaped (ns : List Int) : SeqAt.shaped (PyData.list (intsD ns)) = true := by
  show (PyData.canLayAll0 (intsD ns) && decide (PyData.depthAll (intsD ns) + 1 ≤ 64)) = true
  have := ints_dep ns
  rw [ints_lay, decide_eq_true (by omega)]
  rfl
theorem tp_shaped (ns : List Int) : SeqAt.shaped (PyData.tuple (intsD ns)) = true := by
  show (PyData.canLayAll0 (intsD ns) && decide (PyData.depthAll (intsD ns) + 1 ≤ 64)) = true
  have := ints_dep ns
  rw [ints_lay, decide_eq_true (by omega)]
  rfl
structure EqF (K : PySem.W.Frag) (C : Addr) : Prop where
  ha : PySem.W.findIn K (.ref C) "__class__" = some (some (.builtin "object.__class__"))
  hn : PySem.W.specialIn K (.builtin "object.__class__") "__get__" = some (some (.builtin "getset_descriptor.__get__"))
  htk : PySem.W.takesIn K (.builtin "object.__class__") = some true
  hm : PySem.W.mroIn K C (.type "object") = some true
  kC : PySem.W.kitOne K (.ref C) (.ref C) = some true
  ki : PySem.W.kitOne K (.type "int") (.ref C) = some false
section
variable {P : Program} {w : World} {K : PySem.W.Frag} {mg : Str → Option Value} {base : Heap}
def spEqF (K : PySem.W.Frag) (C : Addr) : Sp := fun vs H Q _ => ∃ (a : Addr) (y : V) (F : FC5) (ps : List Stp) (row und : List Int), vs = [.ref a, y] ∧ FeedS K C H a F ps row und ∧ chainOk (ps.map Stp.v) = true ∧
  ((∃ i, y = .int i ∧ Q (.bl false) H) ∨ (∃ (b : Addr) (G : FC5) (qs : List Stp) (row2 und2 : List Int), y = .ref b ∧ FeedS K C H b G qs row2 und2 ∧ chainOk (qs.map Stp.v) = true ∧
    Q (.bl (PyData.eqv (chainData (ps.map Stp.v)) (chainData (qs.map Stp.v)) && PyData.eqv (.list (intsD row)) (.list (intsD row2)))) H))
theorem scEqF : FnScope ["self", "other"] ["self", "other"] (defScope (fdM 7)) := ⟨rfl, rfl, rfl, by decide +kernel, rfl, by decide +kernel, by decide +kernel⟩
theorem ok_eqF {f C : Addr} {fd : FuncData} (F : Fun K "__eq__" "Feed.__eq__" (fdM 7) f fd) (T : FdT K mg C) (B : Blt mg) (EF : EqF K C) : FnOk P w K mg base CX0 2 f fd ["self", "other"] (spEqF K C) := by
  refine F.ok scEqF (fun vs H Q E h => ?_) (fun cdv A outer s H vs Q E hr h => ?_)
  · obtain ⟨a, y, F, ps, row, und, rfl, _⟩ := h
    rfl
  · obtain ⟨a, y, F, ps, row, und, rfl, hf, hc, h⟩ := h
    refine ⟨_, pss_one (ps_ret (pe_and (pe_callB call_isi (by rfl) B.isi (by decide +kernel) (pa_cons (pv 1) (pa_cons (pe_glob (v := .ref C) rfl T.gC rfl) pa_nil)))
      (pe_and (pe_cmpR (op_eqD hr.units) (pe_fld (pv 0) rfl) (pe_fld (pv 1) rfl) (nomark _)) (pe_one (pe_cmpR (op_eqD hr.units) (pe_fld (pv 0) rfl) (pe_fld (pv 1) rfl) (nomark _)))))), ?_⟩
    obtain ⟨dx, hi⟩ := hf.ins
    rcases h with ⟨i, rfl, k⟩ | ⟨b, G, qs, row2, und2, rfl, hg, hc2, k⟩
    · exact ⟨_, rfl, _, _, _, _, _, rfl, .own C, .base (.int i), EF.ki, _, rfl, iteF k⟩
    · obtain ⟨dy, hj⟩ := hg.ins
      refine ⟨_, rfl, _, _, _, _, _, rfl, .own C, .base (.ins hj T.cl EF.ha EF.hn EF.htk EF.hm), EF.kC, _, rfl, iteT ?_⟩
      refine ⟨_, rfl, a, C, dx, _, _, rfl, hi, T.cl, T.nc, F.chain, _, rfl, b, C, dy, _, _, rfl, hj, T.cl, T.nc, G.chain, chainData (ps.map Stp.v), chainData (qs.map Stp.v), stps_dp hf.chain hc, stps_dp hg.chain hc2, chain_shaped hc, chain_shaped hc2, _, rfl, ?_⟩
      cases e1 : PyData.eqv (chainData (ps.map Stp.v)) (chainData (qs.map Stp.v)) with
      | false =>
        rw [e1, Bool.false_and] at k
        exact iteF k
      | true =>
        rw [e1, Bool.true_and] at k
        refine iteT ?_
        exact ⟨_, rfl, a, C, dx, _, _, rfl, hi, T.cl, T.nn, F.numbers, _, rfl, b, C, dy, _, _, rfl, hj, T.cl, T.nn, G.numbers, .list (intsD row), .list (intsD row2), .lst (SqL.of hf.numbers) (dp_intsD row), .lst (SqL.of hg.numbers) (dp_intsD row2), lst_shaped row, lst_shaped row2, k⟩
end
end FC
set_option Elab.async false
set_option linter.all false
set_option maxRecDepth 100000
set_option maxHeartbeats 1000000
namespace FC
open PySem PySem.Spec PyProof.Rows L2
/-- all but d and the tables of code objects is as it was -/
def Keep (d : Addr) (H H' : Hp) : Prop := ∀ b o, H b = some o → b ≠ d → (∀ ps, o ≠ .tbl ps) → H' b = some o
theorem Keep.refl (d : Addr) (H : Hp) : Keep d H H := fun _ _ h _ _ => h
theorem Keep.trans {d : Addr} {H H1 H2 : Hp} (a : Keep d H H1) (b : Keep d H1 H2) : Keep d H H2 := fun c o h n m => b c o (a c o h n m) n m
theorem Keep.same {d : Addr} {H H' : Hp} (e : Same H H') : Keep d H H' := fun b o h _ _ => e b o h
theorem Keep.sameX {d : Addr} {H H' : Hp} (e : SameX d H H') : Keep d H H' := fun b o h n _ => e b o h n
theorem Keep.ext {d : Addr} {H H' : Hp} (e : LamX.ExtN H H') : Keep d H H' := fun b o h _ m => e b o h m
theorem sqt_keep {K : PySem.W.Frag} {H H' : Hp} {a d : Addr} {xs : List V} (h : SqT K H a xs) (hd : Dice H d) (s : Keep d H H') : SqT K H' a xs := by
  obtain ⟨x, y, e⟩ := hd
  rcases h with (h | ⟨o, h⟩) | h
  · exact .inl (.inl (s _ _ h (ne_of h e (by intro z; cases z)) (fun ps z => by cases z)))
  · exact .inl (.inr ⟨o, s _ _ h (ne_of h e (by intro z; cases z)) (fun ps z => by cases z)⟩)
  · exact .inr h
theorem chain_keep {K : PySem.W.Frag} {H H' : Hp} {a d : Addr} {cs : List (List V)} (h : ChainAt K H a cs) (hc : chainOk cs = true) (hd : Dice H d) (s : Keep d H H') : ChainAt K H' a cs := by
  obtain ⟨xs, h1, h2⟩ := h
  refine ⟨xs, sqt_keep h1 hd s, h2.len, fun i x o hx ho => ?_⟩
  have hi := get_lt ho
  rw [List.length_map] at hi
  have e : (cs.map some)[i]? = some (some cs[i]) := by rw [List.getElem?_map, List.getElem?_eq_getElem hi]; rfl
  rw [e] at ho
  have ho : some cs[i] = o := Option.some.inj ho
  subst ho
  obtain ⟨b, e1, e2, _⟩ := h2.at_ i x _ hx e
  exact ⟨b, e1, sqt_keep e2 hd s, fun y hy => strInt_nice (stepOk_strInt (chainOk_steps hc _ (List.getElem_mem hi)) y hy)⟩
theorem tabs_sameX {T : List (Addr × Str)} {H H' : Hp} {d : Addr} (h : LamX.Tabs T H) (hd : Dice H d) (s : SameX d H H') : LamX.Tabs T H' := fun p hp => by
  obtain ⟨x, y, e⟩ := hd
  obtain ⟨ps, h1, h2, h3⟩ := h p hp
  refine ⟨ps, s _ _ h1 (ne_of h1 e (by intro z; cases z)), h2, fun pos cv hc => ?_⟩
  obtain ⟨c, e1, e2⟩ := h3 pos cv hc
  exact ⟨c, e1, s _ _ e2 (ne_of e2 e (by unfold LamX.CodeO; intro z; cases z))⟩
/-- what stands through a round of the law: the dice of all rounds at t, one of them d, the lambdas' table -/
structure Rd (T : List (Addr × Str)) (t d : Addr) (ds : List Addr) (H : Hp) : Prop where
  tl : H t = some (.lst (ds.map V.ref))
  all : ∀ c ∈ ds, Dice H c
  me : d ∈ ds
  tb : LamX.Tabs T H
theorem Rd.d {T : List (Addr × Str)} {t d : Addr} {ds : List Addr} {H : Hp} (r : Rd T t d ds H) : Dice H d := r.all d r.me
theorem Rd.step {T : List (Addr × Str)} {t d : Addr} {ds : List Addr} {H H' : Hp} (r : Rd T t d ds H) (k : Keep d H H') (hd : Dice H' d) (tb : LamX.Tabs T H') : Rd T t d ds H' := by
  have td : t ≠ d := fun z => by
    obtain ⟨x, y, e⟩ := r.d
    rw [← z, r.tl] at e
    have e := Option.some.inj e
    injection e with e
    match ds, e with
    | c :: _, e => injection e with e; cases e
  refine ⟨k _ _ r.tl td (fun ps z => by cases z), fun c hc => ?_, r.me, tb⟩
  by_cases h : c = d
  · rw [h]
    exact hd
  · obtain ⟨x, y, e⟩ := r.all c hc
    exact ⟨x, y, k _ _ e h (fun ps z => by cases z)⟩
theorem Rd.same {T : List (Addr × Str)} {t d : Addr} {ds : List Addr} {H H' : Hp} (r : Rd T t d ds H) (s : Same H H') : Rd T t d ds H' := r.step (Keep.same s) (r.d.same s) (r.tb.ext s)
theorem Rd.roll {T : List (Addr × Str)} {t d : Addr} {ds : List Addr} {H H' : Hp} (r : Rd T t d ds H) (s : SameX d H H') (hd : Dice H' d) : Rd T t d ds H' := r.step (Keep.sameX s) hd (tabs_sameX r.tb r.d s)
theorem Rd.ext {T : List (Addr × Str)} {t d : Addr} {ds : List Addr} {H H' : Hp} (r : Rd T t d ds H) (s : LamX.ExtN H H') (tb : LamX.Tabs T H') : Rd T t d ds H' := by
  obtain ⟨x, y, e⟩ := r.d
  exact r.step (Keep.ext s) ⟨x, y, s _ _ e (fun ps z => by cases z)⟩ tb
/-- what stands through the law: the dice of all rounds at t, the lambdas' table -/
structure Rt (T : List (Addr × Str)) (t : Addr) (ds : List Addr) (H : Hp) : Prop where
  tl : H t = some (.lst (ds.map V.ref))
  all : ∀ c ∈ ds, Dice H c
  tb : LamX.Tabs T H
theorem Rt.rd {T : List (Addr × Str)} {t d : Addr} {ds : List Addr} {H : Hp} (r : Rt T t ds H) (h : d ∈ ds) : Rd T t d ds H := ⟨r.tl, r.all, h, r.tb⟩
theorem Rd.rt {T : List (Addr × Str)} {t d : Addr} {ds : List Addr} {H : Hp} (r : Rd T t d ds H) : Rt T t ds H := ⟨r.tl, r.all, r.tb⟩
theorem ifNe {x y : V} {A B : Prop} (h : x = y) (hb : B) : if (!decide (x = y)) = true then A else B := by
  rw [decide_eq_true h, if_neg (by decide)]
  exact hb
theorem ifEqvT {x y : PyData} {A B : Prop} (h : PyData.eqv x y = true) (hb : B) : if (!PyData.eqv x y) = true then A else B := by
  rw [h, if_neg (by decide)]
  exact hb
theorem ifEqvF {x y : PyData} {A B : Prop} (h : PyData.eqv x y = false) (hb : A) : if (!PyData.eqv x y) = true then A else B := by
  rw [h, if_pos (by decide)]
  exact hb
theorem ifNot {c : Bool} {A B : Prop} (h : c = true) (hb : B) : if (!c) = true then A else B := by
  rw [h, if_neg (by decide)]
  exact hb
end FC
set_option Elab.async false
set_option linter.all false
set_option maxRecDepth 100000
set_option maxHeartbeats 1000000
/-! What stands while some places change. -/
namespace FC
open PySem PySem.Spec PyProof.Rows L2
/-- all but the places of L and the tables of code objects is as it was -/
def Kp (L : List Addr) (H H' : Hp) : Prop := ∀ b o, H b = some o → b ∉ L → (∀ ps, o ≠ .tbl ps) → H' b = some o
theorem Kp.refl (L : List Addr) (H : Hp) : Kp L H H := fun _ _ h _ _ => h
theorem Kp.trans {L : List Addr} {H H1 H2 : Hp} (x : Kp L H H1) (y : Kp L H1 H2) : Kp L H H2 := fun b o h n m => y b o (x b o h n m) n m
theorem Kp.same {L : List Addr} {H H' : Hp} (s : Same H H') : Kp L H H' := fun b o h _ _ => s b o h
theorem Kp.frm {L : List Addr} {H H' : Hp} (s : Frm L H H') : Kp L H H' := fun b o h n _ => s b o h n
theorem Kp.ext {L : List Addr} {H H' : Hp} (s : LamX.ExtN H H') : Kp L H H' := fun b o h _ m => s b o h m
theorem Kp.sameX {d : Addr} {H H' : Hp} (s : SameX d H H') : Kp [d] H H' := fun b o h n _ => s b o h (fun z => n (by rw [z]; simp))
theorem Kp.mono {L M : List Addr} {H H' : Hp} (s : Kp L H H') (h : ∀ b ∈ L, b ∈ M) : Kp M H H' := fun b o hb n m => s b o hb (fun z => n (h b z)) m
/-- lists and instances stand there -/
def Plain (L : List Addr) (H : Hp) : Prop := ∀ b ∈ L, (∃ C dx fs, H b = some (.ins C dx fs)) ∨ ∃ xs, H b = some (.lst xs)
def NoT (L : List Addr) (H : Hp) : Prop := ∀ b ∈ L, ∀ ys, H b ≠ some (.tup ys) ∧ ∀ o, H b ≠ some (.frz o (.tup ys))
theorem Plain.noT {L : List Addr} {H : Hp} (p : Plain L H) : NoT L H := fun b hb ys => by
  rcases p b hb with ⟨C, dx, fs, e⟩ | ⟨xs, e⟩ <;> rw [e] <;> exact ⟨(by intro z; cases z), fun o => (by intro z; cases z)⟩
theorem Plain.app {L M : List Addr} {H : Hp} (p : Plain L H) (q : Plain M H) : Plain (L ++ M) H := fun b hb => (List.mem_append.mp hb).elim (p b) (q b)
theorem Plain.dice {d : Addr} {H : Hp} (h : Dice H d) : Plain [d] H := fun b hb => by
  obtain ⟨x, y, e⟩ := h
  exact .inr ⟨_, by rw [List.mem_singleton.mp hb]; exact e⟩
theorem Plain.lst {d : Addr} {H : Hp} {xs : List V} (h : H d = some (.lst xs)) : Plain [d] H := fun b hb => .inr ⟨xs, by rw [List.mem_singleton.mp hb]; exact h⟩
theorem FeedS.plain {K : PySem.W.Frag} {C a : Addr} {H : Hp} {F : FC5} {ps : List Stp} {row und : List Int} (f : FeedS K C H a F ps row und) : Plain (F.cells a) H := fun b hb => by
  obtain ⟨⟨dx, h1⟩, _, h3, ⟨qs, h4, _⟩, ⟨ss, h6, _⟩, h9, _⟩ := f
  unfold FC5.cells at hb
  simp only [List.mem_cons, List.mem_nil_iff, or_false] at hb
  rcases hb with rfl | rfl | rfl | rfl | rfl
  · exact .inl ⟨_, _, _, h1⟩
  · exact .inr ⟨_, h3⟩
  · exact .inr ⟨_, h4⟩
  · exact .inr ⟨_, h6⟩
  · exact .inr ⟨_, h9⟩
section
variable {K : PySem.W.Frag} {L : List Addr} {H H' : Hp}
theorem sqt_kp {a : Addr} {xs : List V} (s : Kp L H H') (n : Plain L H) (h : SqT K H a xs) : SqT K H' a xs := by
  rcases h with (h | ⟨o, h⟩) | h
  · exact .inl (.inl (s _ _ h (fun z => (n.noT _ z xs).1 h) (fun ps z => by cases z)))
  · exact .inl (.inr ⟨o, s _ _ h (fun z => (n.noT _ z xs).2 o h) (fun ps z => by cases z)⟩)
  · exact .inr h
theorem tup_kp {a : Addr} {xs : List V} (s : Kp L H H') (n : Plain L H) (h : H a = some (.tup xs)) : H' a = some (.tup xs) := s _ _ h (fun z => (n.noT _ z xs).1 h) (fun ps z => by cases z)
theorem stps_kp {c : Addr} {ps : List Stp} (s : Kp L H H') (n : Plain L H) (h : StpsAt K H c ps) : StpsAt K H' c ps := by
  obtain ⟨xs, x1, x2, x3⟩ := h
  refine ⟨xs, sqt_kp s n x1, x2, fun i x p hx hp => ?_⟩
  obtain ⟨b, h1, h2⟩ := x3 i x p hx hp
  exact ⟨b, h1, sqt_kp s n h2⟩
theorem state_kp {a : Addr} {ps : List Stp} {row : List Int} (s : Kp L H H') (n : Plain L H) (h : StateAt K H a ps row) : StateAt K H' a ps row := by
  obtain ⟨xs, h1, h2, h3⟩ := h
  refine ⟨xs, sqt_kp s n h1, h2, fun i x p hx hp => ?_⟩
  obtain ⟨b, e, hb⟩ := h3 i x p hx hp
  exact ⟨b, e, sqt_kp s n hb⟩
theorem chain_kp {a : Addr} {cs : List (List V)} (s : Kp L H H') (n : Plain L H) (hc : chainOk cs = true) (h : ChainAt K H a cs) : ChainAt K H' a cs := by
  obtain ⟨xs, h1, h2⟩ := h
  refine ⟨xs, sqt_kp s n h1, h2.len, fun i x o hx ho => ?_⟩
  have hi := get_lt ho
  rw [List.length_map] at hi
  have e : (cs.map some)[i]? = some (some cs[i]) := by rw [List.getElem?_map, List.getElem?_eq_getElem hi]; rfl
  rw [e] at ho
  have ho : some cs[i] = o := Option.some.inj ho
  subst ho
  obtain ⟨b, e1, e2, _⟩ := h2.at_ i x _ hx e
  exact ⟨b, e1, sqt_kp s n e2, fun y hy => strInt_nice (stepOk_strInt (chainOk_steps hc _ (List.getElem_mem hi)) y hy)⟩
theorem FeedS.kp {C a : Addr} {F : FC5} {ps : List Stp} {row und : List Int} (s : Kp L H H') (n : Plain L H) (hL : ∀ b ∈ L, b ∉ F.cells a) (f : FeedS K C H a F ps row und) : FeedS K C H' a F ps row und := by
  obtain ⟨⟨dx, h1⟩, h2, h3, ⟨qs, h4, h5⟩, ⟨ss, h6, h7, h8⟩, h9, a1, a2, a3, a4, a5, a6⟩ := f
  have kp : ∀ b o, b ∈ F.cells a → H b = some o → (∀ ps, o ≠ .tbl ps) → H' b = some o := fun b o hb h m => s b o h (fun z => hL b z hb) m
  exact ⟨⟨dx, kp _ _ (by simp [FC5.cells]) h1 (fun ps z => by cases z)⟩, stps_kp s n h2, kp _ _ (by simp [FC5.cells]) h3 (fun ps z => by cases z), ⟨qs, kp _ _ (by simp [FC5.cells]) h4 (fun ps z => by cases z), h5.1, fun i q g hq hg => sqt_kp s n (h5.2 i q g hq hg)⟩,
    ⟨ss, kp _ _ (by simp [FC5.cells]) h6 (fun ps z => by cases z), h7, fun i q hq => state_kp s n (h8 i q hq)⟩, kp _ _ (by simp [FC5.cells]) h9 (fun ps z => by cases z), a1, a2, a3, a4, a5, a6⟩
theorem tabs_frm {T : List (Addr × Str)} (t : LamX.Tabs T H) (s : Frm L H H') (n : Plain L H) : LamX.Tabs T H' := fun p hp => by
  obtain ⟨ps, h1, h2, h3⟩ := t p hp
  have no : ∀ b o, H b = some o → (∀ C dx fs, o ≠ .ins C dx fs) → (∀ xs, o ≠ .lst xs) → b ∉ L := fun b o h m1 m2 hb => by
    rcases n b hb with ⟨C, dx, fs, e⟩ | ⟨xs, e⟩
    · rw [h] at e
      exact m1 _ _ _ (Option.some.inj e)
    · rw [h] at e
      exact m2 _ (Option.some.inj e)
  refine ⟨ps, s _ _ h1 (no _ _ h1 (fun _ _ _ z => by cases z) (fun _ z => by cases z)), h2, fun pos cv hc => ?_⟩
  obtain ⟨c, e1, e2⟩ := h3 pos cv hc
  exact ⟨c, e1, s _ _ e2 (no _ _ e2 (fun _ _ _ z => by unfold LamX.CodeO at z; cases z) (fun _ z => by unfold LamX.CodeO at z; cases z))⟩
theorem Rd.frm {T : List (Addr × Str)} {t d : Addr} {ds : List Addr} (r : Rd T t d ds H) (s : Frm L H H') (n : Plain L H) (ht : t ∉ L) (hd : ∀ c ∈ ds, c ∉ L) : Rd T t d ds H' :=
  ⟨s _ _ r.tl ht, fun c hc => by
    obtain ⟨x, y, e⟩ := r.all c hc
    exact ⟨x, y, s _ _ e (hd c hc)⟩, r.me, tabs_frm r.tb s n⟩
theorem sql_kp {a : Addr} {xs : List V} (s : Kp L H H') (ha : a ∉ L) (h : H a = some (.lst xs)) : H' a = some (.lst xs) := s _ _ h ha (fun ps z => by cases z)
end
/-! ### methods by their promises -/
structure MCal (P : Program) (w : World) (K : PySem.W.Frag) (mg : Str → Option Value) (base : Heap) (CX : CXT) (k : Nat) (C : Addr) (m : Str) (ps : List Str) (sp : Sp) : Prop where
  ex : ∃ f fd, FnOk P w K mg base CX k f fd ps sp ∧ Meth K C m f ∧ Binds K fd ps []
structure MkCal (P : Program) (w : World) (K : PySem.W.Frag) (mg : Str → Option Value) (base : Heap) (CX : CXT) (k : Nat) (C : Addr) (x : Str) (ps : List Str) (sp : Sp) : Prop where
  ex : ∃ f fd, FnOk P w K mg base CX k f fd ps sp ∧ Mk K C f ∧ mg x = some (.ref C) ∧ Binds K fd ps []
def tMc (C : Addr) (m : Str) (sp : Sp) (E : XK) (ta : TE) (t : TA) : TE := fun σ H Q => ta σ H fun x H1 => ∃ a dx fs, x = .ref a ∧ H1 a = some (.ins C dx fs) ∧ fs.lookup m = none ∧ t σ H1 fun vs H2 => sp (x :: vs) H2 Q E
def tMkc (C : Addr) (sp : Sp) (E : XK) (t : TA) : TE := fun σ H Q => t σ H fun vs H1 => ∀ x dx, H1 x = none → H1 dx = none → dx ≠ x → sp (.ref x :: vs) (upd (upd H1 dx (.own x)) x (.ins C dx [])) (fun v H2 => v = .non ∧ Q (.ref x) H2) E
section
variable {X : Cx} {CX : CXT} {k : Nat} {C : Addr} {m x : Str} {ps : List Str} {sp : Sp} {E : XK} {o e : Expr} {es : List Expr} {ta : TE} {t : TA} {p pos apos : Pos}
theorem pe_mc {pl : Sem Bool} (M : MCal X.prog X.w X.K X.mg X.base CX k C m ps sp) (he : PE X o ta) (c : Cls X.K C) (hr : Room k X.A) (hx : Passes CX X E) (ha : PA X (e :: es) t)
    (hst : starEach (e :: es) X.env = (false, eval e X.env) :: starEach es X.env := by rfl) (hpl : (backTo pos (starEach es X.env)).any (·.1) = false := by rfl)
    (ht : eval (.Call (.Attribute o m apos) (e :: es) [] pos) X.env = (do
      let ov ← eval o X.env
      standAt apos.atName
      let (f, first) ← holding [ov] (getMethod ov m pl)
      callWith pos f first (backTo pos (starEach (e :: es) X.env)) (backToKw pos (keywordEach [] X.env))) := by rfl) :
    PE X (.Call (.Attribute o m apos) (e :: es) [] pos) (tMc C m sp E ta t) := by
  obtain ⟨f, fd, G, hm, b⟩ := M.ex
  have h := pe_meth (E := E) he c hm G hr b .nil hx ha hst hpl ht
  refine ⟨fun pins s σ H Q I q => h.run pins s σ H Q I ?_⟩
  refine (show tMeth C m sp [] E ta t σ H Q from ?_)
  unfold tMeth
  unfold tMc at q
  simpa using q
theorem pe_mc0 {pl : Sem Bool} (M : MCal X.prog X.w X.K X.mg X.base CX k C m ps sp) (he : PE X o ta) (c : Cls X.K C) (hr : Room k X.A) (hx : Passes CX X E)
    (ht : eval (.Call (.Attribute o m apos) [] [] pos) X.env = (do
      let ov ← eval o X.env
      standAt apos.atName
      let (f, first) ← holding [ov] (getMethod ov m pl)
      callWith pos f first (backTo pos (starEach [] X.env)) (backToKw pos (keywordEach [] X.env))) := by rfl) :
    PE X (.Call (.Attribute o m apos) [] [] pos) (tMc C m sp E ta tNil) := by
  obtain ⟨f, fd, G, hm, b⟩ := M.ex
  have h := pe_meth0 (E := E) he c hm G hr b .nil hx ht
  refine ⟨fun pins s σ H Q I q => h.run pins s σ H Q I ?_⟩
  refine (show tMeth C m sp [] E ta tNil σ H Q from ?_)
  unfold tMeth
  unfold tMc at q
  simpa using q
theorem pe_mkc (M : MkCal X.prog X.w X.K X.mg X.base CX k C x ps sp) (hr : Room (k + 1) X.A) (hx : Passes CX X E) (ha : PA X (e :: es) t) (hg : Gl X x := by rfl) (hdb : (x == ("__debug__" : Str)) = false := by decide)
    (he : starEach (e :: es) X.env = (false, eval e X.env) :: starEach es X.env := by rfl) (hpl : (backTo pos (starEach es X.env)).any (·.1) = false := by rfl) :
    PE X (.Call (.Name x p) (e :: es) [] pos) (tMkc C sp E t) := by
  obtain ⟨f, fd, G, hm, hmg, b⟩ := M.ex
  have h := pe_make (E := E) (p := p) (pos := pos) hm G hr hg hmg b .nil hx ha hdb he hpl
  refine ⟨fun pins s σ H Q I q => h.run pins s σ H Q I ?_⟩
  refine (show tMake C sp [] E t σ H Q from ?_)
  unfold tMake
  unfold tMkc at q
  simpa using q
end
end FC
set_option Elab.async false
set_option linter.all false
set_option maxRecDepth 100000
set_option maxHeartbeats 2000000
/-! Two feeds in turn: what stands through a round. -/
namespace FC
open PySem PySem.Spec PyProof.Rows L2
def put1 {α : Type} (f : Nat → α) (k : Nat) (x : α) : Nat → α := fun i => if i = k then x else f i
theorem put1_same {α : Type} (f : Nat → α) (k : Nat) (x : α) : put1 f k x k = x := if_pos rfl
theorem put1_ne {α : Type} {f : Nat → α} {k i : Nat} {x : α} (h : i ≠ k) : put1 f k x i = f i := if_neg h
theorem lt2 {k : Nat} (h : k < 2) : k = 0 ∨ k = 1 := by omega
theorem two_get {α : Type} (f : Nat → α) {k : Nat} (h : k < 2) : [f 0, f 1][k]? = some (f k) := by
  rcases lt2 h with rfl | rfl <;> rfl
theorem two_set (f : Nat → Addr) {k : Nat} (h : k < 2) (x : Addr) : ([V.ref (f 0), .ref (f 1)].set k (.ref x)) = [V.ref (put1 f k x 0), .ref (put1 f k x 1)] := by
  rcases lt2 h with rfl | rfl <;> rfl
/-- what stands through a round: the dice; chains, feeds and rows in their lists -/
structure W2 (K : PySem.W.Frag) (C : Addr) (T : List (Addr × Str)) (t d : Addr) (ds : List Addr) (cs fs rs : Addr) (c a : Nat → Addr) (ps : Nat → List Stp) (F : Nat → FC5) (row und : Nat → List Int) (q : Nat → Addr) (rw : Nat → List Int) (H : Hp) : Prop where
  rd : Rd T t d ds H
  cl : H cs = some (.lst [.ref (c 0), .ref (c 1)])
  fl : H fs = some (.lst [.ref (a 0), .ref (a 1)])
  rl : H rs = some (.lst [.ref (q 0), .ref (q 1)])
  ch : ∀ i, i < 2 → ChainAt K H (c i) ((ps i).map Stp.v)
  co : ∀ i, i < 2 → chainOk ((ps i).map Stp.v) = true
  fd : ∀ i, i < 2 → FeedS K C H (a i) (F i) (ps i) (row i) (und i)
  qt : ∀ i, i < 2 → SqT K H (q i) ((rw i).map V.int)
  ap : ∀ i j, i < 2 → j < 2 → i ≠ j → ∀ b ∈ (F i).cells (a i), b ∉ (F j).cells (a j)
  out : ∀ i, i < 2 → ∀ b ∈ (F i).cells (a i), b ≠ t ∧ b ∉ ds ∧ b ≠ cs ∧ b ≠ fs ∧ b ≠ rs
  sep : rs ≠ t ∧ rs ∉ ds ∧ rs ≠ cs ∧ rs ≠ fs ∧ cs ∉ ds ∧ fs ∉ ds
section
variable {K : PySem.W.Frag} {C : Addr} {T : List (Addr × Str)} {t d : Addr} {ds : List Addr} {cs fs rs : Addr} {c a : Nat → Addr} {ps : Nat → List Stp} {F : Nat → FC5} {row und : Nat → List Int} {q : Nat → Addr} {rw : Nat → List Int} {H H' : Hp}
theorem W2.step (w : W2 K C T t d ds cs fs rs c a ps F row und q rw H) (s : Kp [d] H H') (hd : Dice H' d) (tb : LamX.Tabs T H') : W2 K C T t d ds cs fs rs c a ps F row und q rw H' := by
  have pd : Plain [d] H := Plain.dice w.rd.d
  obtain ⟨s1, s2, s3, s4, s5, s6⟩ := w.sep
  have md := w.rd.me
  have nd : ∀ b, b ≠ d → b ∉ [d] := fun b h z => h (List.mem_singleton.mp z)
  refine ⟨w.rd.step (fun b o h n m => s b o h (nd b n) m) hd tb, sql_kp s (nd _ (fun z => s5 (by rw [z]; exact md))) w.cl, sql_kp s (nd _ (fun z => s6 (by rw [z]; exact md))) w.fl, sql_kp s (nd _ (fun z => s2 (by rw [z]; exact md))) w.rl,
    fun i hi => chain_kp s pd (w.co i hi) (w.ch i hi), w.co, fun i hi => (w.fd i hi).kp s pd (fun b hb => ?_), fun i hi => sqt_kp s pd (w.qt i hi), w.ap, w.out, w.sep⟩
  rw [List.mem_singleton.mp hb]
  exact fun z => (w.out i hi d z).2.1 md
theorem W2.same (w : W2 K C T t d ds cs fs rs c a ps F row und q rw H) (s : Same H H') : W2 K C T t d ds cs fs rs c a ps F row und q rw H' := w.step (Kp.same s) (w.rd.d.same s) (w.rd.tb.ext s)
theorem W2.roll (w : W2 K C T t d ds cs fs rs c a ps F row und q rw H) (s : SameX d H H') (hd : Dice H' d) : W2 K C T t d ds cs fs rs c a ps F row und q rw H' := w.step (Kp.sameX s) hd (tabs_sameX w.rd.tb w.rd.d s)
theorem W2.ext (w : W2 K C T t d ds cs fs rs c a ps F row und q rw H) (s : LamX.ExtN H H') (tb : LamX.Tabs T H') : W2 K C T t d ds cs fs rs c a ps F row und q rw H' := by
  obtain ⟨x, y, e⟩ := w.rd.d
  exact w.step (Kp.ext s) ⟨x, y, s _ _ e (fun ps z => by cases z)⟩ tb
/-- another row is put into the list of rows -/
theorem W2.rows (w : W2 K C T t d ds cs fs rs c a ps F row und q rw H) {k : Nat} (hk : k < 2) {q' : Addr} {r' : List Int} (hq : SqT K H q' (r'.map V.int)) :
    W2 K C T t d ds cs fs rs c a ps F row und (put1 q k q') (put1 rw k r') (upd H rs (.lst ([V.ref (q 0), .ref (q 1)].set k (.ref q')))) := by
  obtain ⟨s1, s2, s3, s4, s5, s6⟩ := w.sep
  have fr : Frm [rs] H (upd H rs (.lst ([V.ref (q 0), .ref (q 1)].set k (.ref q')))) := (Frm.refl _ H).upd (by simp)
  have pl : Plain [rs] H := Plain.lst w.rl
  have nd : ∀ b, b ≠ rs → b ∉ [rs] := fun b h z => h (List.mem_singleton.mp z)
  refine ⟨w.rd.frm fr pl (nd _ (fun z => s1 z.symm)) (fun b hb => nd _ (fun z => s2 (by rw [← z]; exact hb))), fr _ _ w.cl (nd _ (fun z => s3 z.symm)), fr _ _ w.fl (nd _ (fun z => s4 z.symm)), by rw [upd_same, two_set q hk],
    fun i hi => chain_kp (Kp.frm fr) pl (w.co i hi) (w.ch i hi), w.co, fun i hi => (w.fd i hi).kp (Kp.frm fr) pl (fun b hb => ?_), fun i hi => ?_, w.ap, w.out, w.sep⟩
  · rw [List.mem_singleton.mp hb]
    exact fun z => (w.out i hi rs z).2.2.2.2 rfl
  · by_cases h : i = k
    · subst h
      rw [put1_same, put1_same]
      exact sqt_kp (Kp.frm fr) pl hq
    · rw [put1_ne h, put1_ne h]
      exact sqt_kp (Kp.frm fr) pl (w.qt i hi)
/-- one of the feeds has changed -/
theorem W2.meth (w : W2 K C T t d ds cs fs rs c a ps F row und q rw H) {k : Nat} (hk : k < 2) {F' : FC5} {row' und' : List Int} (f' : FeedS K C H' (a k) F' (ps k) row' und') (fr : Frm ((F k).cells (a k)) H H')
    (new : ∀ b ∈ F'.cells (a k), b ∈ (F k).cells (a k) ∨ H b = none) : W2 K C T t d ds cs fs rs c a ps (put1 F k F') (put1 row k row') (put1 und k und') q rw H' := by
  have pl : Plain ((F k).cells (a k)) H := (w.fd k hk).plain
  have hout := w.out k hk
  have no : ∀ b o, H b = some o → (b = t ∨ b ∈ ds ∨ b = cs ∨ b = fs ∨ b = rs) → b ∉ (F k).cells (a k) := fun b o _ h z => by
    obtain ⟨h1, h2, h3, h4, h5⟩ := hout b z
    rcases h with h | h | h | h | h
    · exact h1 h
    · exact h2 h
    · exact h3 h
    · exact h4 h
    · exact h5 h
  have ex : ∀ b, (b = t ∨ b ∈ ds ∨ b = cs ∨ b = fs ∨ b = rs) → ∃ o, H b = some o := fun b h => by
    rcases h with h | h | h | h | h
    · exact ⟨_, by rw [h]; exact w.rd.tl⟩
    · obtain ⟨x, y, e⟩ := w.rd.all b h
      exact ⟨_, e⟩
    · exact ⟨_, by rw [h]; exact w.cl⟩
    · exact ⟨_, by rw [h]; exact w.fl⟩
    · exact ⟨_, by rw [h]; exact w.rl⟩
  have cellx : ∀ j, j < 2 → ∀ b ∈ (F j).cells (a j), ∃ o, H b = some o := fun j hj b hb => by
    rcases (w.fd j hj).plain b hb with ⟨C, dx, gs, e⟩ | ⟨xs, e⟩ <;> exact ⟨_, e⟩
  refine ⟨w.rd.frm fr pl (no t _ w.rd.tl (.inl rfl)) (fun b hb => by obtain ⟨o, e⟩ := ex b (.inr (.inl hb)); exact no b o e (.inr (.inl hb))), fr _ _ w.cl (no _ _ w.cl (.inr (.inr (.inl rfl)))), fr _ _ w.fl (no _ _ w.fl (.inr (.inr (.inr (.inl rfl))))), fr _ _ w.rl (no _ _ w.rl (.inr (.inr (.inr (.inr rfl))))),
    fun i hi => chain_kp (Kp.frm fr) pl (w.co i hi) (w.ch i hi), w.co, fun i hi => ?_, fun i hi => sqt_kp (Kp.frm fr) pl (w.qt i hi), fun i j hi hj ne b hb => ?_, fun i hi b hb => ?_, w.sep⟩
  · by_cases h : i = k
    · subst h
      rw [put1_same, put1_same, put1_same]
      exact f'
    · rw [put1_ne h, put1_ne h, put1_ne h]
      exact (w.fd i hi).kp (Kp.frm fr) pl (fun b hb => w.ap k i hk hi (fun z => h z.symm) b hb)
  · by_cases h : i = k
    · subst h
      have hj' : j ≠ i := fun z => ne z.symm
      rw [put1_same] at hb
      rw [put1_ne hj']
      rcases new b hb with z | z
      · exact w.ap i j hi hj ne b z
      · intro hb2
        obtain ⟨o, e⟩ := cellx j hj b hb2
        rw [z] at e
        cases e
    · rw [put1_ne h] at hb
      by_cases h2 : j = k
      · subst h2
        rw [put1_same]
        intro hb2
        rcases new b hb2 with z | z
        · exact w.ap i j hi hj ne b hb z
        · obtain ⟨o, e⟩ := cellx i hi b hb
          rw [z] at e
          cases e
      · rw [put1_ne h2]
        exact w.ap i j hi hj ne b hb
  · by_cases h : i = k
    · subst h
      rw [put1_same] at hb
      rcases new b hb with z | z
      · exact w.out i hi b z
      · have n : ∀ y, (y = t ∨ y ∈ ds ∨ y = cs ∨ y = fs ∨ y = rs) → b ≠ y := fun y hy w' => by
          obtain ⟨o, e⟩ := ex y hy
          rw [← w', z] at e
          cases e
        exact ⟨n t (.inl rfl), fun w' => n b (.inr (.inl w')) rfl, n cs (.inr (.inr (.inl rfl))), n fs (.inr (.inr (.inr (.inl rfl)))), n rs (.inr (.inr (.inr (.inr rfl))))⟩
    · rw [put1_ne h] at hb
      exact w.out i hi b hb
end
/-- the last of the law's own tuples -/
theorem given_last {H : Hp} {qs : List Addr} {ps : List Stp} {r0 : List Int} {x : Int} (h : TupsAt H qs (givenB ps (r0 ++ [x]))) : ∃ q8 qd, qs = q8 ++ [qd] ∧ H qd = some (.tup ((newM ps r0 [x]).map V.int)) := by
  obtain ⟨h1, h2⟩ := h
  rw [given_snoc] at h1 h2
  rw [List.length_append, List.length_singleton] at h1
  rcases List.eq_nil_or_concat qs with z | ⟨l, y, z⟩
  · rw [z] at h1
    simp at h1
  · refine ⟨l, y, by rw [z, List.concat_eq_append], h2 l.length y _ ?_ ?_⟩
    · rw [z, List.concat_eq_append, List.getElem?_append_right (Nat.le_refl _), Nat.sub_self]
      rfl
    · have e : (givenB ps r0).length = l.length := by
        rw [z, List.concat_eq_append, List.length_append, List.length_singleton] at h1
        omega
      rw [List.getElem?_append_right (by omega), e, Nat.sub_self]
      rfl
theorem ixN_two {k : Nat} (h : k < 2) {x y : V} : ixN [x, y].length (k : Int) = some k := by
  rcases lt2 h with rfl | rfl <;> rfl
theorem cut_last_ne (r0 : List Int) (x : Int) : HT.sIx (r0 ++ [x]).length (r0 ++ [x]).length (some (-1)) = r0.length := by
  rw [List.length_append, List.length_singleton]
  show (if (-1 : Int) < 0 then ((-1 : Int) + ((r0.length + 1 : Nat) : Int)).toNat else min (-1 : Int).toNat (r0.length + 1)) = r0.length
  rw [if_pos (by decide)]
  omega
theorem cut_last (r0 : List Int) (x : Int) : cutV ((r0 ++ [x]).map V.int) none (some (-1)) = r0.map V.int := by
  unfold cutV
  rw [List.length_map, cut_last_ne, HT.sIx_none, List.drop_zero, Nat.sub_zero, List.map_append, List.take_append_of_le_length (by rw [List.length_map]; exact Nat.le_refl _), List.take_of_length_le (by rw [List.length_map]; exact Nat.le_refl _)]
/-! ### tuples of numbers as data -/
theorem tp_dp {K : PySem.W.Frag} {H : Hp} {a : Addr} {ns : List Int} (h : SqT K H a (ns.map V.int)) : Dp K H (.ref a) (.tuple (intsD ns)) := .tup h (dp_intsD ns)
theorem tp_refl (ns : List Int) : PyData.eqv (.tuple (intsD ns)) (.tuple (intsD ns)) = true := SeqAt.eqv_refl _ (SeqAt.canLay_of_shaped (tp_shaped ns))
theorem tp_nil (ns : List Int) : PyData.eqv (.tuple (intsD ns)) (.tuple []) = ns.isEmpty := by
  cases ns <;> rfl
theorem lst_tp (ns ms : List Int) : PyData.eqv (.list (intsD ns)) (.list (intsD ms)) = PyData.eqv (.tuple (intsD ns)) (.tuple (intsD ms)) := rfl
theorem nil_shaped : SeqAt.shaped (PyData.tuple []) = true := by decide
end FC
set_option Elab.async false
set_option linter.all false
set_option maxRecDepth 100000
set_option maxHeartbeats 1000000
/-! Beginnings of rows; slices and sums of tuples, told alike. -/
namespace FC
open PySem PySem.Spec PyProof.Rows L2
theorem given_pre (ps : List Stp) (a : List Int) : ∀ b : List Int, ∃ c, givenB ps (a ++ b) = givenB ps a ++ c := by
  have key : ∀ (n : Nat) (b : List Int), b.length = n → ∃ c, givenB ps (a ++ b) = givenB ps a ++ c := fun n => by
    induction n with
    | zero => exact fun b h => ⟨[], by rw [List.eq_nil_of_length_eq_zero h, List.append_nil, List.append_nil]⟩
    | succ n ih =>
      intro b h
      rcases List.eq_nil_or_concat b with z | ⟨l, y, z⟩
      · rw [z] at h
        cases h
      · rw [List.concat_eq_append] at z
        subst z
        rw [List.length_append, List.length_singleton] at h
        obtain ⟨c, e⟩ := ih l (by omega)
        exact ⟨c ++ [newM ps (a ++ l) [y]], by rw [← List.append_assoc, given_snoc, e, List.append_assoc]⟩
  exact fun b => key _ b rfl
theorem given_take (ps : List Stp) (row : List Int) (k : Nat) : givenB ps (row.take k) = (givenB ps row).take k := by
  obtain ⟨c, e⟩ := given_pre ps (row.take k) (row.drop k)
  rw [List.take_append_drop] at e
  by_cases h : k ≤ row.length
  · have hl : (givenB ps (row.take k)).length = k := by rw [given_len, List.length_take]; omega
    have e2 : (givenB ps (row.take k) ++ c).take k = givenB ps (row.take k) := by
      rw [List.take_append_of_le_length (by omega), List.take_of_length_le (by omega)]
    rw [e, e2]
  · rw [List.take_of_length_le (l := row) (by omega), List.take_of_length_le (by rw [given_len]; omega)]
theorem given_get {ps : List Stp} {row : List Int} {i : Nat} {x : Int} (h : row[i]? = some x) : (givenB ps row)[i]? = some (newM ps (row.take i) [x]) := by
  have hi := get_lt h
  have e := given_take ps row (i + 1)
  rw [take_succ_get h, given_snoc] at e
  have h2 : ((givenB ps row).take (i + 1))[i]? = some (newM ps (row.take i) [x]) := by
    rw [← e, List.getElem?_append_right (by rw [given_len, List.length_take]; omega), given_len, List.length_take, show i - min i row.length = 0 by omega]
    rfl
  rw [List.getElem?_take, if_pos (by omega)] at h2
  exact h2
theorem flat_take {α : Type} : ∀ (L : List (List α)) (k : Nat), (L.take k).flatten = L.flatten.take ((L.take k).map List.length).sum
  | [], k => by simp
  | g :: r, 0 => by simp
  | g :: r, k + 1 => by
    rw [List.take_succ_cons, List.flatten_cons, List.flatten_cons, List.map_cons, List.sum_cons, flat_take r k, List.take_append, List.take_of_length_le (Nat.le_add_right _ _), Nat.add_sub_cancel_left]
theorem run_take (ps : List Stp) (row : List Int) (k : Nat) : runM ps (row.take k) = (runM ps row).take (((givenB ps row).take k).map List.length).sum := by
  unfold runM
  rw [given_take]
  exact flat_take _ _
theorem sum_lens (L : List (List Int)) : (L.map fun g => ((g.length : Nat) : Int)).sum = (((L.map List.length).sum : Nat) : Int) := by
  induction L with
  | nil => rfl
  | cons g r ih => rw [List.map_cons, List.map_cons, List.sum_cons, List.sum_cons, ih, Int.natCast_add]
theorem cut_to (xs : List V) (k : Nat) : cutV xs none (some (k : Int)) = xs.take k := by
  unfold cutV
  rw [HT.sIx_none, HT.sIx_nat, List.drop_zero, Nat.sub_zero]
  by_cases h : k ≤ xs.length
  · rw [Nat.min_eq_left h]
  · rw [Nat.min_eq_right (by omega), List.take_of_length_le (Nat.le_refl _), List.take_of_length_le (by omega)]
/-- t[lo:hi], whatever place it has -/
def rSlU (K : PySem.W.Frag) : V → Option Int → Option Int → Hp → VK → Prop := fun x lo hi H Q => ∃ a xs, x = .ref a ∧ SqT K H a xs ∧ ∀ p H', Same H H' → SqT K H' p (cutV xs lo hi) → Q (.ref p) H'
theorem sl_tupU {X : Cx} : SlR X (rSlU X.K) := by
  intro pins s σ H x v vl vu lo hi sl Q I rx hs pl pu h
  obtain ⟨a, xs, rfl, hx, q⟩ := h
  refine sl_tupA pins s σ H _ v vl vu lo hi sl Q I rx hs pl pu ⟨a, xs, rfl, hx, fun w => q a H (Same.refl H) ?_, fun _ p np => q p _ (same_upd (Same.refl H) np) sqt_new⟩
  have e : cutV xs lo hi = xs := by
    unfold cutV
    rw [w.1, w.2, List.drop_zero, Nat.sub_zero, List.take_of_length_le (Nat.le_refl _)]
  rw [e]
  exact hx
/-- t + u, whatever place it has -/
def rCatU (K : PySem.W.Frag) : R2 := fun x y H Q => ∃ a b xs ys, x = .ref a ∧ y = .ref b ∧ SqT K H a xs ∧ SqT K H b ys ∧ xs.length + ys.length ≤ sizeLine ∧ ∀ p H', Same H H' → SqT K H' p (xs ++ ys) → Q (.ref p) H'
theorem op_catU {X : Cx} : OpR X (binaryOp .Add) (rCatU X.K) := by
  intro pins s σ H x y v u Q I rx ry h
  obtain ⟨a, b, xs, ys, rfl, rfl, ha, hb, hz, q⟩ := h
  exact op_catA pins s σ H _ _ v u Q I rx ry ⟨a, b, xs, ys, rfl, rfl, ha, hb, hz, fun e => q b H (Same.refl H) (by rw [e]; exact hb), fun _ e => q a H (Same.refl H) (by rw [e, List.append_nil]; exact ha), fun _ _ p np => q p _ (same_upd (Same.refl H) np) sqt_new⟩
end FC
set_option Elab.async false
set_option linter.all false
set_option maxRecDepth 100000
set_option maxHeartbeats 4000000
/-! undo, redo, row, given, len, the making of a feed. -/
namespace FC
open PySem PySem.Spec PyProof.Rows L2
/-- loops over a list in a comprehension, whatever stands in them -/
theorem walk_lst {K : PySem.W.Frag} {a : Addr} {xs : List V} {H0 : Hp} {Qd : Hp → Prop} {Body : V → Hp → (Hp → Prop) → Prop} (Pv : Nat → Hp → Prop) (h0 : Pv 0 H0) (hl : ∀ i H, i ≤ xs.length → Pv i H → SqL K H a xs)
    (hs : ∀ i x H, xs[i]? = some x → Pv i H → Body x H (Pv (i + 1))) (hd : ∀ H, Pv xs.length H → Qd H) :
    ∃ W : Nat → Nat → Hp → Prop, (∃ m, W 0 m H0) ∧ ∀ i m H, W i m H →
      ((Itl K a).stop i H ∧ Qd H) ∨ ((Itl K a).go i H ∧ ∃ Nx : Hp → Prop, (∀ H', Nx H' → ∃ m', m' < m ∧ W (i + 1) m' H') ∧ ∀ x H', (Itl K a).yld i H x H' → Body x H' Nx) := by
  refine ⟨fun i m H => m = xs.length - i ∧ i ≤ xs.length ∧ Pv i H, ⟨xs.length, by simp, Nat.zero_le _, h0⟩, ?_⟩
  rintro i m H ⟨rfl, hi, p⟩
  have q := hl i H hi p
  by_cases hlt : i < xs.length
  · refine .inr ⟨⟨xs, xs[i], q, by simp [hlt]⟩, Pv (i + 1), fun H' p' => ⟨xs.length - (i + 1), by omega, rfl, hlt, p'⟩, fun x H' y => ?_⟩
    obtain ⟨e, y⟩ := y
    subst e
    exact hs i x _ (y xs q) p
  · have e : i = xs.length := by omega
    subst e
    exact .inl ⟨⟨xs, q, Nat.le_refl _⟩, hd H p⟩
theorem walk_tp {K : PySem.W.Frag} {a : Addr} {xs : List V} {H0 : Hp} {Qd : Hp → Prop} {Body : V → Hp → (Hp → Prop) → Prop} (Pv : Nat → Hp → Prop) (h0 : Pv 0 H0) (hl : ∀ i H, i ≤ xs.length → Pv i H → SqT K H a xs)
    (hs : ∀ i x H, xs[i]? = some x → Pv i H → Body x H (Pv (i + 1))) (hd : ∀ H, Pv xs.length H → Qd H) :
    ∃ W : Nat → Nat → Hp → Prop, (∃ m, W 0 m H0) ∧ ∀ i m H, W i m H →
      ((Itt K a).stop i H ∧ Qd H) ∨ ((Itt K a).go i H ∧ ∃ Nx : Hp → Prop, (∀ H', Nx H' → ∃ m', m' < m ∧ W (i + 1) m' H') ∧ ∀ x H', (Itt K a).yld i H x H' → Body x H' Nx) := by
  refine ⟨fun i m H => m = xs.length - i ∧ i ≤ xs.length ∧ Pv i H, ⟨xs.length, by simp, Nat.zero_le _, h0⟩, ?_⟩
  rintro i m H ⟨rfl, hi, p⟩
  have q := hl i H hi p
  by_cases hlt : i < xs.length
  · refine .inr ⟨⟨xs, xs[i], q, by simp [hlt]⟩, Pv (i + 1), fun H' p' => ⟨xs.length - (i + 1), by omega, rfl, hlt, p'⟩, fun x H' y => ?_⟩
    obtain ⟨e, y⟩ := y
    subst e
    exact hs i x _ (y xs q) p
  · have e : i = xs.length := by omega
    subst e
    exact .inl ⟨⟨xs, q, Nat.le_refl _⟩, hd H p⟩
section
variable {P : Program} {w : World} {K : PySem.W.Frag} {mg : Str → Option Value} {base : Heap}
/-! ### row, given, len -/
def spRowF (K : PySem.W.Frag) (C : Addr) : Sp := fun vs H Q _ => ∃ (a : Addr) (F : FC5) (ps : List Stp) (row und : List Int), vs = [.ref a] ∧ FeedS K C H a F ps row und ∧ ∀ t H', Same H H' → H' t = some (.tup (row.map V.int)) → Q (.ref t) H'
theorem scRowF : FnScope ["self"] ["self"] (defScope (fdM 4)) := ⟨rfl, rfl, rfl, by decide +kernel, rfl, by decide +kernel, by decide +kernel⟩
theorem ok_rowF {f C : Addr} {fd : FuncData} (F : Fun K "row" "Feed.row" (fdM 4) f fd) (T : FdT K mg C) (B : Blt mg) : FnOk P w K mg base CX0 1 f fd ["self"] (spRowF K C) := by
  refine F.ok scRowF (fun vs H Q E h => ?_) (fun cdv A outer s H vs Q E hr h => ?_)
  · obtain ⟨a, F, ps, row, und, rfl, _⟩ := h
    rfl
  · obtain ⟨a, F, ps, row, und, rfl, hf, k⟩ := h
    refine ⟨_, pss_one (ps_ret (pe_callTy call_tuple_of (by rfl) B.tuple (by decide +kernel) (pa_cons (pe_fld (pv 0) rfl) pa_nil))), ?_⟩
    obtain ⟨dx, hi⟩ := hf.ins
    exact ⟨_, rfl, a, C, dx, _, _, rfl, hi, T.cl, T.nn, F.numbers, F.n, _, rfl, .inl ⟨SqL.of hf.numbers, fun t nt => k t _ (same_upd (Same.refl H) nt) upd_same⟩⟩
def spLenF (K : PySem.W.Frag) (C : Addr) : Sp := fun vs H Q _ => ∃ (a : Addr) (F : FC5) (ps : List Stp) (row und : List Int), vs = [.ref a] ∧ FeedS K C H a F ps row und ∧ Q (.int (row.length : Nat)) H
theorem scLenF : FnScope ["self"] ["self"] (defScope (fdM 8)) := ⟨rfl, rfl, rfl, by decide +kernel, rfl, by decide +kernel, by decide +kernel⟩
theorem scGivF : FnScope ["self", "answer", "number"] ["self"] (defScope (fdM 5)) := ⟨rfl, rfl, rfl, by decide +kernel, rfl, by decide +kernel, by decide +kernel⟩
def spGivF (K : PySem.W.Frag) (C : Addr) : Sp := fun vs H Q _ => ∃ (a : Addr) (F : FC5) (ps : List Stp) (row und : List Int), vs = [.ref a] ∧ FeedS K C H a F ps row und ∧ ps.length ≤ 4 ∧ row.length ≤ 100 ∧ ∀ t H', Same H H' → H' t = some (.tup ((runM ps row).map V.int)) → Q (.ref t) H'
theorem ok_givF {f C : Addr} {fd : FuncData} (F : Fun K "given" "Feed.given" (fdM 5) f fd) (T : FdT K mg C) (B : Blt mg) : FnOk P w K mg base CX0 1 f fd ["self"] (spGivF K C) := by
  refine F.ok scGivF (fun vs H Q E h => ?_) (fun cdv A outer s H vs Q E hr h => ?_)
  · obtain ⟨a, F, ps, row, und, rfl, _⟩ := h
    rfl
  · obtain ⟨a, F, ps, row, und, rfl, hf, hl, hlr, k⟩ := h
    have nd := scGivF.nd
    refine ⟨_, pss_one (ps_ret (pe_callTy call_tuple_of (by rfl) B.tuple (by decide +kernel) (pa_cons (pe_lc2 (own := [("answer", 1), ("number", 2)]) (vs1 := [2]) (g := gName 1) (g1 := gName 2) (tt := tYes) (tt1 := tYes) (wi1 := iTup K (tVar 1)) (te := tVar 2) (by rfl) nd (pi_list (pe_fld (pv 0) rfl))
      (blkOk_by (own := [("answer", 1), ("number", 2)]) (N := ["self", "answer", "number"]) (sc := defScope (fdM 5)) (by decide +kernel)) (by decide) (fun _ _ _ _ _ => pg_name (i := 1) nd rfl (Or.inl rfl)) (fun _ _ _ _ _ => pts_nil) (fun _ _ _ _ _ => pi_tup (pv 1)) (fun _ _ _ _ _ => pg_name (i := 2) nd rfl (Or.inl rfl)) (fun _ _ _ _ _ => pts_nil) (fun _ _ _ _ _ => pv 2)) pa_nil))), ?_⟩
    obtain ⟨dx, hi⟩ := hf.ins
    obtain ⟨qs, hq, hqa⟩ := hf.answers
    refine ⟨_, rfl, a, C, dx, _, _, rfl, hi, T.cl, T.na, F.answers, F.an, rfl, ⟨_, SqL.of hq⟩, fun D nD => ?_⟩
    refine walk_lst (K := K) (a := F.an) (xs := qs.map V.ref) (fun i H2 => Same H H2 ∧ H2 D = some (.lst (((givenB ps row).take i).flatten.map V.int))) ⟨same_upd (Same.refl H) nD, upd_same⟩ (fun i H2 _ ⟨s2, _⟩ => sql_same s2 (SqL.of hq)) ?_ ?_
    · rintro i x H2 hx ⟨s2, e2⟩
      have hi := get_lt hx
      rw [List.length_map] at hi
      obtain ⟨q, hqi⟩ : ∃ q, qs[i]? = some q := ⟨qs[i], List.getElem?_eq_getElem hi⟩
      rw [List.getElem?_map, hqi] at hx
      have hx : V.ref q = x := Option.some.inj hx
      subst hx
      have hgl := hqa.1
      obtain ⟨g, hg⟩ : ∃ g, (givenB ps row)[i]? = some g := ⟨(givenB ps row)[i]'(by omega), List.getElem?_eq_getElem (by omega)⟩
      have hgt := hqa.2 i q g hqi hg
      have et : (givenB ps row).take (i + 1) = (givenB ps row).take i ++ [g] := take_succ_get hg
      have ef : ((givenB ps row).take (i + 1)).flatten.map V.int = ((givenB ps row).take i).flatten.map V.int ++ g.map V.int := by
        rw [et, List.flatten_append, List.map_append]
        simp
      have hlen : (((givenB ps row).take i).flatten.map V.int).length + (g.map V.int).length ≤ 4000 := by
        have h1 := run_len ps row
        have h3 : 2 ^ ps.length ≤ 2 ^ 4 := Nat.pow_le_pow_right (by decide) hl
        have h4 : 2 ^ ps.length * row.length ≤ 2 ^ 4 * 200 := Nat.mul_le_mul h3 (by omega)
        have e9 : (givenB ps row) = (givenB ps row).take (i + 1) ++ (givenB ps row).drop (i + 1) := (List.take_append_drop _ _).symm
        have h5 : (runM ps row).length = (((givenB ps row).take (i + 1)).flatten).length + (((givenB ps row).drop (i + 1)).flatten).length := by
          show ((givenB ps row).flatten).length = _
          rw [← List.length_append, ← List.flatten_append, ← e9]
        have h6 : (((givenB ps row).take (i + 1)).flatten.map V.int).length = (((givenB ps row).take i).flatten.map V.int).length + (g.map V.int).length := by rw [ef, List.length_append]
        rw [List.length_map] at h6
        omega
      refine ⟨rfl, _, rfl, q, rfl, ⟨_, sqt_same s2 hgt⟩, ?_⟩
      refine walk_tp (K := K) (a := q) (xs := g.map V.int) (fun j H3 => Same H H3 ∧ H3 D = some (.lst (((givenB ps row).take i).flatten.map V.int ++ (g.take j).map V.int))) ⟨s2, by rw [List.take_zero, List.map_nil, List.append_nil]; exact e2⟩ (fun j H3 _ ⟨s3, _⟩ => sqt_same s3 hgt) ?_ ?_
      · rintro j y H3 hy ⟨s3, e3⟩
        obtain ⟨n, hn, rfl⟩ : ∃ n, g[j]? = some n ∧ y = .int n := by
          rw [List.getElem?_map] at hy
          obtain ⟨n, h1, h2⟩ := Option.map_eq_some_iff.mp hy
          exact ⟨n, h1, h2.symm⟩
        have hj := get_lt hn
        refine ⟨rfl, _, rfl, _, e3, ?_, ?_, ?_⟩
        · have hsl : 4000 < sizeLine := by decide
          rw [List.length_append, List.length_map (as := g.take j), List.length_take]
          rw [List.length_map (as := g)] at hlen
          omega
        · intro b1 o1 hb1
          rw [upd_ne (ne_of_none hb1 nD)]
          exact s3 _ _ hb1
        · rw [upd_same, take_succ_get hn, List.map_append, List.append_assoc]
          rfl
      · rintro H3 ⟨s3, e3⟩
        rw [List.length_map, List.take_length] at e3
        exact ⟨s3, by rw [ef]; exact e3⟩
    · rintro H2 ⟨s2, e2⟩
      rw [List.length_map, hqa.1, List.take_length] at e2
      exact ⟨D, _, rfl, .inl ⟨SqL.of e2, fun t nt => k t _ (same_upd s2 nt) upd_same⟩⟩
theorem ok_lenF {f C : Addr} {fd : FuncData} (F : Fun K "__len__" "Feed.__len__" (fdM 8) f fd) (T : FdT K mg C) (B : Blt mg) : FnOk P w K mg base CX0 1 f fd ["self"] (spLenF K C) := by
  refine F.ok scLenF (fun vs H Q E h => ?_) (fun cdv A outer s H vs Q E hr h => ?_)
  · obtain ⟨a, F, ps, row, und, rfl, _⟩ := h
    rfl
  · obtain ⟨a, F, ps, row, und, rfl, hf, k⟩ := h
    refine ⟨_, pss_one (ps_ret (pe_callB call_len_seq (by rfl) B.len PySem.boot_len (pa_cons (pe_fld (pv 0) rfl) pa_nil))), ?_⟩
    obtain ⟨dx, hi⟩ := hf.ins
    have hn := hf.numbers
    refine ⟨_, rfl, a, C, dx, _, _, rfl, hi, T.cl, T.nn, F.numbers, F.n, _, rfl, .inl (SqL.of hn), ?_⟩
    rw [List.length_map]
    exact k
end
end FC
set_option Elab.async false
set_option linter.all false
set_option maxRecDepth 100000
set_option maxHeartbeats 4000000
/-! == and len by a class's own methods. -/
namespace FC
open PySem PySem.Spec PyProof.Rows L2
section
variable {X : Cx} {CX : CXT} {C f : Addr} {fd : FuncData} {ps : List Str} {sp : Sp} {E : XK} {n : Nat}
/-- x == y, x of the class, y of the class too -/
def rEqIns (C : Addr) (sp : Sp) (E : XK) : R2 := fun x y H Q => ∃ a b dx dy fs gs, x = .ref a ∧ y = .ref b ∧ H a = some (.ins C dx fs) ∧ H b = some (.ins C dy gs) ∧ sp [.ref a, .ref b] H (fun v H' => ∃ k, v = .bl k ∧ Q (.bl k) H') E
theorem op_eqIns (F : FnOk X.prog X.w X.K X.mg X.base CX n f fd ps sp) (hs : PySem.W.findIn X.K (.ref C) "__eq__" = some (some (.ref f))) (hf : PySem.W.isFn X.K (.ref f) = true) (hb : Binds X.K fd ps []) (hx : Passes CX X E) (hr : Room n X.A) : OpR X (compareOp .Eq) (rEqIns C sp E) := by
  intro pins s σ H x y u v Q I rx ry h
  obtain ⟨a, b, dx, dy, fs, gs, rfl, rfl, ha, hb', hsp⟩ := h
  cases rx
  cases ry
  obtain ⟨mA, J, _⟩ := ins_get I.hok ha
  obtain ⟨mB, J', _⟩ := ins_get I.hok hb'
  obtain ⟨od, J, _⟩ := J.look
  obtain ⟨od', J', _⟩ := J'.look
  obtain ⟨m, hF⟩ := I.fr
  refine PySem.W.cmp_K (op := .Eq) (tb := .ref C) hr.units0 hF I.ok.mod.kin J J'.type (by simp [PySem.W.notFirst]) hs hf ?_
  have hl := F.len _ _ _ _ hsp
  have r2 : Vals [V.ref a, V.ref b] [Value.ref a, Value.ref b] := .cons rfl (.cons rfl .nil)
  refine wpAny_call (codeAny_mono (F.run X.A X.stack s H ⟨[.ref a, .ref b], []⟩ [.ref a, .ref b] [.ref a, .ref b] _ E hr I.env0 (by
    have := hb s [.ref a, .ref b] I.kIn (by simpa using hl)
    simpa using this) r2 hsp) fun r s' hq => ?_)
  cases r with
  | error e => exact hx pins σ H s e s' I hq
  | ok fl =>
    cases fl with
    | ret w =>
      obtain ⟨z, H', I', rz, k, ez, q⟩ := I.after hq
      subst ez
      cases rz
      exact ⟨.bl k, H', I', rfl, q⟩
    | next => exact False.elim hq
    | brk => exact False.elim hq
    | cont => exact False.elim hq
/-- x == y, x of the class, y an int -/
def rEqInt (C : Addr) (sp : Sp) (E : XK) : R2 := fun x y H Q => ∃ a i dx fs, x = .ref a ∧ y = .int i ∧ H a = some (.ins C dx fs) ∧ sp [.ref a, .int i] H (fun v H' => ∃ k, v = .bl k ∧ Q (.bl k) H') E
theorem op_eqInt (F : FnOk X.prog X.w X.K X.mg X.base CX n f fd ps sp) (hs : PySem.W.findIn X.K (.ref C) "__eq__" = some (some (.ref f))) (hf : PySem.W.isFn X.K (.ref f) = true) (hn : PySem.W.notFirst X.K C (.type "int") = true) (hb : Binds X.K fd ps []) (hx : Passes CX X E) (hr : Room n X.A) : OpR X (compareOp .Eq) (rEqInt C sp E) := by
  intro pins s σ H x y u v Q I rx ry h
  obtain ⟨a, i, dx, fs, rfl, rfl, ha, hsp⟩ := h
  cases rx
  obtain ⟨t, rfl⟩ := ry
  obtain ⟨mA, J, _⟩ := ins_get I.hok ha
  obtain ⟨od, J, _⟩ := J.look
  obtain ⟨m, hF⟩ := I.fr
  refine PySem.W.cmp_K (op := .Eq) (tb := .type "int") hr.units0 hF I.ok.mod.kin J (PySem.W.Looks.of_pure (typeIs_int s i t)) hn hs hf ?_
  have hl := F.len _ _ _ _ hsp
  have r2 : Vals [V.ref a, V.int i] [Value.ref a, Value.int i t] := .cons rfl (.cons ⟨t, rfl⟩ .nil)
  refine wpAny_call (codeAny_mono (F.run X.A X.stack s H ⟨[.ref a, .int i t], []⟩ [.ref a, .int i t] [.ref a, .int i] _ E hr I.env0 (by
    have := hb s [.ref a, .int i t] I.kIn (by simpa using hl)
    simpa using this) r2 hsp) fun r s' hq => ?_)
  cases r with
  | error e => exact hx pins σ H s e s' I hq
  | ok fl =>
    cases fl with
    | ret w =>
      obtain ⟨z, H', I', rz, k, ez, q⟩ := I.after hq
      subst ez
      cases rz
      exact ⟨.bl k, H', I', rfl, q⟩
    | next => exact False.elim hq
    | brk => exact False.elim hq
    | cont => exact False.elim hq
/-- len(x) by the class's own -/
def rLenO (C : Addr) (sp : Sp) (E : XK) : List V → Hp → VK → Prop := fun xs H Q => ∃ a dx fs, xs = [.ref a] ∧ H a = some (.ins C dx fs) ∧ sp [.ref a] H (fun v H' => ∃ k : Nat, v = .int k ∧ (k : Int) < 2 ^ 63 ∧ Q (.int k) H') E
theorem call_lenO (F : FnOk X.prog X.w X.K X.mg X.base CX n f fd ps sp) (hs : PySem.W.findIn X.K (.ref C) "__len__" = some (some (.ref f))) (hf : PySem.W.isFn X.K (.ref f) = true) (hb : Binds X.K fd ps []) (hx : Passes CX X E) (hr : Room (n + 1) X.A) : CallR X (.builtin "len") (rLenO C sp E) := by
  intro pins s σ H xs us Q I rs h
  obtain ⟨a, dx, fs, rfl, ha, hsp⟩ := h
  obtain ⟨u1, rfl, r1⟩ := vals1 rs
  cases r1
  obtain ⟨mA, J, _⟩ := ins_get I.hok ha
  obtain ⟨od, J, _⟩ := J.look
  obtain ⟨m, hF⟩ := I.fr
  refine PySem.W.len_K hF I.ok.mod.kin J hs hf ?_
  have hl := F.len _ _ _ _ hsp
  have r2 : Vals [V.ref a] [Value.ref a] := .cons rfl .nil
  have sb : Sub X n X.A.in1 := ⟨hr.in1, rfl⟩
  have e0 : Env0 X.prog X.w X.K X.mg X.base X.A.in1 X.stack s H := by
    have e := I.env0
    exact ⟨by rw [sb.fr]; exact e.frames, e.mod, e.bs, e.bsz, e.funs, e.frf, e.hok, e.bare⟩
  refine wpAny_call (codeAny_mono (F.run X.A.in1 X.stack s H ⟨[.ref a], []⟩ [.ref a] [.ref a] _ E sb.room e0 (by
    have := hb s [.ref a] I.kIn (by simpa using hl)
    simpa using this) r2 hsp) fun r s' hq => ?_)
  cases r with
  | error e => exact hx pins σ H s e s' I hq
  | ok fl =>
    cases fl with
    | ret w =>
      obtain ⟨z, H', I', rz, k, ez, hk, q⟩ := I.after hq
      subst ez
      obtain ⟨t, rfl⟩ := rz
      refine ⟨⟨by omega, hk⟩, .int k, H', I'.tok _, ⟨_, rfl⟩, q⟩
    | next => exact False.elim hq
    | brk => exact False.elim hq
    | cont => exact False.elim hq
end
end FC
set_option Elab.async false
set_option linter.all false
set_option maxRecDepth 100000
set_option maxHeartbeats 4000000
/-! The law's own look at equal feeds. -/
namespace FC
open PySem PySem.Spec PyProof.Rows L2
structure LibF (P : Program) (w : World) (K : PySem.W.Frag) (mg : Str → Option Value) (base : Heap) (g f2 CE c0 c1 c2 c3 c4 c5 C fL fE : Addr) (fdg fd2 fdL fdE : FuncData) : Prop where
  blt : Blt mg
  make : MkCal P w K mg base (L2N.CX P w) 6 C "Feed" ["self", "chain"] (spInitF K C c0)
  put : MCal P w K mg base (L2N.CX P w) 5 C "put" ["self", "number"] (spPut K C c2 c4)
  row : MCal P w K mg base CX0 1 C "row" ["self"] (spRowF K C)
  fgiven : MCal P w K mg base CX0 1 C "given" ["self"] (spGivF K C)
  fdT : FdT K mg C
  lenF : FnOk P w K mg base CX0 1 fL fdL ["self"] (spLenF K C)
  lenAt : PySem.W.findIn K (.ref C) "__len__" = some (some (.ref fL))
  lenFn : PySem.W.isFn K (.ref fL) = true
  lenB : Binds K fdL ["self"] []
  eqF : FnOk P w K mg base CX0 2 fE fdE ["self", "other"] (spEqF K C)
  eqAt : PySem.W.findIn K (.ref C) "__eq__" = some (some (.ref fE))
  eqFn : PySem.W.isFn K (.ref fE) = true
  eqB : Binds K fdE ["self", "other"] []
  eqN : PySem.W.notFirst K C (.type "int") = true
  Fg : Fun K "_law_told" "_law_told" sTold g fdg
  bg : Binds K fdg ["_law_deed"] []
  mg_ : mg "_law_told" = some (.ref g)
  F2 : FnP P w K mg base 1 f2 fd2 ["_law_e"] (spTerm K c0 c1 c2 c3 c4 c5)
  m2 : mg "_law_term" = some (.ref f2)
  k2 : PySem.W.keepIn K (.ref f2) = true
  b2 : Binds K fd2 ["_law_e"] []
  mE : mg "ChainError" = some (.ref CE)
  one0 : OneT K c0 0 c0 c1 c2 c3 c4 c5
  em0 : PySem.W.exmOne K (.ref c0) (.ref CE) = some true
  one4 : OneT K c4 4 c0 c1 c2 c3 c4 c5
  em4 : PySem.W.exmOne K (.ref c4) (.ref CE) = some true
abbrev NR : List Str := ["_law_feed", "_law_chain_here", "_law_row", "_law_other", "_law_x", "_law_full", "_law_turn"]
def qR : Str := "_law_right_feeds" ++ ".<locals>." ++ "<lambda>"
def spRightF (K : PySem.W.Frag) (C : Addr) (TT : List (Addr × Str)) : Sp := fun vs H Q _ => ∃ (a c r : Addr) (F : FC5) (ps : List Stp) (row und : List Int), vs = [.ref a, .ref c, .ref r] ∧ FeedS K C H a F ps row und ∧ ChainAt K H c (ps.map Stp.v) ∧ chainOk (ps.map Stp.v) = true ∧ (∀ p ∈ ps, p.ok) ∧ SqT K H r (row.map V.int) ∧ row.length ≤ 20 ∧ (∀ x ∈ row, rowOkV (.int x) = true) ∧ LamX.Tabs TT H ∧
  ∀ H', LamX.ExtN H H' → LamX.Tabs TT H' → Q (.bl true) H'
/-- a feed is made: nothing else changes -/
theorem made_same {C x dx : Addr} {F : FC5} {H H2 : Hp} (nx : H x = none) (ndx : H dx = none) (fr : Frm [x] (upd (upd H dx (.own x)) x (.ins C dx [])) H2) (new : ∀ b ∈ F.cells x, b = x ∨ upd (upd H dx (.own x)) x (.ins C dx []) b = none) : Same H H2 ∧ ∀ b ∈ F.cells x, H b = none := by
  have s : Same H (upd (upd H dx (.own x)) x (.ins C dx [])) := fun b o e => by
    rw [upd_ne (ne_of_none e nx), upd_ne (ne_of_none e ndx)]
    exact e
  refine ⟨fun b o e => fr b o (s b o e) (fun z => by rw [List.mem_singleton.mp z, nx] at e; cases e), fun b hb => ?_⟩
  rcases new b hb with z | z
  · rw [z]; exact nx
  · cases q : H b with
    | none => rfl
    | some o => rw [s _ _ q] at z; cases z
theorem made_ch {C x dx : Addr} {H : Hp} (nx : H x = none) (ndx : H dx = none) : Same H (upd (upd H dx (.own x)) x (.ins C dx [])) := fun b o e => by
  rw [upd_ne (ne_of_none e nx), upd_ne (ne_of_none e ndx)]
  exact e
/-- nothing stands there but, it may be, a table -/
def FreeN (H : Hp) (b : Addr) : Prop := ∀ o, H b = some o → ∃ ps, o = .tbl ps
theorem ext_frm {L : List Addr} {H H1 H2 : Hp} (x : LamX.ExtN H H1) (y : Frm L H1 H2) (f : ∀ b ∈ L, FreeN H b) : LamX.ExtN H H2 := fun b o h n => y b o (x b o h n) (fun z => by
  obtain ⟨ps, e⟩ := f b z o h
  exact n ps e)
theorem freeN_ext {H H1 : Hp} (x : LamX.ExtN H H1) {b : Addr} (h : H1 b = none) : FreeN H b := fun o q => by
  cases o with
  | tbl ps => exact ⟨ps, rfl⟩
  | _ =>
    have e := x b _ q (fun ps z => by cases z)
    rw [h] at e
    cases e
theorem chain_refl {cs : List (List V)} (h : chainOk cs = true) : PyData.eqv (chainData cs) (chainData cs) = true := SeqAt.eqv_refl _ (SeqAt.canLay_of_shaped (chain_shaped h))
theorem lst_refl (ns : List Int) : PyData.eqv (.list (intsD ns)) (.list (intsD ns)) = true := SeqAt.eqv_refl _ (SeqAt.canLay_of_shaped (lst_shaped ns))
theorem erd_shaped (z : Str) (h : PyData.strOk z = true) : SeqAt.shaped (errData z) = true := by
  show (PyData.canLayAll0 [.str "error", .str z] && decide (PyData.depthAll [.str "error", .str z] + 1 ≤ 64)) = true
  have e1 : PyData.canLayAll0 [.str "error", .str z] = true := lay_all fun d hd => by
    rcases List.mem_cons.mp hd with e | e
    · rw [e]
      show PyData.strOk "error" = true
      decide +kernel
    · rw [List.mem_singleton.mp e]
      exact h
  rw [e1]
  rfl
section
variable {P : Program} {w : World} {K : PySem.W.Frag} {mg : Str → Option Value} {base : Heap}
theorem scRightF : FnScope NR ["_law_feed", "_law_chain_here", "_law_row"] (defScope sRightF) := ⟨rfl, rfl, rfl, by decide +kernel, rfl, by decide +kernel, by decide +kernel⟩
theorem ok_rightF {f c Pt g f2 CE c0 c1 c2 c3 c4 c5 C fL fE : Addr} {fdg fd2 fdL fdE : FuncData} {dV kV doc pm ct oc : Value} {an od : Option Addr} {osl : Array (Option Value)} {TT : List (Addr × Str)} (B : LibF P w K mg base g f2 CE c0 c1 c2 c3 c4 c5 C fL fE fdg fd2 fdL fdE) (TB : LamX.TabB base mg c Pt)
    (hTm : (Pt, qR) ∈ TT) (hTu : ∀ p ∈ TT, p.1 = Pt → p.2 = qR)
    (lk : K.lookup f = some ⟨oc, od, .func (PySem.W.fnOf "_law_right_feeds" "_law_right_feeds" (defArgs sRightF) (defBody sRightF) (defScope sRightF) dV kV doc pm an (.ref c) ct), osl⟩) (hcd : PySem.W.codeIn K (.ref c) "_law_right_feeds" = true) :
    FnOk P w K mg base CX0 10 f (PySem.W.fnOf "_law_right_feeds" "_law_right_feeds" (defArgs sRightF) (defBody sRightF) (defScope sRightF) dV kV doc pm an (.ref c) ct) ["_law_feed", "_law_chain_here", "_law_row"] (spRightF K C TT) := by
  refine fn_of lk hcd scRightF (fun vs H Q E h => ?_) (fun A outer s H vs Q E hr h => ?_)
  · obtain ⟨a, c, r, F, ps, row, und, rfl, _⟩ := h
    rfl
  · obtain ⟨a, ca, r, F, ps, row, und, rfl, fd, hca, hco, hok, hr0, hrl, hrb, hT, k⟩ := h
    have nd := scRightF.nd
    have hr1 : Room 1 _ := hr.mono (by decide)
    have hr2 : Room 2 _ := hr.mono (by decide)
    have hr5 : Room 5 _ := hr.mono (by decide)
    have hr7 : Room 7 _ := hr.mono (by decide)
    have hr9 : Room 9 _ := hr.mono (by decide)
    have T := B.blt
    have hp4 : ps.length ≤ 4 := by
      have := chainOk_len hco
      rw [List.length_map] at this
      exact this
    refine ⟨_, PSs.nox ((pss_cons (ps_set (i := 3) nd rfl (Or.inl rfl) (pe_mkc B.make hr7 passN (pa_cons (pv 1) pa_nil)))
    (pss_cons (ps_for PassesOwn.never rfl (pi_tup (pv 2)) (pg_name (i := 4) nd rfl (Or.inl rfl))
   (pss_one (ps_expr (pe_mc B.put (pv 3) B.fdT.cl hr5 passN (pa_cons (pv 4) pa_nil)))))
    (pss_cons (ps_if (PW.pt (pw_or (pt_not (pt_cmpR (op_eqIns B.eqF B.eqAt B.eqFn B.eqB pass0 hr2) (pv 0) (pv 3) (nomark _))) (pw_or (pt_cmpR (op_eqInt B.eqF B.eqAt B.eqFn B.eqN B.eqB pass0 hr2) (pv 0) pe_int (nomark _)) (pw_or1 (PW.pt (pw_and (pt_cmpR (op_neD hr.units) (pv 2) (pe_tup pa_nil) (nomark _)) (pw_and1 (pt_cmpR (op_eqIns B.eqF B.eqAt B.eqFn B.eqB pass0 hr2) (pv 0) (pe_mkc B.make hr7 passN (pa_cons (pv 1) pa_nil)) (nomark _))))))))) (pss_one (ps_ret pe_bl)) pss_nil)
    (pss_cons (ps_if (pt_cmpR (op_eqIns B.eqF B.eqAt B.eqFn B.eqB pass0 hr2) (pe_mkc B.make hr7 passN (pa_cons (pe_tup pa_nil) pa_nil)) (pe_mkc B.make hr7 passN (pa_cons (pe_tup (pa_cons (pe_tup (pa_cons pe_str pa_nil)) pa_nil)) pa_nil)) (nomark _)) (pss_one (ps_ret pe_bl)) pss_nil)
    (pss_cons (ps_set (i := 5) nd rfl (Or.inr rfl) (pe_mkc B.make hr7 passN (pa_cons (pe_tup pa_nil) pa_nil)))
    (pss_cons (ps_for PassesOwn.never rfl (pi_range1 (by rfl) T.range (pa_cons pe_int pa_nil)) (pg_name (i := 6) nd rfl (Or.inl rfl))
   (pss_one (ps_expr (pe_mc B.put (pv 5) B.fdT.cl hr5 passN (pa_cons (pv 6) pa_nil)))))
    (pss_cons (ps_if (pt_cmpR (op_neD hr.units) (pe_told (k := 4) (T := TT) B.Fg B.bg B.mg_ rfl B.F2 B.m2 B.k2 B.b2 B.mE TB rfl hTm hTu hr7 (show LamX.LamS (defScope sRightF) _ from LamX.lamS_by (by decide +kernel)) rfl (fun _ _ _ _ _ => rfl)
          (fun A out s H E f c hr => (pe_mc B.put (pv 5) B.fdT.cl hr (L2N.passes_call (W := fun cls d _ H => E cls d H) (L2N.takes_of rfl rfl rfl rfl) (fun _ _ _ _ h => h)) (pa_cons pe_int pa_nil)))) (pe_tup (pa_cons pe_str (pa_cons pe_str pa_nil))) (nomark _)) (pss_one (ps_ret pe_bl)) pss_nil)
    (pss_cons (ps_if (pt_cmpR op_ne (pe_callB (call_lenO B.lenF B.lenAt B.lenFn B.lenB pass0 hr2) (by rfl) T.len PySem.boot_len (pa_cons (pv 5) pa_nil)) pe_int (nomark _)) (pss_one (ps_ret pe_bl)) pss_nil)
    (pss_cons (ps_if (pt_cmpR (op_neD hr.units) (pe_told (k := 6) (T := TT) B.Fg B.bg B.mg_ rfl B.F2 B.m2 B.k2 B.b2 B.mE TB rfl hTm hTu hr9 (show LamX.LamS (defScope sRightF) _ from LamX.lamS_by (by decide +kernel)) rfl (fun _ _ _ _ _ => rfl)
          (fun A out s H E f c hr => (pe_mkc B.make hr (L2N.passes_call (W := fun cls d _ H => E cls d H) (L2N.takes_of rfl rfl rfl rfl) (fun _ _ _ _ h => h)) (pa_cons pe_non pa_nil)))) (pe_tup (pa_cons pe_str (pa_cons pe_str pa_nil))) (nomark _)) (pss_one (ps_ret pe_bl)) pss_nil)
    (pss_one (ps_ret pe_bl)))))))))))), ?_⟩
    have hnil : chainOk (([] : List Stp).map Stp.v) = true := by decide +kernel
    have hsum : chainOk ([Stp.sums].map Stp.v) = true := by decide +kernel
    refine ⟨_, rfl, fun x dx nx ndx _ => ⟨x, dx, _, rfl, upd_same, .inr ⟨ca, ps, rfl, hca.same (made_ch nx ndx), hco, fun H1 F1 f1 _ fr1 new1 => ⟨rfl, ?_⟩⟩⟩⟩
    obtain ⟨s1, free1⟩ := made_same nx ndx fr1 new1
    refine ⟨_, rfl, r, rfl, ⟨_, sqt_same s1 hr0⟩, for_tup (K := K) (a := r) (xs := row.map V.int) (fun i σ H2 => ∃ (F2 : FC5) (v4 v5 v6 : Option V), σ = [some (.ref a), some (.ref ca), some (.ref r), some (.ref x), v4, v5, v6] ∧ FeedS K C H2 x F2 ps (row.take i) [] ∧ LamX.ExtN H H2 ∧ LamX.Tabs TT H2 ∧ ∀ b ∈ F2.cells x, FreeN H b)
      ⟨F1, _, _, _, rfl, f1, LamX.ExtN.of s1, hT.ext s1, fun b hb o e => by rw [free1 b hb] at e; cases e⟩ (fun i σ H2 _ ⟨_, _, _, _, _, _, X, _⟩ => sqt_kp (L := []) (Kp.ext X) (fun b hb => absurd hb (by simp)) hr0) ?_ ?_⟩
    · rintro i v σ H2 hi ⟨F2, v4, v5, v6, rfl, f2, X2, T2, FN2⟩
      obtain ⟨y, hy, rfl⟩ : ∃ y, row[i]? = some y ∧ v = .int y := by
        rw [List.getElem?_map] at hi
        obtain ⟨y, h1, h2⟩ := Option.map_eq_some_iff.mp hi
        exact ⟨y, h1, h2.symm⟩
      have hil := get_lt hy
      obtain ⟨d2, hi2⟩ := f2.ins
      have hlt : (row.take i).length = i := by rw [List.length_take]; omega
      refine ⟨_, rfl, x, d2, _, rfl, hi2, rfl, _, rfl, x, .int y, F2, ps, row.take i, [], rfl, Nice.int _, f2, hok, hp4, by omega, .inr (.inr ⟨y, rfl, hrb y (List.mem_of_getElem? hy), by omega, fun g H3 F3 f3 fr3 new3 _ _ => ?_⟩)⟩
      refine ⟨F3, _, _, _, rfl, by rw [take_succ_get hy]; exact f3, ext_frm X2 fr3 FN2, tabs_frm T2 fr3 f2.plain, fun b hb => ?_⟩
      rcases new3 b hb with z | z
      · exact FN2 b z
      · exact freeN_ext X2 z
    · rintro σ H2 ⟨F2, v4, v5, v6, rfl, f2, X2, T2, FN2⟩
      rw [List.length_map, List.take_length] at f2
      clear s1 free1 f1 fr1 new1 nx ndx
      have fd2 := fd.kp (L := []) (Kp.ext X2) (fun b hb => absurd hb (by simp)) (fun b hb => absurd hb (by simp))
      obtain ⟨da, ha2⟩ := fd2.ins
      obtain ⟨db, hb2⟩ := f2.ins
      refine ⟨_, rfl, _, rfl, a, x, da, db, _, _, rfl, rfl, ha2, hb2, a, .ref x, F, ps, row, und, rfl, fd2, hco, .inr ⟨x, F2, ps, row, [], rfl, f2, hco, _, rfl, _, rfl, ?_⟩⟩
      rw [chain_refl hco, lst_refl]
      refine iteF ?_
      refine ⟨_, rfl, a, 5, da, _, rfl, rfl, ha2, a, .int 5, F, ps, row, und, rfl, fd2, hco, .inl ⟨5, rfl, _, rfl, _, rfl, iteF ?_⟩⟩
      refine ⟨_, rfl, (by show 0 ≤ sizeLine; decide), fun e0 ne0 => ?_⟩
      have se := same_upd (o := .tup []) (Same.refl H2) ne0
      have hr2 := sqt_kp (L := []) (Kp.ext X2) (fun b hb => absurd hb (by simp)) hr0
      refine ⟨.tuple (intsD row), .tuple [], tp_dp (sqt_same se hr2), .tup sqt_new .nil, tp_shaped _, nil_shaped, _, rfl, ?_⟩
      rw [tp_nil]
      have XA := X2.trans (LamX.ExtN.of se)
      have TA := T2.ext se
      have fdA := fd2.same se
      have hcaA := chain_kp (L := []) (Kp.ext XA) (fun b hb => absurd hb (by simp)) hco hca
      generalize upd H2 e0 (.tup []) = HA at XA TA fdA hcaA ⊢
      clear se hr2 ne0 X2 T2 fd2 ha2 f2 hb2 FN2
      cases hE : row.isEmpty with
      | true =>
        refine iteF (iteF ?_)
        -- two chains
        refine ⟨(by show 0 ≤ sizeLine; decide), fun e1 ne1 => ?_⟩
        have u1 := same_upd (o := .tup []) (Same.refl HA) ne1
        have ce1 : ChainAt K (upd HA e1 (.tup [])) e1 (([] : List Stp).map Stp.v) := ⟨[], sqt_new, rfl, fun i x o hx _ => by simp at hx⟩
        generalize upd HA e1 (.tup []) = HB at u1 ce1 ⊢
        refine fun y1 dy1 ny1 ndy1 _ => ⟨y1, dy1, _, rfl, upd_same, .inr ⟨e1, [], rfl, ce1.same (made_ch ny1 ndy1), hnil, fun H4 G1 g1 _ fr4 new4 => ⟨rfl, ?_⟩⟩⟩
        obtain ⟨u2, fr2⟩ := made_same ny1 ndy1 fr4 new4
        refine ⟨(by show 1 ≤ sizeLine; decide), fun e2 ne2 => ⟨(by show 1 ≤ sizeLine; decide), fun e3 ne3 => ?_⟩⟩
        have u3 := same_upd (o := .tup [V.str "sums"]) (Same.refl H4) ne2
        have es : upd H4 e2 (.tup [V.str "sums"]) e2 = some (.tup [V.str "sums"]) := upd_same
        generalize upd H4 e2 (.tup [V.str "sums"]) = HC at u3 es ne3 ⊢
        have u4 := same_upd (o := .tup [V.ref e2]) (Same.refl HC) ne3
        have ce3 : ChainAt K (upd HC e3 (.tup [V.ref e2])) e3 ([Stp.sums].map Stp.v) := ⟨[.ref e2], sqt_new, rfl, fun i x o hx ho => by
          match i, hx, ho with
          | 0, hx, ho =>
            cases hx
            cases ho
            exact ⟨e2, rfl, SqT.of (u4 _ _ es), fun y hy => by rw [List.mem_singleton.mp hy]; exact Nice.str _⟩
          | n + 1, hx, ho => simp at hx⟩
        generalize upd HC e3 (.tup [V.ref e2]) = HD at u4 ce3 ⊢
        refine fun y2 dy2 ny2 ndy2 _ => ⟨y2, dy2, _, rfl, upd_same, .inr ⟨e3, [.sums], rfl, ce3.same (made_ch ny2 ndy2), hsum, fun H5 G2 g2 _ fr5 new5 => ⟨rfl, ?_⟩⟩⟩
        obtain ⟨u5, _⟩ := made_same ny2 ndy2 fr5 new5
        have g1' := ((g1.same u3).same u4).same u5
        obtain ⟨dg1, hg1⟩ := g1'.ins
        obtain ⟨dg2, hg2⟩ := g2.ins
        refine ⟨y1, y2, dg1, dg2, _, _, rfl, rfl, hg1, hg2, y1, .ref y2, G1, [], [], [], rfl, g1', hnil, .inr ⟨y2, G2, [.sums], [], [], rfl, g2, hsum, _, rfl, _, rfl, ?_⟩⟩
        rw [show PyData.eqv (chainData (([] : List Stp).map Stp.v)) (chainData ([Stp.sums].map Stp.v)) = false by decide +kernel, Bool.false_and]
        refine iteF ?_
        replace XA := XA.trans (LamX.ExtN.of (Same.trans (Same.trans (Same.trans (Same.trans u1 u2) u3) u4) u5))
        replace TA := TA.ext (Same.trans (Same.trans (Same.trans (Same.trans u1 u2) u3) u4) u5)
        clear u1 ce1 u2 fr2 u3 es u4 ce3 u5 g1' hg1 hg2 fr4 new4 fr5 new5 g1 g2 ny1 ndy1 ny2 ndy2 ne1 ne2 ne3
        -- sixty numbers
        refine ⟨(by show 0 ≤ sizeLine; decide), fun e1 ne1 => ?_⟩
        have u1 := same_upd (o := .tup []) (Same.refl H5) ne1
        have ce1 : ChainAt K (upd H5 e1 (.tup [])) e1 (([] : List Stp).map Stp.v) := ⟨[], sqt_new, rfl, fun i x o hx _ => by simp at hx⟩
        generalize upd H5 e1 (.tup []) = HE at u1 ce1 ⊢
        refine fun y dy ny ndy _ => ⟨y, dy, _, rfl, upd_same, .inr ⟨e1, [], rfl, ce1.same (made_ch ny ndy), hnil, fun H6 G g6 _ fr6 new6 => ⟨rfl, ?_⟩⟩⟩
        obtain ⟨u2, free6⟩ := made_same ny ndy fr6 new6
        have X6 := XA.trans (LamX.ExtN.of (Same.trans u1 u2))
        have T6 := (TA.ext u1).ext u2
        have FN6 : ∀ b ∈ G.cells y, FreeN H b := fun b hb => freeN_ext (XA.trans (LamX.ExtN.of u1)) (free6 b hb)
        refine ⟨60, rfl, by decide, by decide, for_range (lo := 0) (n := 60) (fun i σ H7 => ∃ (F : FC5) (rw : List Int) (v4 v6 : Option V), σ = [some (.ref a), some (.ref ca), some (.ref r), some (.ref x), v4, some (.ref y), v6] ∧ FeedS K C H7 y F [] rw [] ∧ rw.length = i ∧ LamX.ExtN H H7 ∧ LamX.Tabs TT H7 ∧ ∀ b ∈ F.cells y, FreeN H b)
          ⟨G, [], _, _, rfl, g6, rfl, X6, T6, FN6⟩ ?_ ?_⟩
        · clear X6 T6 FN6 g6 free6 u1 u2 ce1 fr6 new6
          rintro i σ H7 hi ⟨F7, rw7, v4, v6, rfl, f7, hl7, X7, T7, FN7⟩
          obtain ⟨d7, hi7⟩ := f7.ins
          have hik : rowOkV (.int (0 + (i : Int))) = true := by
            show (decide (-1000000000000000000000000000000 ≤ 0 + (i : Int)) && decide (0 + (i : Int) ≤ 1000000000000000000000000000000)) = true
            rw [decide_eq_true (by omega), decide_eq_true (by omega)]
            rfl
          refine ⟨_, rfl, y, d7, _, rfl, hi7, rfl, _, rfl, y, .int (0 + (i : Int)), F7, [], rw7, [], rfl, Nice.int _, f7, fun p hp => (by cases hp), (by decide), by omega, .inr (.inr ⟨0 + (i : Int), rfl, hik, by omega, fun g H8 F8 f8 fr8 new8 _ _ => ?_⟩)⟩
          refine ⟨F8, rw7 ++ [0 + (i : Int)], _, _, rfl, f8, by rw [List.length_append, hl7]; rfl, ext_frm X7 fr8 FN7, tabs_frm T7 fr8 f7.plain, fun b hb => ?_⟩
          rcases new8 b hb with z | z
          · exact FN7 b z
          · exact freeN_ext X7 z
        · clear X6 T6 FN6 g6 free6 u1 u2 ce1 fr6 new6 XA TA
          rintro σ H7 ⟨F7, rw7, v4, v6, rfl, f7, hl7, X7, T7, FN7⟩
          -- one more
          refine ⟨T7, fun H8 e8 t8 => ?_⟩
          replace f7 := f7.kp (L := []) (Kp.ext e8) (fun b hb => absurd hb (by simp)) (fun b hb => absurd hb (by simp))
          replace X7 := X7.trans e8
          obtain ⟨d7, hi7⟩ := f7.ins
          refine ⟨_, rfl, y, d7, _, rfl, hi7, rfl, y, .int 0, F7, [], rw7, [], rfl, Nice.int _, f7, fun p hp => (by cases hp), (by decide), by omega, .inr (.inl ⟨rfl, by omega, fun H9 s9 => ⟨c4, 4, "TooMany", rfl, rfl, B.em4, B.one4, rfl, fun t10 H10 s10 e10 => ?_⟩⟩)⟩
          replace X7 := X7.trans (LamX.ExtN.of (Same.trans s9 s10))
          replace T7 := (t8.ext s9).ext s10
          replace f7 := (f7.same s9).same s10
          refine ⟨(by show 2 ≤ sizeLine; decide), fun p np => ?_⟩
          have sp := same_upd (o := .tup [.str "error", .str "TooMany"]) (Same.refl H10) np
          have esh := erd_shaped "TooMany" (by decide +kernel)
          refine ⟨errData "TooMany", errData "TooMany", err_dp (sp _ _ e10), err_dp upd_same, esh, esh, _, rfl, ifEqvT (SeqAt.eqv_refl _ (SeqAt.canLay_of_shaped esh)) ?_⟩
          replace X7 := X7.trans (LamX.ExtN.of sp)
          replace T7 := T7.ext sp
          replace f7 := f7.same sp
          generalize upd H10 p (.tup [.str "error", .str "TooMany"]) = H11 at X7 T7 f7 ⊢
          clear sp e10 s9 s10 e8 t8 np
          obtain ⟨d8, hi8⟩ := f7.ins
          refine ⟨_, rfl, y, d8, _, rfl, hi8, y, F7, [], rw7, [], rfl, f7, rw7.length, rfl, by omega, rfl, _, rfl, neF (by rw [hl7]; rfl) ?_⟩
          -- no chain
          refine ⟨T7, fun H12 e12 t12 => fun z dz nz ndz _ => ⟨z, dz, .non, rfl, upd_same, .inl ⟨none, ⟨"NoneType", by decide, by decide, .base .non⟩, rfl, fun H13 s13 => ⟨c0, 0, "InvalidChain", rfl, rfl, B.em0, B.one0, rfl, fun t14 H14 s14 e14 => ?_⟩⟩⟩⟩
          have sz := Same.trans (Same.trans (made_ch (C := C) nz ndz) s13) s14
          refine ⟨(by show 2 ≤ sizeLine; decide), fun p np => ?_⟩
          have sp := same_upd (o := .tup [.str "error", .str "InvalidChain"]) (Same.refl H14) np
          have esh := erd_shaped "InvalidChain" (by decide +kernel)
          refine ⟨errData "InvalidChain", errData "InvalidChain", err_dp (sp _ _ e14), err_dp upd_same, esh, esh, _, rfl, ifEqvT (SeqAt.eqv_refl _ (SeqAt.canLay_of_shaped esh)) ?_⟩
          exact k _ ((X7.trans e12).trans (LamX.ExtN.of (Same.trans sz sp))) ((t12.ext sz).ext sp)
      | false =>
        refine iteT ?_
        refine ⟨_, rfl, _, rfl, fun y0 dy0 ny0 ndy0 _ => ⟨y0, dy0, _, rfl, upd_same, .inr ⟨ca, ps, rfl, hcaA.same (made_ch ny0 ndy0), hco, fun H3 F3 f3 _ fr3 new3 => ⟨rfl, ?_⟩⟩⟩⟩
        obtain ⟨s3, _⟩ := made_same ny0 ndy0 fr3 new3
        have fd3 := fdA.same s3
        obtain ⟨da, ha3⟩ := fd3.ins
        obtain ⟨db, hb3⟩ := f3.ins
        refine ⟨a, y0, da, db, _, _, rfl, rfl, ha3, hb3, a, .ref y0, F, ps, row, und, rfl, fd3, hco, .inr ⟨y0, F3, ps, [], [], rfl, f3, hco, _, rfl, _, rfl, ?_⟩⟩
        have e1 : PyData.eqv (.list (intsD row)) (.list (intsD [])) = false := by
          rw [lst_tp]
          exact (tp_nil row).trans hE
        rw [e1, Bool.and_false]
        refine iteF ?_
        replace XA := XA.trans (LamX.ExtN.of s3)
        replace TA := TA.ext s3
        clear hcaA fdA fd3 ha3 hb3 f3 fr3 new3 s3
        -- two chains
        refine ⟨(by show 0 ≤ sizeLine; decide), fun e1 ne1 => ?_⟩
        have u1 := same_upd (o := .tup []) (Same.refl H3) ne1
        have ce1 : ChainAt K (upd H3 e1 (.tup [])) e1 (([] : List Stp).map Stp.v) := ⟨[], sqt_new, rfl, fun i x o hx _ => by simp at hx⟩
        generalize upd H3 e1 (.tup []) = HB at u1 ce1 ⊢
        refine fun y1 dy1 ny1 ndy1 _ => ⟨y1, dy1, _, rfl, upd_same, .inr ⟨e1, [], rfl, ce1.same (made_ch ny1 ndy1), hnil, fun H4 G1 g1 _ fr4 new4 => ⟨rfl, ?_⟩⟩⟩
        obtain ⟨u2, fr2⟩ := made_same ny1 ndy1 fr4 new4
        refine ⟨(by show 1 ≤ sizeLine; decide), fun e2 ne2 => ⟨(by show 1 ≤ sizeLine; decide), fun e3 ne3 => ?_⟩⟩
        have u3 := same_upd (o := .tup [V.str "sums"]) (Same.refl H4) ne2
        have es : upd H4 e2 (.tup [V.str "sums"]) e2 = some (.tup [V.str "sums"]) := upd_same
        generalize upd H4 e2 (.tup [V.str "sums"]) = HC at u3 es ne3 ⊢
        have u4 := same_upd (o := .tup [V.ref e2]) (Same.refl HC) ne3
        have ce3 : ChainAt K (upd HC e3 (.tup [V.ref e2])) e3 ([Stp.sums].map Stp.v) := ⟨[.ref e2], sqt_new, rfl, fun i x o hx ho => by
          match i, hx, ho with
          | 0, hx, ho =>
            cases hx
            cases ho
            exact ⟨e2, rfl, SqT.of (u4 _ _ es), fun y hy => by rw [List.mem_singleton.mp hy]; exact Nice.str _⟩
          | n + 1, hx, ho => simp at hx⟩
        generalize upd HC e3 (.tup [V.ref e2]) = HD at u4 ce3 ⊢
        refine fun y2 dy2 ny2 ndy2 _ => ⟨y2, dy2, _, rfl, upd_same, .inr ⟨e3, [.sums], rfl, ce3.same (made_ch ny2 ndy2), hsum, fun H5 G2 g2 _ fr5 new5 => ⟨rfl, ?_⟩⟩⟩
        obtain ⟨u5, _⟩ := made_same ny2 ndy2 fr5 new5
        have g1' := ((g1.same u3).same u4).same u5
        obtain ⟨dg1, hg1⟩ := g1'.ins
        obtain ⟨dg2, hg2⟩ := g2.ins
        refine ⟨y1, y2, dg1, dg2, _, _, rfl, rfl, hg1, hg2, y1, .ref y2, G1, [], [], [], rfl, g1', hnil, .inr ⟨y2, G2, [.sums], [], [], rfl, g2, hsum, _, rfl, _, rfl, ?_⟩⟩
        rw [show PyData.eqv (chainData (([] : List Stp).map Stp.v)) (chainData ([Stp.sums].map Stp.v)) = false by decide +kernel, Bool.false_and]
        refine iteF ?_
        replace XA := XA.trans (LamX.ExtN.of (Same.trans (Same.trans (Same.trans (Same.trans u1 u2) u3) u4) u5))
        replace TA := TA.ext (Same.trans (Same.trans (Same.trans (Same.trans u1 u2) u3) u4) u5)
        clear u1 ce1 u2 fr2 u3 es u4 ce3 u5 g1' hg1 hg2 fr4 new4 fr5 new5 g1 g2 ny1 ndy1 ny2 ndy2 ne1 ne2 ne3
        -- sixty numbers
        refine ⟨(by show 0 ≤ sizeLine; decide), fun e1 ne1 => ?_⟩
        have u1 := same_upd (o := .tup []) (Same.refl H5) ne1
        have ce1 : ChainAt K (upd H5 e1 (.tup [])) e1 (([] : List Stp).map Stp.v) := ⟨[], sqt_new, rfl, fun i x o hx _ => by simp at hx⟩
        generalize upd H5 e1 (.tup []) = HE at u1 ce1 ⊢
        refine fun y dy ny ndy _ => ⟨y, dy, _, rfl, upd_same, .inr ⟨e1, [], rfl, ce1.same (made_ch ny ndy), hnil, fun H6 G g6 _ fr6 new6 => ⟨rfl, ?_⟩⟩⟩
        obtain ⟨u2, free6⟩ := made_same ny ndy fr6 new6
        have X6 := XA.trans (LamX.ExtN.of (Same.trans u1 u2))
        have T6 := (TA.ext u1).ext u2
        have FN6 : ∀ b ∈ G.cells y, FreeN H b := fun b hb => freeN_ext (XA.trans (LamX.ExtN.of u1)) (free6 b hb)
        refine ⟨60, rfl, by decide, by decide, for_range (lo := 0) (n := 60) (fun i σ H7 => ∃ (F : FC5) (rw : List Int) (v4 v6 : Option V), σ = [some (.ref a), some (.ref ca), some (.ref r), some (.ref x), v4, some (.ref y), v6] ∧ FeedS K C H7 y F [] rw [] ∧ rw.length = i ∧ LamX.ExtN H H7 ∧ LamX.Tabs TT H7 ∧ ∀ b ∈ F.cells y, FreeN H b)
          ⟨G, [], _, _, rfl, g6, rfl, X6, T6, FN6⟩ ?_ ?_⟩
        · clear X6 T6 FN6 g6 free6 u1 u2 ce1 fr6 new6
          rintro i σ H7 hi ⟨F7, rw7, v4, v6, rfl, f7, hl7, X7, T7, FN7⟩
          obtain ⟨d7, hi7⟩ := f7.ins
          have hik : rowOkV (.int (0 + (i : Int))) = true := by
            show (decide (-1000000000000000000000000000000 ≤ 0 + (i : Int)) && decide (0 + (i : Int) ≤ 1000000000000000000000000000000)) = true
            rw [decide_eq_true (by omega), decide_eq_true (by omega)]
            rfl
          refine ⟨_, rfl, y, d7, _, rfl, hi7, rfl, _, rfl, y, .int (0 + (i : Int)), F7, [], rw7, [], rfl, Nice.int _, f7, fun p hp => (by cases hp), (by decide), by omega, .inr (.inr ⟨0 + (i : Int), rfl, hik, by omega, fun g H8 F8 f8 fr8 new8 _ _ => ?_⟩)⟩
          refine ⟨F8, rw7 ++ [0 + (i : Int)], _, _, rfl, f8, by rw [List.length_append, hl7]; rfl, ext_frm X7 fr8 FN7, tabs_frm T7 fr8 f7.plain, fun b hb => ?_⟩
          rcases new8 b hb with z | z
          · exact FN7 b z
          · exact freeN_ext X7 z
        · clear X6 T6 FN6 g6 free6 u1 u2 ce1 fr6 new6 XA TA
          rintro σ H7 ⟨F7, rw7, v4, v6, rfl, f7, hl7, X7, T7, FN7⟩
          -- one more
          refine ⟨T7, fun H8 e8 t8 => ?_⟩
          replace f7 := f7.kp (L := []) (Kp.ext e8) (fun b hb => absurd hb (by simp)) (fun b hb => absurd hb (by simp))
          replace X7 := X7.trans e8
          obtain ⟨d7, hi7⟩ := f7.ins
          refine ⟨_, rfl, y, d7, _, rfl, hi7, rfl, y, .int 0, F7, [], rw7, [], rfl, Nice.int _, f7, fun p hp => (by cases hp), (by decide), by omega, .inr (.inl ⟨rfl, by omega, fun H9 s9 => ⟨c4, 4, "TooMany", rfl, rfl, B.em4, B.one4, rfl, fun t10 H10 s10 e10 => ?_⟩⟩)⟩
          replace X7 := X7.trans (LamX.ExtN.of (Same.trans s9 s10))
          replace T7 := (t8.ext s9).ext s10
          replace f7 := (f7.same s9).same s10
          refine ⟨(by show 2 ≤ sizeLine; decide), fun p np => ?_⟩
          have sp := same_upd (o := .tup [.str "error", .str "TooMany"]) (Same.refl H10) np
          have esh := erd_shaped "TooMany" (by decide +kernel)
          refine ⟨errData "TooMany", errData "TooMany", err_dp (sp _ _ e10), err_dp upd_same, esh, esh, _, rfl, ifEqvT (SeqAt.eqv_refl _ (SeqAt.canLay_of_shaped esh)) ?_⟩
          replace X7 := X7.trans (LamX.ExtN.of sp)
          replace T7 := T7.ext sp
          replace f7 := f7.same sp
          generalize upd H10 p (.tup [.str "error", .str "TooMany"]) = H11 at X7 T7 f7 ⊢
          clear sp e10 s9 s10 e8 t8 np
          obtain ⟨d8, hi8⟩ := f7.ins
          refine ⟨_, rfl, y, d8, _, rfl, hi8, y, F7, [], rw7, [], rfl, f7, rw7.length, rfl, by omega, rfl, _, rfl, neF (by rw [hl7]; rfl) ?_⟩
          -- no chain
          refine ⟨T7, fun H12 e12 t12 => fun z dz nz ndz _ => ⟨z, dz, .non, rfl, upd_same, .inl ⟨none, ⟨"NoneType", by decide, by decide, .base .non⟩, rfl, fun H13 s13 => ⟨c0, 0, "InvalidChain", rfl, rfl, B.em0, B.one0, rfl, fun t14 H14 s14 e14 => ?_⟩⟩⟩⟩
          have sz := Same.trans (Same.trans (made_ch (C := C) nz ndz) s13) s14
          refine ⟨(by show 2 ≤ sizeLine; decide), fun p np => ?_⟩
          have sp := same_upd (o := .tup [.str "error", .str "InvalidChain"]) (Same.refl H14) np
          have esh := erd_shaped "InvalidChain" (by decide +kernel)
          refine ⟨errData "InvalidChain", errData "InvalidChain", err_dp (sp _ _ e14), err_dp upd_same, esh, esh, _, rfl, ifEqvT (SeqAt.eqv_refl _ (SeqAt.canLay_of_shaped esh)) ?_⟩
          exact k _ ((X7.trans e12).trans (LamX.ExtN.of (Same.trans sz sp))) ((t12.ext sz).ext sp)
end
end FC
set_option Elab.async false
set_option linter.all false
set_option maxRecDepth 100000
set_option maxHeartbeats 4000000
/-! undo. -/
namespace FC
open PySem PySem.Spec PyProof.Rows L2
/-- a number less -/
theorem feed_pop {K : PySem.W.Frag} {C a : Addr} {H : Hp} {F : FC5} {ps : List Stp} {row und : List Int} {x : Int} {qs ss : List Addr} (f : FeedS K C H a F ps (row ++ [x]) und) (hq : H F.an = some (.lst (qs.map V.ref))) (hqa : SqTs K H qs (givenB ps (row ++ [x])))
    (hs : H F.st = some (.lst (ss.map V.ref))) (hsl : ss.length = (row ++ [x]).length) (hss : ∀ (i : Nat) (s : Addr), ss[i]? = some s → StateAt K H s ps ((row ++ [x]).take (i + 1))) {H' : Hp}
    (e : H' = upd (upd (upd (upd H F.n (.lst ((row ++ [x]).map V.int).dropLast)) F.un (.lst (und.map V.int ++ [.int x]))) F.st (.lst (ss.map V.ref).dropLast)) F.an (.lst (qs.map V.ref).dropLast)) :
    FeedS K C H' a F ps row (und ++ [x]) ∧ Frm (F.cells a) H H' := by
  have fr : Frm (F.cells a) H H' := by
    rw [e]
    exact (((((Frm.refl _ H).upd (by simp [FC5.cells])).upd (by simp [FC5.cells])).upd (by simp [FC5.cells])).upd (by simp [FC5.cells]))
  have nt := f.noT
  obtain ⟨dx, hi⟩ := f.ins
  have n1 : a ≠ F.n := ne_of hi f.numbers (by intro z; cases z)
  have n2 : a ≠ F.an := ne_of hi hq (by intro z; cases z)
  have n3 : a ≠ F.st := ne_of hi hs (by intro z; cases z)
  have n4 : a ≠ F.un := ne_of hi f.undone (by intro z; cases z)
  have lq : qs.length = row.length + 1 := by
    rw [hqa.1, given_len, List.length_append]
    rfl
  have ls : ss.length = row.length + 1 := by
    rw [hsl, List.length_append]
    rfl
  have eg : givenB ps (row ++ [x]) = givenB ps row ++ [newM ps row [x]] := given_snoc _ _ _
  refine ⟨⟨⟨dx, by rw [e, upd_ne n2, upd_ne n3, upd_ne n4, upd_ne n1]; exact hi⟩, stps_frm fr nt f.chain, ?_, ⟨qs.dropLast, ?_, ?_, ?_⟩, ⟨ss.dropLast, ?_, ?_, ?_⟩, ?_, f.a1, f.a2, f.a3, f.a4, f.a5, f.a6⟩, fr⟩
  · rw [e, upd_ne f.a1, upd_ne f.a2, upd_ne f.a3, upd_same, List.map_append, List.map_cons, List.map_nil, List.dropLast_concat]
  · rw [e, upd_same, List.map_dropLast]
  · rw [List.length_dropLast, lq, given_len]
    rfl
  · intro i q gg h1 h2
    have hi := get_lt h1
    rw [List.length_dropLast, lq] at hi
    rw [List.getElem?_dropLast, if_pos (by omega)] at h1
    refine sqt_frm fr nt (hqa.2 i q gg h1 ?_)
    rw [eg, List.getElem?_append_left (by rw [given_len]; omega)]
    exact h2
  · rw [e, upd_ne f.a4.symm, upd_same, List.map_dropLast]
  · rw [List.length_dropLast, ls]
    rfl
  · intro i s h1
    have hi := get_lt h1
    rw [List.length_dropLast, ls] at hi
    rw [List.getElem?_dropLast, if_pos (by omega)] at h1
    have := hss i s h1
    rw [List.take_append_of_le_length (by omega)] at this
    exact state_frm fr nt this
  · rw [e, upd_ne f.a5.symm, upd_ne f.a6.symm, upd_same, List.map_append]
    rfl
section
variable {P : Program} {w : World} {K : PySem.W.Frag} {mg : Str → Option Value} {base : Heap}
/-! ### undo -/
def spUndo (K : PySem.W.Frag) (C c5 : Addr) : Sp := fun vs H Q E => ∃ (a : Addr) (F : FC5) (ps : List Stp) (row und : List Int), vs = [.ref a] ∧ FeedS K C H a F ps row und ∧ row.length ≤ 100 ∧ und.length ≤ 100 ∧
  ((row = [] ∧ ∀ H', Same H H' → E (.ref c5) none H') ∨ (∃ r0 x, row = r0 ++ [x] ∧ FeedQ K C H a F ps r0 (und ++ [x]) (newM ps r0 [x]) Q))
theorem last_get {α : Type} (l : List α) (x : α) : (l ++ [x])[(l ++ [x]).length - 1]? = some x := by
  rw [List.length_append, List.length_singleton, Nat.add_sub_cancel, List.getElem?_append_right (Nat.le_refl _), Nat.sub_self]
  rfl
theorem scUndo : FnScope ["self"] ["self"] (defScope (fdM 2)) := ⟨rfl, rfl, rfl, by decide +kernel, rfl, by decide +kernel, by decide +kernel⟩
theorem ok_undo {f C c5 : Addr} {fd : FuncData} (F : Fun K "undo" "Feed.undo" (fdM 2) f fd) (T : FdT K mg C) (X5 : ExcT K mg "NothingToUndo" c5) : FnOk P w K mg base (L2N.CX P w) 5 f fd ["self"] (spUndo K C c5) := by
  refine okM F scUndo (fun vs H Q E h => ?_) (fun cdv A outer s H vs Q E hr h => ?_)
  · obtain ⟨a, F, ps, row, und, rfl, _⟩ := h
    rfl
  · obtain ⟨a, F, ps, row, und, rfl, hf, hlr, hlu, h⟩ := h
    refine ⟨_, pss_cons (ps_if (pt_not (pt_truth (pe_fld (pv 0) rfl) (fun _ => rfl))) (pss_one (L2N.ps_raise rfl (L2N.takes_of rfl rfl rfl rfl) (L2N.pmk_own PySem.F.excBase_ValueError X5.q X5.gC X5.kC (raises_own X5.bP X5.tP) rfl))) pss_nil)
      (pss_cons (ps_expr (pe_bm PySem.F.plainAttrs_list PySem.F.slot_list_append PySem.F.type_list_append mt_append (pe_fld (pv 0) rfl) (pa_cons (pe_bm0 PySem.F.plainAttrs_list PySem.F.slot_list_pop PySem.F.type_list_pop mt_pop (pe_fld (pv 0) rfl)) pa_nil)))
      (pss_cons (ps_expr (pe_bm0 PySem.F.plainAttrs_list PySem.F.slot_list_pop PySem.F.type_list_pop mt_pop (pe_fld (pv 0) rfl)))
      (pss_one (ps_ret (pe_bm0 PySem.F.plainAttrs_list PySem.F.slot_list_pop PySem.F.type_list_pop mt_pop (pe_fld (pv 0) rfl)))))), ?_⟩
    obtain ⟨dx, hi⟩ := hf.ins
    have hn := hf.numbers
    refine ⟨_, rfl, a, C, dx, _, _, rfl, hi, T.cl, T.nn, F.numbers, _, .inl ⟨_, SqL.of hn, rfl⟩, ?_⟩
    rcases h with ⟨e, k⟩ | ⟨r0, x, e, k⟩
    · subst e
      exact iteT (k H (Same.refl H))
    · subst e
      refine ite2 (fun z => absurd z (by simp)) (fun _ => ?_)
      obtain ⟨qs, hq, hqa⟩ := hf.answers
      obtain ⟨ss, hs, hsl, hss⟩ := hf.states
      have hu := hf.undone
      have n1 : a ≠ F.n := ne_of hi hn (by intro z; cases z)
      have n2 : a ≠ F.an := ne_of hi hq (by intro z; cases z)
      have n3 : a ≠ F.st := ne_of hi hs (by intro z; cases z)
      have n4 : a ≠ F.un := ne_of hi hu (by intro z; cases z)
      have hsz : 1000 < sizeLine := by decide
      have lq : qs.length = r0.length + 1 := by
        rw [hqa.1, given_len, List.length_append]
        rfl
      have ls : ss.length = r0.length + 1 := by
        rw [hsl, List.length_append]
        rfl
      obtain ⟨q0, g, eq0⟩ : ∃ q0 g, qs = q0 ++ [g] := by
        rcases List.eq_nil_or_concat qs with z | ⟨l, y, z⟩
        · rw [z] at lq; simp at lq
        · exact ⟨l, y, by rw [z, List.concat_eq_append]⟩
      obtain ⟨s0, sl, es0⟩ : ∃ s0 sl, ss = s0 ++ [sl] := by
        rcases List.eq_nil_or_concat ss with z | ⟨l, y, z⟩
        · rw [z] at ls; simp at ls
        · exact ⟨l, y, by rw [z, List.concat_eq_append]⟩
      have hg0 : SqT K H g ((newM ps r0 [x]).map V.int) := by
        refine hqa.2 r0.length g _ ?_ ?_
        · rw [eq0] at lq ⊢
          rw [List.length_append, List.length_singleton] at lq
          rw [List.getElem?_append_right (by omega), show r0.length - q0.length = 0 by omega]
          rfl
        · rw [given_snoc, List.getElem?_append_right (by rw [given_len]; exact Nat.le_refl _), given_len, Nat.sub_self]
          rfl
      have eN : ((r0 ++ [x]).map V.int)[((r0 ++ [x]).map V.int).length - 1]? = some (V.int x) := by
        rw [List.map_append]
        exact last_get _ _
      have eS : (ss.map V.ref)[(ss.map V.ref).length - 1]? = some (V.ref sl) := by
        rw [es0, List.map_append]
        exact last_get _ _
      have eQ : (qs.map V.ref)[(qs.map V.ref).length - 1]? = some (V.ref g) := by
        rw [eq0, List.map_append]
        exact last_get _ _
      refine ⟨_, rfl, a, C, dx, _, _, rfl, hi, T.cl, T.nu, F.undone, .inl ⟨rfl, _, SqL.of hu⟩, ⟨_, rfl, a, C, dx, _, _, rfl, hi, T.cl, T.nn, F.numbers, .inl ⟨rfl, _, SqL.of hn⟩, F.n, _, _, rfl, rfl, hn, eN, F.un, _, _, rfl, rfl, (upd_ne hf.a3.symm).trans hu, (by rw [List.length_map]; omega), ?_⟩⟩
      refine ⟨_, rfl, a, C, dx, _, _, rfl, (upd_ne n4).trans ((upd_ne n1).trans hi), T.cl, T.ns, F.states, .inl ⟨rfl, _, SqL.of ((upd_ne hf.a6).trans ((upd_ne hf.a2.symm).trans hs))⟩, F.st, _, _, rfl, rfl, (upd_ne hf.a6).trans ((upd_ne hf.a2.symm).trans hs), eS, ?_⟩
      refine ⟨_, rfl, a, C, dx, _, _, rfl, (upd_ne n3).trans ((upd_ne n4).trans ((upd_ne n1).trans hi)), T.cl, T.na, F.answers, .inl ⟨rfl, _, SqL.of ((upd_ne hf.a4).trans ((upd_ne hf.a5).trans ((upd_ne hf.a1.symm).trans hq)))⟩, F.an, _, _, rfl, rfl, (upd_ne hf.a4).trans ((upd_ne hf.a5).trans ((upd_ne hf.a1.symm).trans hq)), eQ, ?_⟩
      obtain ⟨p1, p2⟩ := feed_pop hf hq hqa hs hsl hss rfl
      exact k g _ F p1 p2 (fun b hb => .inl hb) rfl (sqt_frm p2 hf.noT hg0)
end
end FC
set_option Elab.async false
set_option linter.all false
set_option maxRecDepth 100000
set_option maxHeartbeats 4000000
/-! redo. -/
namespace FC
open PySem PySem.Spec PyProof.Rows L2
/-- the last of those taken back is taken out -/
theorem feed_unpop {K : PySem.W.Frag} {C a : Addr} {H : Hp} {F : FC5} {ps : List Stp} {row und : List Int} {y : Int} (f : FeedS K C H a F ps row (und ++ [y])) {H' : Hp}
    (e : H' = upd H F.un (.lst ((und ++ [y]).map V.int).dropLast)) : FeedS K C H' a F ps row und ∧ Frm (F.cells a) H H' := by
  have fr : Frm (F.cells a) H H' := by
    rw [e]
    exact (Frm.refl _ H).upd (by simp [FC5.cells])
  have nt := f.noT
  obtain ⟨dx, hi⟩ := f.ins
  obtain ⟨qs, hq, hqa⟩ := f.answers
  obtain ⟨ss, hs, hsl, hss⟩ := f.states
  have n4 : a ≠ F.un := ne_of hi f.undone (by intro z; cases z)
  refine ⟨⟨⟨dx, by rw [e, upd_ne n4]; exact hi⟩, stps_frm fr nt f.chain, by rw [e, upd_ne f.a3]; exact f.numbers, ⟨qs, by rw [e, upd_ne f.a5]; exact hq, hqa.1, fun i q g h1 h2 => sqt_frm fr nt (hqa.2 i q g h1 h2)⟩,
    ⟨ss, by rw [e, upd_ne f.a6]; exact hs, hsl, fun i s h => state_frm fr nt (hss i s h)⟩, by rw [e, upd_same, List.map_append, List.map_cons, List.map_nil, List.dropLast_concat], f.a1, f.a2, f.a3, f.a4, f.a5, f.a6⟩, fr⟩
section
variable {P : Program} {w : World} {K : PySem.W.Frag} {mg : Str → Option Value} {base : Heap}
def spRedo (K : PySem.W.Frag) (C c5 : Addr) : Sp := fun vs H Q E => ∃ (a : Addr) (F : FC5) (ps : List Stp) (row und : List Int), vs = [.ref a] ∧ FeedS K C H a F ps row und ∧ (∀ p ∈ ps, p.ok) ∧ ps.length ≤ 4 ∧ row.length ≤ 100 ∧
  ((und = [] ∧ ∀ H', Same H H' → E (.ref c5) none H') ∨ (∃ u0 y, und = u0 ++ [y] ∧ FeedQ K C H a F ps (row ++ [y]) u0 (newM ps row [y]) Q))
theorem scRedo : FnScope ["self"] ["self"] (defScope (fdM 3)) := ⟨rfl, rfl, rfl, by decide +kernel, rfl, by decide +kernel, by decide +kernel⟩
theorem ok_redo {f fT C c5 : Addr} {fd fdT : FuncData} (F : Fun K "redo" "Feed.redo" (fdM 3) f fd) (T : FdT K mg C) (X5 : ExcT K mg "NothingToUndo" c5)
    (GT : FnOk P w K mg base CX0 4 fT fdT ["self", "number"] (spTake K C)) (bT : Binds K fdT ["self", "number"] []) (mT : Meth K C "take" fT) : FnOk P w K mg base (L2N.CX P w) 5 f fd ["self"] (spRedo K C c5) := by
  refine okM F scRedo (fun vs H Q E h => ?_) (fun cdv A outer s H vs Q E hr h => ?_)
  · obtain ⟨a, F, ps, row, und, rfl, _⟩ := h
    rfl
  · obtain ⟨a, F, ps, row, und, rfl, hf, hok, hl, hlr, h⟩ := h
    refine ⟨_, pss_cons (ps_if (pt_not (pt_truth (pe_fld (pv 0) rfl) (fun _ => rfl))) (pss_one (L2N.ps_raise rfl (L2N.takes_of rfl rfl rfl rfl) (L2N.pmk_own PySem.F.excBase_ValueError X5.q X5.gC X5.kC (raises_own X5.bP X5.tP) rfl))) pss_nil)
      (pss_one (ps_ret (pe_meth (pv 0) T.cl mT GT hr bT .nil pass0 (pa_cons (pe_bm0 PySem.F.plainAttrs_list PySem.F.slot_list_pop PySem.F.type_list_pop mt_pop (pe_fld (pv 0) rfl)) pa_nil)))), ?_⟩
    obtain ⟨dx, hi⟩ := hf.ins
    have hu := hf.undone
    refine ⟨_, rfl, a, C, dx, _, _, rfl, hi, T.cl, T.nu, F.undone, _, .inl ⟨_, SqL.of hu, rfl⟩, ?_⟩
    rcases h with ⟨e, k⟩ | ⟨u0, y, e, k⟩
    · subst e
      exact iteT (k H (Same.refl H))
    · subst e
      refine ite2 (fun z => absurd z (by simp)) (fun _ => ?_)
      have eU : ((u0 ++ [y]).map V.int)[((u0 ++ [y]).map V.int).length - 1]? = some (V.int y) := by
        rw [List.map_append, List.length_append, List.map_cons, List.map_nil, List.length_singleton, Nat.add_sub_cancel, List.getElem?_append_right (Nat.le_refl _), Nat.sub_self]
        rfl
      obtain ⟨f1, fr1⟩ := feed_unpop hf rfl
      refine ⟨_, rfl, a, dx, _, rfl, hi, rfl, _, rfl, a, C, dx, _, _, rfl, hi, T.cl, T.nu, F.undone, .inl ⟨rfl, _, SqL.of hu⟩, F.un, _, _, rfl, rfl, hu, eU, a, y, F, ps, row, u0, rfl, f1, hok, hl, hlr, fun g H3 f3 fr3 hg => ?_⟩
      exact k g H3 F f3 (fr1.trans fr3) (fun b hb => .inl hb) rfl hg
end
end FC
set_option Elab.async false
set_option linter.all false
set_option maxRecDepth 100000
set_option maxHeartbeats 2000000
/-! The law's own run, and its drawn rows. -/
namespace FC
open PySem L2
def spRunL (K : PySem.W.Frag) : Sp := fun vs H Q _ => ∃ (c r : Addr) (ps : List Stp) (row : List Int), vs = [.ref c, .ref r] ∧ StpsAt K H c ps ∧ (∀ p ∈ ps, p.ok) ∧ ps.length ≤ 4 ∧ SqT K H r (row.map V.int) ∧ row.length ≤ 200 ∧
  ∀ (t : Addr) H', Same H H' → SqT K H' t ((runM ps row).map V.int) → Q (.ref t) H'
section
variable {P : Program} {w : World} {K : PySem.W.Frag} {mg : Str → Option Value} {base : Heap}
theorem scRunL : FnScope ["_law_chain_here", "_law_row", "_law_found", "_law_given_here"] ["_law_chain_here", "_law_row"] (defScope sRunL) := ⟨rfl, rfl, rfl, by decide +kernel, rfl, by decide +kernel, by decide +kernel⟩
theorem ok_runL {f : Addr} {fd : FuncData} (F : Fun K "_law_run" "_law_run" sRunL f fd) (CG : Cal P w K mg base CX0 2 "_law_given" ["_law_chain_here", "_law_row"] (spGiven K)) : FnOk P w K mg base CX0 3 f fd ["_law_chain_here", "_law_row"] (spRunL K) := by
  refine F.ok scRunL (fun vs H Q E h => ?_) (fun cdv A outer s H vs Q E hr h => ?_)
  · obtain ⟨c, r, ps, row, rfl, _⟩ := h
    rfl
  · obtain ⟨c, r, ps, row, rfl, hc, hok, hp4, hrow, hl, k⟩ := h
    have nd := scRunL.nd
    refine ⟨_, pss_cons (ps_set (i := 2) nd rfl (Or.inl rfl) (pe_tup pa_nil))
      (pss_cons (ps_for PassesOwn.never rfl (pi_list (pe_cal CG hr pass0 (pa_cons (pv 0) (pa_cons (pv 1) pa_nil)))) (pg_name (i := 3) nd rfl (Or.inl rfl)) (pss_one (ps_set (i := 2) nd rfl (Or.inl rfl) (pe_op op_catA (pv 2) (pv 3)))))
      (pss_one (ps_ret (pv 2)))), ?_⟩
    have hsl : 8000 < sizeLine := by decide
    refine ⟨(by show 0 ≤ sizeLine; omega), fun t0 n0 => ?_⟩
    have s0 := same_upd (o := .tup []) (Same.refl H) n0
    have e0 : SqT K (upd H t0 (.tup [])) t0 [] := SqT.of upd_same
    generalize upd H t0 (.tup []) = H1 at s0 e0 ⊢
    obtain ⟨xs, x1, x2, x3⟩ := hc
    refine ⟨_, rfl, _, rfl, c, r, ps, row, rfl, ⟨xs, sqt_same s0 x1, x2, fun i x p hx hp => ?_⟩, hok, hp4, sqt_same s0 hrow, hl, fun l qs H2 s2 nl el hq => ⟨l, rfl, ⟨_, SqL.of el⟩, ?_⟩⟩
    · obtain ⟨b, h1, h2⟩ := x3 i x p hx hp
      exact ⟨b, h1, sqt_same s0 h2⟩
    refine for_list (K := K) (a := l) (xs := qs.map V.ref) (fun i σ H3 => ∃ (t : Addr) (v3 : Option V), σ = [some (.ref c), some (.ref r), some (.ref t), v3] ∧ Same H2 H3 ∧ SqT K H3 t (((givenB ps row).take i).flatten.map V.int))
      ⟨t0, none, rfl, Same.refl H2, sqt_same s2 e0⟩ (fun i σ H3 _ ⟨_, _, _, s3, _⟩ => SqL.of (s3 _ _ el)) ?_ ?_
    · rintro i x σ H3 hx ⟨t, v3, rfl, s3, ht⟩
      have hi := get_lt hx
      rw [List.length_map] at hi
      obtain ⟨q, hqi⟩ : ∃ q, qs[i]? = some q := ⟨qs[i], List.getElem?_eq_getElem hi⟩
      rw [List.getElem?_map, hqi] at hx
      have hx : V.ref q = x := Option.some.inj hx
      subst hx
      have hgl := hq.1
      obtain ⟨g, hg⟩ : ∃ g, (givenB ps row)[i]? = some g := ⟨(givenB ps row)[i]'(by omega), List.getElem?_eq_getElem (by omega)⟩
      have eq3 := s3 _ _ (hq.2 i q g hqi hg)
      have et : (givenB ps row).take (i + 1) = (givenB ps row).take i ++ [g] := take_succ_get hg
      have ef : ((givenB ps row).take (i + 1)).flatten.map V.int = ((givenB ps row).take i).flatten.map V.int ++ g.map V.int := by
        rw [et, List.flatten_append, List.map_append]
        simp
      have hlen : (((givenB ps row).take i).flatten.map V.int).length + (g.map V.int).length ≤ 4000 := by
        have h1 := run_len ps row
        have h3 : 2 ^ ps.length ≤ 2 ^ 4 := Nat.pow_le_pow_right (by decide) hp4
        have h4 : 2 ^ ps.length * row.length ≤ 2 ^ 4 * 200 := Nat.mul_le_mul h3 hl
        have h5 : (((givenB ps row).take (i + 1)).flatten).length ≤ (runM ps row).length := by
          have e9 : (givenB ps row) = (givenB ps row).take (i + 1) ++ (givenB ps row).drop (i + 1) := (List.take_append_drop _ _).symm
          have : (runM ps row).length = (((givenB ps row).take (i + 1)).flatten).length + (((givenB ps row).drop (i + 1)).flatten).length := by
            show ((givenB ps row).flatten).length = _
            rw [← List.length_append, ← List.flatten_append, ← e9]
          omega
        have h6 : (((givenB ps row).take (i + 1)).flatten.map V.int).length = (((givenB ps row).take i).flatten.map V.int).length + (g.map V.int).length := by rw [ef, List.length_append]
        rw [List.length_map] at h6
        omega
      refine ⟨_, rfl, _, rfl, t, q, _, _, rfl, rfl, ht, SqT.of eq3, by omega, fun e => ?_, fun _ e => ?_, fun _ _ m nm => ?_⟩
      · refine ⟨q, _, rfl, s3, ?_⟩
        rw [ef, e]
        exact SqT.of eq3
      · refine ⟨t, _, rfl, s3, ?_⟩
        rw [ef, e, List.append_nil]
        exact ht
      · refine ⟨m, _, rfl, same_upd s3 nm, ?_⟩
        rw [ef]
        exact SqT.of upd_same
    · rintro σ H3 ⟨t, v3, rfl, s3, ht⟩
      rw [List.length_map, hq.1, List.take_length] at ht
      exact ⟨_, rfl, k t H3 (Same.trans (Same.trans s0 s2) s3) ht⟩
end
end FC
set_option Elab.async false
set_option linter.all false
set_option maxRecDepth 100000
set_option maxHeartbeats 4000000
namespace FC
open PySem L2
def spRounds2 (K : PySem.W.Frag) : Sp := fun vs H Q _ => ∃ (a : Addr) (ns : List Int) (m : Int), vs = [.ref a, .int m] ∧ 1 ≤ m ∧ m ≤ 4 ∧ SqL K H a (ns.map V.int) ∧ ns.length ≤ 63 ∧
  ∀ (t : Addr) (ds : List Addr) H', Same H H' → ds.length ≤ 4 → H' t = some (.lst (ds.map V.ref)) → (∀ d ∈ ds, Dice H' d ∧ H d = none) → H t = none → Q (.ref t) H'
section
variable {P : Program} {w : World} {K : PySem.W.Frag} {mg : Str → Option Value} {base : Heap}
theorem scRounds2 : FnScope ["_law_script", "_law_most", "_law_k"] ["_law_script", "_law_most"] (defScope sRounds) := ⟨rfl, rfl, rfl, by decide +kernel, rfl, by decide +kernel, by decide +kernel⟩
theorem ok_rounds2 {f : Addr} {fd : FuncData} (F : Fun K "_law_rounds" "_law_rounds" sRounds f fd) (T : Blt mg) (CC : Cal P w K mg base CX0 1 "_law_cell" ["_law_script", "_law_k"] (spCellL K)) : FnOk P w K mg base CX0 2 f fd ["_law_script", "_law_most"] (spRounds2 K) := by
  refine F.ok scRounds2 (fun vs H Q E h => ?_) (fun cdv A outer s H vs Q E hr h => ?_)
  · obtain ⟨a, k, m, rfl, _⟩ := h
    rfl
  · obtain ⟨a, ns, m, rfl, m1, m4, ha, hl, q⟩ := h
    have nd := scRounds2.nd
    refine ⟨_, pss_one (ps_ret (pe_lc (own := [("_law_k", 2)]) (g := gName 2) (by rfl) nd
      (pi_range1 (by rfl) T.range (pa_cons (pe_callB (call_max2 rfl) (by rfl) T.max (by decide +kernel) (pa_cons pe_int (pa_cons (pe_callB (call_min2 rfl) (by rfl) T.min (by decide +kernel) (pa_cons (pv 1) (pa_cons (pe_callB call_len (by rfl) T.len PySem.boot_len (pa_cons (pv 0) pa_nil)) pa_nil))) pa_nil))) pa_nil))
      (blkOk_by (own := [("_law_k", 2)]) (N := ["_law_script", "_law_most", "_law_k"]) (sc := defScope sRounds) (by decide +kernel)) (fun _ _ _ _ _ => pg_name (i := 2) nd rfl (Or.inl rfl))
      (fun _ _ _ _ _ => pts_nil) (fun _ _ _ _ _ => pe_lst (pa_cons (pe_cal CC hr pass0 (pa_cons (pv 0) (pa_cons (pv 2) pa_nil))) (pa_cons pe_int pa_nil))))), ?_⟩
    have hN : ∃ N : Nat, (if (if (ns.length : Int) < m then (ns.length : Int) else m) > 1 then (if (ns.length : Int) < m then (ns.length : Int) else m) else 1) = (N : Int) ∧ N ≤ 4 := by
      by_cases h1 : (ns.length : Int) < m
      · rw [if_pos h1]
        by_cases h2 : (ns.length : Int) > 1
        · rw [if_pos h2]
          exact ⟨ns.length, rfl, by omega⟩
        · rw [if_neg h2]
          exact ⟨1, rfl, by decide⟩
      · rw [if_neg h1]
        by_cases h2 : m > 1
        · rw [if_pos h2]
          exact ⟨m.toNat, by omega, by omega⟩
        · rw [if_neg h2]
          exact ⟨1, rfl, by decide⟩
    obtain ⟨N, eN, hN⟩ := hN
    have eL : ((ns.map V.int).length : Int) = (ns.length : Int) := by rw [List.length_map]
    refine ⟨_, rfl, _, rfl, _, (ns.map V.int).length, rfl, .inl ⟨_, ha, rfl⟩, _, _, rfl, _, _, rfl, (N : Int), ?_, by omega, by omega, fun D nD => ?_⟩
    · rw [eL, eN]
    have s1 := same_upd (o := .lst []) (Same.refl H) nD
    have eT : ((N : Int)).toNat = N := by omega
    rw [eT]
    refine lc_range (lo := 0) (n := N) (fun j H3 => ∃ ds : List Addr, ds.length = j ∧ H3 D = some (.lst (ds.map V.ref)) ∧ Same H H3 ∧ ∀ d ∈ ds, Dice H3 d ∧ H d = none ∧ d ≠ D)
      ⟨[], rfl, upd_same, s1, fun d hd => by simp at hd⟩ ?_ ?_
    · rintro j H3 hj ⟨ds, hds, hD, s3, each⟩
      refine ⟨rfl, ?_⟩
      have nDH : ∀ b o, H b = some o → b ≠ D := fun b o e => ne_of_none e nD
      refine ⟨_, rfl, _, rfl, a, ns, _, rfl, Same.seq s3 ha, hl, fun n H4 s4 => ⟨(by show 2 ≤ sizeLine; decide), fun d nd' => ⟨ds.map V.ref, ?_, ?_, ds ++ [d], ?_, ?_, ?_, ?_⟩⟩⟩
      · have h4 := s4 _ _ hD
        rw [upd_ne (ne_of_none h4 nd')]
        exact h4
      · rw [List.length_map]
        exact small1000 (by omega)
      · rw [List.length_append, hds]
        rfl
      · rw [upd_same, List.map_append]
        rfl
      · intro b o e
        have e4 := s4 _ _ (s3 b o e)
        rw [upd_ne (nDH b o e), upd_ne (ne_of_none e4 nd')]
        exact e4
      · intro c hc
        have dD : d ≠ D := fun z => by
          have h4 := s4 _ _ hD
          rw [← z, nd'] at h4
          cases h4
        rcases List.mem_append.mp hc with z | z
        · obtain ⟨⟨x, y, e1⟩, e2, e3⟩ := each c z
          have e4 := s4 _ _ e1
          refine ⟨⟨x, y, ?_⟩, e2, e3⟩
          rw [upd_ne e3, upd_ne (ne_of_none e4 nd')]
          exact e4
        · rw [List.mem_singleton.mp z]
          refine ⟨⟨n, 0, ?_⟩, ?_, dD⟩
          · rw [upd_ne dD]
            exact upd_same
          · exact Same.free (Same.trans s3 s4) nd'
    · rintro H3 ⟨ds, hds, hD, s3, each⟩
      exact q D ds H3 s3 (by omega) hD (fun d hd => ⟨(each d hd).1, (each d hd).2.1⟩) nD
end
end FC
set_option Elab.async false
set_option linter.all false
set_option maxRecDepth 100000
set_option maxHeartbeats 4000000
namespace FC
open PySem PySem.Spec PyProof.Rows L2
/-- a drawn chain -/
def spChain2 (K : PySem.W.Frag) : Sp := fun vs H Q _ => ∃ (d : Addr) (m : Int), vs = [.ref d, .int m] ∧ 0 ≤ m ∧ m ≤ 4 ∧ Dice H d ∧ ∀ (a : Addr) (cs : List (List V)) H', chainOk cs = true → ChainAt K H' a cs → Dice H' d → SameX d H H' → Q (.ref a) H'
section
variable {P : Program} {w : World} {K : PySem.W.Frag} {mg : Str → Option Value} {base : Heap}
theorem scChain2 : FnScope ["_law_dice", "_law_most", "_law_found", "_law_turn", "_law_more"] ["_law_dice", "_law_most"] (defScope sChain) := ⟨rfl, rfl, rfl, by decide +kernel, rfl, by decide +kernel, by decide +kernel⟩
theorem ok_chain2 {f : Addr} {fd : FuncData} (F : Fun K "_law_chain" "_law_chain" sChain f fd) (T : Blt mg) (CR : Cal P w K mg base CX0 2 "_law_roll" ["_law_dice", "_law_many"] spRoll) (CS : Cal P w K mg base CX0 4 "_law_step" ["_law_dice"] spStepL)
    (CC : Cal P w K mg base CX0 4 "is_chain" ["value"] (spIsChain K)) : FnOk P w K mg base CX0 5 f fd ["_law_dice", "_law_most"] (spChain2 K) := by
  refine F.ok scChain2 (fun vs H Q E h => ?_) (fun cdv A outer s H vs Q E hr h => ?_)
  · obtain ⟨a, m0, rfl, _⟩ := h
    rfl
  · obtain ⟨d, m0, rfl, m1, m4, hd, q⟩ := h
    have nd := scChain2.nd
    have hr2 : Room 2 _ := hr.mono (by decide)
    refine ⟨_, pss_cons (ps_set (i := 2) nd rfl (Or.inl rfl) (pe_tup pa_nil))
      (pss_cons (ps_for PassesOwn.never rfl (pi_range1 (by rfl) T.range (pa_cons (pe_cal CR hr2 pass0 (pa_cons (pv 0) (pa_cons (pe_op op_add (pv 1) pe_int) pa_nil))) pa_nil)) (pg_name (i := 3) nd rfl (Or.inl rfl))
        (pss_cons (ps_set (i := 4) nd rfl (Or.inl rfl) (pe_op op_catA (pv 2) (pe_tup (pa_cons (pe_cal CS hr pass0 (pa_cons (pv 0) pa_nil)) pa_nil))))
        (pss_one (ps_set (i := 2) nd rfl (Or.inl rfl) (pe_ifExp (pt_val (pe_cal CC hr pass0 (pa_cons (pv 4) pa_nil))) (pv 4) (pv 2))))))
      (pss_one (ps_ret (pv 2)))), ?_⟩
    have keepD : ∀ {H' : Hp} {t : Addr} {o : HO}, Dice H' d → H' t = none → Dice (upd H' t o) d := fun {H' t o} h n => by
      obtain ⟨x, y, e⟩ := h
      exact ⟨x, y, by rw [upd_ne (ne_of_none e n)]; exact e⟩
    refine ⟨(by show 0 ≤ sizeLine; decide), fun p np => ?_⟩
    have d1 := keepD (o := .tup []) hd np
    have s1 := (SameX.refl d H).upd (o := .tup []) np
    have c1 : ChainAt K (upd H p (.tup [])) p [] := ⟨[], SqT.of upd_same, rfl, fun i x o hx _ => by simp at hx⟩
    generalize upd H p (.tup []) = H1 at d1 s1 c1 ⊢
    refine ⟨_, rfl, _, rfl, _, _, rfl, rfl, d, m0 + 1, rfl, d1, by omega, by omega, fun r H2 r0 r1 d2 s2 => ?_⟩
    have c2 := chainAt_sameX c1 (by rfl) d1 s2
    have s2' := s1.trans s2
    clear c1 d1 s1 s2
    refine ⟨r, rfl, by omega, by omega, for_range (lo := 0) (n := r.toNat) (fun i σ H3 => ∃ (a : Addr) (cs : List (List V)) (v3 v4 : Option V), σ = [some (.ref d), some (.int m0), some (.ref a), v3, v4] ∧ chainOk cs = true ∧ ChainAt K H3 a cs ∧ Dice H3 d ∧ SameX d H H3)
      ⟨p, [], none, none, rfl, rfl, c2, d2, s2'⟩ ?_ ?_⟩
    · rintro i σ H3 hi ⟨a, cs, v3, v4, rfl, hc, hca, d3, s3⟩
      -- found + (a step,)
      refine ⟨_, rfl, _, rfl, d, rfl, d3, fun t ys H4 hy1 hy2 d4 s4 ht => ⟨(by show 1 ≤ sizeLine; decide), fun b nb => ?_⟩⟩
      have hca4 := chainAt_sameX hca hc d3 s4
      have s5 : Same H4 (upd H4 b (.tup [.ref t])) := same_upd (Same.refl H4) nb
      obtain ⟨xs, hxs, hst⟩ := hca4.same s5
      have hl := chainOk_len hc
      have hlx : xs.length ≤ 4 := by
        rw [hst.len, List.length_map]
        exact hl
      have d5 := keepD (o := .tup [.ref t]) d4 nb
      have ht5 : upd H4 b (.tup [.ref t]) t = some (.tup ys) := s5 _ _ ht
      have sX : SameX d H (upd H4 b (.tup [.ref t])) := (s3.trans s4).upd nb
      have hb5 : upd H4 b (.tup [.ref t]) b = some (.tup [.ref t]) := upd_same
      have stv : ∀ {H' : Hp}, Same (upd H4 b (.tup [.ref t])) H' → StepV K H' (.ref t) (some ys) := fun {H'} s => ⟨t, rfl, SqT.of (s _ _ ht5), fun y hy => strInt_nice (hy2 y hy)⟩
      -- what follows, for the longer tuple at m
      have fin : ∀ (D : Ends) (m : Addr) (H6 : Hp), Same (upd H4 b (.tup [.ref t])) H6 → ChainAt K H6 m (cs ++ [ys]) → Dice H6 d → SameX d H H6 →
          (∀ (a' : Addr) (cs' : List (List V)) (H7 : Hp), chainOk cs' = true → ChainAt K H7 a' cs' → Dice H7 d → SameX d H H7 → D.nx [some (.ref d), some (.int m0), some (.ref a'), some (.int (0 + i)), some (.ref m)] H7) →
          tAsg (tIf (tB (tCal (spIsChain K) E0 (tCons (tVar 4) tNil))) (tVar 4) (tVar 2)) (gName 2) D [some (.ref d), some (.int m0), some (.ref a), some (.int (0 + i)), some (.ref m)] H6 := by
        intro D m H6 s6 cm d6 sX6 go
        have cm' := cm.v
        refine ⟨_, rfl, .ref m, _, rfl, cm', fun H7 s7 => ⟨_, rfl, ?_⟩⟩
        show if chainOkL ((cs ++ [ys]).map some) = true then _ else _
        rw [chainOkL_some]
        refine ite2 (fun hok => ?_) (fun _ => ?_)
        · exact ⟨_, rfl, go m (cs ++ [ys]) H7 hok (cm.same s7) (d6.same s7) (sX6.trans (SameX.of s7))⟩
        · exact ⟨_, rfl, go a cs H7 hc ((hca4.same (Same.trans s5 s6)).same s7) (d6.same s7) (sX6.trans (SameX.of s7))⟩
      refine ⟨a, b, xs, [.ref t], rfl, rfl, hxs, SqT.of hb5, ?_, fun e => ?_, fun _ e => by simp at e, fun hx _ m nm => ?_⟩
      · show xs.length + 1 ≤ sizeLine
        exact Nat.le_of_lt (small1000 (by omega))
      · subst e
        refine fin _ b _ (Same.refl _) ⟨[.ref t], SqT.of hb5, ?_⟩ d5 sX (fun a' cs' H7 h1 h2 h3 h4 => ⟨a', cs', _, _, rfl, h1, h2, h3, h4⟩)
        have e0 : cs = [] := by
          have := hst.len
          rw [List.length_map] at this
          exact List.length_eq_zero_iff.mp this.symm
        subst e0
        exact Steps.snoc (xs := []) (os := []) hst (stv (Same.refl _))
      · have s6 := same_upd (o := .tup (xs ++ [.ref t])) (Same.refl (upd H4 b (.tup [.ref t]))) nm
        refine fin _ m _ s6 ⟨_, SqT.of upd_same, ?_⟩ (keepD d5 nm) (sX.upd nm) (fun a' cs' H7 h1 h2 h3 h4 => ⟨a', cs', _, _, rfl, h1, h2, h3, h4⟩)
        rw [List.map_append]
        exact (hst.same s6).snoc (stv s6)
    · rintro σ H3 ⟨a, cs, v3, v4, rfl, hc, hca, d3, s3⟩
      exact ⟨_, rfl, q a cs H3 hc hca d3 s3⟩
end
end FC
set_option Elab.async false
set_option linter.all false
set_option maxRecDepth 100000
set_option maxHeartbeats 4000000
namespace FC
open PySem PySem.Spec PyProof.Rows L2
structure Lib11 (P : Program) (w : World) (K : PySem.W.Frag) (mg : Str → Option Value) (base : Heap) (g f2 CE c0 c1 c2 c3 c4 c5 C fL fE : Addr) (fdg fd2 fdL fdE : FuncData) (TT : List (Addr × Str)) : Prop extends LibF P w K mg base g f2 CE c0 c1 c2 c3 c4 c5 C fL fE fdg fd2 fdL fdE where
  rounds : Cal P w K mg base CX0 2 "_law_rounds" ["_law_script", "_law_most"] (spRounds2 K)
  chain : Cal P w K mg base CX0 5 "_law_chain" ["_law_dice", "_law_most"] (spChain2 K)
  roll : Cal P w K mg base CX0 2 "_law_roll" ["_law_dice", "_law_many"] spRoll
  given : Cal P w K mg base CX0 2 "_law_given" ["_law_chain_here", "_law_row"] (spGiven K)
  lrun : Cal P w K mg base CX0 3 "_law_run" ["_law_chain_here", "_law_row"] (spRunL K)
  undo : MCal P w K mg base (L2N.CX P w) 5 C "undo" ["self"] (spUndo K C c5)
  redo : MCal P w K mg base (L2N.CX P w) 5 C "redo" ["self"] (spRedo K C c5)
  right : Cal P w K mg base CX0 10 "_law_right_feeds" ["_law_feed", "_law_chain_here", "_law_row"] (spRightF K C TT)
  one2 : OneT K c2 2 c0 c1 c2 c3 c4 c5
  em2 : PySem.W.exmOne K (.ref c2) (.ref CE) = some true
  one5 : OneT K c5 5 c0 c1 c2 c3 c4 c5
  em5 : PySem.W.exmOne K (.ref c5) (.ref CE) = some true
abbrev NL : List Str := ["_law_script", "_law_dice", "_law_chain_here", "_law_feed", "_law_row", "_law_undone", "_law_turn", "_law_kind", "_law_x", "_law_due", "_law_made"]
def qL : Str := "law" ++ ".<locals>." ++ "<lambda>"
def spLaw (K : PySem.W.Frag) (Pt Pt2 : Addr) : Sp := fun vs H Q _ => ∃ (a : Addr) (ns : List Int), vs = [.ref a] ∧ SqL K H a (ns.map V.int) ∧ ns.length ≤ 63 ∧ H Pt = some (.tbl #[]) ∧ H Pt2 = some (.tbl #[]) ∧ ∀ H', Q (.bl true) H'
/-- what stands in a round: chain, the law's row and numbers taken back, the feed -/
structure S11 (K : PySem.W.Frag) (C : Addr) (T : List (Addr × Str)) (t d : Addr) (ds : List Addr) (b a : Addr) (ps : List Stp) (F : FC5) (row und : List Int) (r u : Addr) (rw uw : List Int) (H : Hp) : Prop where
  rd : Rd T t d ds H
  ch : ChainAt K H b (ps.map Stp.v)
  co : chainOk (ps.map Stp.v) = true
  hr : SqT K H r (rw.map V.int)
  hu : H u = some (.lst (uw.map V.int))
  fd : FeedS K C H a F ps row und
  out : ∀ b ∈ F.cells a, b ≠ t ∧ b ∉ ds ∧ b ≠ u
  ud : u ≠ t ∧ u ∉ ds
section
variable {K : PySem.W.Frag} {C : Addr} {T : List (Addr × Str)} {t d : Addr} {ds : List Addr} {b a : Addr} {ps : List Stp} {F : FC5} {row und : List Int} {r u : Addr} {rw uw : List Int} {H H' : Hp}
theorem S11.step (w : S11 K C T t d ds b a ps F row und r u rw uw H) (s : Kp [d] H H') (hd : Dice H' d) (tb : LamX.Tabs T H') : S11 K C T t d ds b a ps F row und r u rw uw H' := by
  have pd : Plain [d] H := Plain.dice w.rd.d
  have nd : ∀ b, b ≠ d → b ∉ [d] := fun b h z => h (List.mem_singleton.mp z)
  have md := w.rd.me
  exact ⟨w.rd.step (fun b o h n m => s b o h (nd b n) m) hd tb, chain_kp s pd w.co w.ch, w.co, sqt_kp s pd w.hr, sql_kp s (nd _ (fun z => w.ud.2 (by rw [z]; exact md))) w.hu, w.fd.kp s pd (fun c hc => by rw [List.mem_singleton.mp hc]; exact fun z => (w.out d z).2.1 md), w.out, w.ud⟩
theorem S11.same (w : S11 K C T t d ds b a ps F row und r u rw uw H) (s : Same H H') : S11 K C T t d ds b a ps F row und r u rw uw H' := w.step (Kp.same s) (w.rd.d.same s) (w.rd.tb.ext s)
theorem S11.roll (w : S11 K C T t d ds b a ps F row und r u rw uw H) (s : SameX d H H') (hd : Dice H' d) : S11 K C T t d ds b a ps F row und r u rw uw H' := w.step (Kp.sameX s) hd (tabs_sameX w.rd.tb w.rd.d s)
theorem S11.ext (w : S11 K C T t d ds b a ps F row und r u rw uw H) (s : LamX.ExtN H H') (tb : LamX.Tabs T H') : S11 K C T t d ds b a ps F row und r u rw uw H' := by
  obtain ⟨x, y, e⟩ := w.rd.d
  exact w.step (Kp.ext s) ⟨x, y, s _ _ e (fun ps z => by cases z)⟩ tb
/-- another row and another list of numbers taken back: the list is new -/
theorem S11.put (w : S11 K C T t d ds b a ps F row und r u rw uw H) {r' u' : Addr} {rw' uw' : List Int} (hr : SqT K H r' (rw'.map V.int)) (nu : H u' = none) : S11 K C T t d ds b a ps F row und r' u' rw' uw' (upd H u' (.lst (uw'.map V.int))) := by
  have s := same_upd (o := .lst (uw'.map V.int)) (Same.refl H) nu
  have w1 := w.same s
  refine ⟨w1.rd, w1.ch, w1.co, sqt_same s hr, upd_same, w1.fd, fun c hc => ⟨(w.out c hc).1, (w.out c hc).2.1, fun z => ?_⟩, fun z => ?_, fun z => ?_⟩
  · rw [z] at hc
    rcases w.fd.plain u' hc with ⟨C, dx, gs, e⟩ | ⟨xs, e⟩ <;> rw [nu] at e <;> cases e
  · rw [z, w.rd.tl] at nu
    cases nu
  · obtain ⟨x, y, e⟩ := w.rd.all u' z
    rw [nu] at e
    cases e
/-- the feed has changed -/
theorem S11.meth (w : S11 K C T t d ds b a ps F row und r u rw uw H) {F' : FC5} {row' und' : List Int} (f' : FeedS K C H' a F' ps row' und') (fr : Frm (F.cells a) H H') (new : ∀ b ∈ F'.cells a, b ∈ F.cells a ∨ H b = none) : S11 K C T t d ds b a ps F' row' und' r u rw uw H' := by
  have pl := w.fd.plain
  refine ⟨w.rd.frm fr pl (fun z => (w.out t z).1 rfl) (fun c hc z => (w.out c z).2.1 hc), chain_kp (Kp.frm fr) pl w.co w.ch, w.co, sqt_kp (Kp.frm fr) pl w.hr, fr _ _ w.hu (fun z => (w.out u z).2.2 rfl), f', fun c hc => ?_, w.ud⟩
  rcases new c hc with z | z
  · exact w.out c z
  · refine ⟨fun w' => ?_, fun w' => ?_, fun w' => ?_⟩
    · rw [w', w.rd.tl] at z; cases z
    · obtain ⟨x, y, e⟩ := w.rd.all c w'
      rw [e] at z; cases z
    · rw [w', w.hu] at z; cases z
end
theorem lst_nil (ns : List Int) : PyData.eqv (.list (intsD ns)) (.list []) = ns.isEmpty := by
  cases ns <;> rfl
theorem nill_shaped : SeqAt.shaped (PyData.list []) = true := by decide
theorem snoc_of {α : Type} {l : List α} (h : l.isEmpty = false) : ∃ r x, l = r ++ [x] := by
  rcases List.eq_nil_or_concat l with z | ⟨r, x, z⟩
  · rw [z] at h
    cases h
  · exact ⟨r, x, by rw [z, List.concat_eq_append]⟩
theorem cat_sz1 {l : List Int} {v : V} (h : l.length ≤ 100) : (l.map V.int).length + [v].length ≤ sizeLine := by
  have hs9 : 1000 < sizeLine := by decide
  rw [List.length_map, List.length_singleton]
  omega
theorem bad_num (K : PySem.W.Frag) (j : Nat) : ∃ y, atI [V.non, .bl true, .int (10 ^ (30 : Int).toNat + 1), .str "1"] ((0 + (j : Int)) % 4) = some y ∧ (∀ H, Nice K H y) ∧ rowOkV y = false := by
  have h : (0 + (j : Int)) % 4 = 0 ∨ (0 + (j : Int)) % 4 = 1 ∨ (0 + (j : Int)) % 4 = 2 ∨ (0 + (j : Int)) % 4 = 3 := by omega
  rcases h with h | h | h | h <;> rw [h]
  · exact ⟨_, rfl, fun _ => Nice.non, rfl⟩
  · exact ⟨_, rfl, fun _ => Nice.bl _, rfl⟩
  · exact ⟨_, rfl, fun _ => Nice.int _, by decide +kernel⟩
  · exact ⟨_, rfl, fun _ => Nice.str _, rfl⟩
theorem kind_at {r : Int} (h0 : 0 ≤ r) (h1 : r < 6) : ∃ kind : Str, (kind = "put" ∨ kind = "undo" ∨ kind = "redo") ∧ atI [V.str "put", .str "undo", .str "redo", .str "put", .str "undo", .str "redo"] r = some (.str kind) := by
  have h : r = 0 ∨ r = 1 ∨ r = 2 ∨ r = 3 ∨ r = 4 ∨ r = 5 := by omega
  rcases h with h | h | h | h | h | h <;> subst h
  · exact ⟨_, .inl rfl, rfl⟩
  · exact ⟨_, .inr (.inl rfl), rfl⟩
  · exact ⟨_, .inr (.inr rfl), rfl⟩
  · exact ⟨_, .inl rfl, rfl⟩
  · exact ⟨_, .inr (.inl rfl), rfl⟩
  · exact ⟨_, .inr (.inr rfl), rfl⟩
section
variable {P : Program} {w : World} {K : PySem.W.Frag} {mg : Str → Option Value} {base : Heap}
theorem scLaw : FnScope NL ["_law_script"] (defScope sLaw) := ⟨rfl, rfl, rfl, by decide +kernel, rfl, by decide +kernel, by decide +kernel⟩
theorem ok_law {f c Pt Pt2 g f2 CE c0 c1 c2 c3 c4 c5 C fL fE : Addr} {fdg fd2 fdL fdE : FuncData} {dV kV doc pm ct oc : Value} {an od : Option Addr} {osl : Array (Option Value)} {TT : List (Addr × Str)} (eTT : TT = [(Pt, qL), (Pt2, qR)]) (hne : Pt ≠ Pt2) (B : Lib11 P w K mg base g f2 CE c0 c1 c2 c3 c4 c5 C fL fE fdg fd2 fdL fdE TT) (TB : LamX.TabB base mg c Pt)
    (lk : K.lookup f = some ⟨oc, od, .func (PySem.W.fnOf "law" "law" (defArgs sLaw) (defBody sLaw) (defScope sLaw) dV kV doc pm an (.ref c) ct), osl⟩) (hcd : PySem.W.codeIn K (.ref c) "law" = true) :
    FnOk P w K mg base CX0 12 f (PySem.W.fnOf "law" "law" (defArgs sLaw) (defBody sLaw) (defScope sLaw) dV kV doc pm an (.ref c) ct) ["_law_script"] (spLaw K Pt Pt2) := by
  refine fn_of lk hcd scLaw (fun vs H Q E h => ?_) (fun A outer s H vs Q E hr h => ?_)
  · obtain ⟨a, ns, rfl, _⟩ := h
    rfl
  · obtain ⟨sa, ns, rfl, ha, hl, hP, hP2, qq⟩ := h
    have nd := scLaw.nd
    have hr1 : Room 1 _ := hr.mono (by decide)
    have hr2 : Room 2 _ := hr.mono (by decide)
    have hr3 : Room 3 _ := hr.mono (by decide)
    have hr5 : Room 5 _ := hr.mono (by decide)
    have hr7 : Room 7 _ := hr.mono (by decide)
    have hr10 : Room 10 _ := hr.mono (by decide)
    have T := B.blt
    have hTm : (Pt, qL) ∈ TT := by rw [eTT]; exact List.mem_cons_self
    have hTu : ∀ p ∈ TT, p.1 = Pt → p.2 = qL := fun p hp e => by
      rw [eTT] at hp
      simp only [List.mem_cons, List.mem_nil_iff, or_false] at hp
      rcases hp with z | z
      · rw [z]
      · rw [z] at e
        exact absurd e.symm hne
    refine ⟨_, PSs.nox ((pss_cons (ps_for PassesOwn.never rfl (pi_list (pe_cal B.rounds hr2 pass0 (pa_cons (pv 0) (pa_cons pe_int pa_nil)))) (pg_name (i := 1) nd rfl (Or.inl rfl))
   (pss_cons (ps_set (i := 2) nd rfl (Or.inl rfl) (pe_cal B.chain hr5 pass0 (pa_cons (pv 1) (pa_cons pe_int pa_nil))))
    (pss_cons (ps_asg (pe_tup (pa_cons (pe_mkc B.make hr7 passN (pa_cons (pv 2) pa_nil)) (pa_cons (pe_tup pa_nil) (pa_cons (pe_lst pa_nil) pa_nil)))) (pg_tup rfl (pgs_cons (pg_name (i := 3) nd rfl (Or.inr rfl)) (pgs_cons (pg_name (i := 4) nd rfl (Or.inl rfl)) (pgs_cons (pg_name (i := 5) nd rfl (Or.inl rfl)) pgs_nil)))))
    (pss_cons (ps_for PassesOwn.never rfl (pi_range1 (by rfl) T.range (pa_cons pe_int pa_nil)) (pg_name (i := 6) nd rfl (Or.inr rfl))
   (pss_cons (ps_asg (pe_tup (pa_cons (pe_ix ix_list (pe_lst (pa_cons pe_str (pa_cons pe_str (pa_cons pe_str (pa_cons pe_str (pa_cons pe_str (pa_cons pe_str pa_nil))))))) (pe_cal B.roll hr2 pass0 (pa_cons (pv 1) (pa_cons pe_int pa_nil))) (fun _ _ => rfl)) (pa_cons (pe_op op_sub (pe_cal B.roll hr2 pass0 (pa_cons (pv 1) (pa_cons pe_int pa_nil))) pe_int) pa_nil))) (pg_tup rfl (pgs_cons (pg_name (i := 7) nd rfl (Or.inl rfl)) (pgs_cons (pg_name (i := 8) nd rfl (Or.inr rfl)) pgs_nil))))
    (pss_cons (ps_if (pt_cmpR op_eq (pv 7) pe_str (nomark _)) (pss_cons (ps_par (i := 4) (j := 5) (by rfl) nd rfl rfl (by decide) rfl rfl (pa_cons (pe_op op_catU (pv 4) (pe_tup (pa_cons (pv 8) pa_nil))) (pa_cons (pe_lst pa_nil) pa_nil)) (by rfl))
    (pss_cons (ps_set (i := 9) nd rfl (Or.inl rfl) (pe_ix ix_list (pe_cal B.given hr2 pass0 (pa_cons (pv 2) (pa_cons (pv 4) pa_nil))) (pe_un un_neg pe_int) (fun _ _ => rfl)))
    (pss_one (ps_set (i := 10) nd rfl (Or.inl rfl) (pe_told (k := 4) (T := TT) B.Fg B.bg B.mg_ rfl B.F2 B.m2 B.k2 B.b2 B.mE TB rfl hTm hTu hr7 (show LamX.LamS (defScope sLaw) _ from LamX.lamS_by (by decide +kernel)) rfl (fun _ _ _ _ _ => rfl)
          (fun A out s H E f c hr => (pe_mc B.put (pv 3) B.fdT.cl hr (L2N.passes_call (W := fun cls d _ H => E cls d H) (L2N.takes_of rfl rfl rfl rfl) (fun _ _ _ _ h => h)) (pa_cons (pv 8) pa_nil)))))))) (pss_one (ps_if (pt_cmpR op_eq (pv 7) pe_str (nomark _)) (pss_cons (ps_set (i := 9) nd rfl (Or.inl rfl) (pe_ifExp (pt_cmpR (op_eqD hr.units) (pv 4) (pe_tup pa_nil) (nomark _)) (pe_tup (pa_cons pe_str (pa_cons pe_str pa_nil))) (pe_ix ix_list (pe_cal B.given hr2 pass0 (pa_cons (pv 2) (pa_cons (pv 4) pa_nil))) (pe_un un_neg pe_int) (fun _ _ => rfl))))
    (pss_cons (ps_if (pt_cmpR (op_neD hr.units) (pv 4) (pe_tup pa_nil) (nomark _)) (pss_one (ps_par (i := 4) (j := 5) (by rfl) nd rfl rfl (by decide) rfl rfl (pa_cons (pe_slice sl_tupU (pv 4) po_none (po_some (pe_un un_neg pe_int))) (pa_cons (pe_op op_cat (pv 5) (pe_lst (pa_cons (pe_ix ix_tup (pv 4) (pe_un un_neg pe_int) (fun _ _ => rfl)) pa_nil))) pa_nil)) (by rfl))) pss_nil)
    (pss_one (ps_set (i := 10) nd rfl (Or.inl rfl) (pe_told (k := 4) (T := TT) B.Fg B.bg B.mg_ rfl B.F2 B.m2 B.k2 B.b2 B.mE TB rfl hTm hTu hr7 (show LamX.LamS (defScope sLaw) _ from LamX.lamS_by (by decide +kernel)) rfl (fun _ _ _ _ _ => rfl)
          (fun A out s H E f c hr => (pe_mc0 B.undo (pv 3) B.fdT.cl hr (L2N.passes_call (W := fun cls d _ H => E cls d H) (L2N.takes_of rfl rfl rfl rfl) (fun _ _ _ _ h => h))))))))) (pss_cons (ps_set (i := 9) nd rfl (Or.inl rfl) (pe_tup (pa_cons pe_str (pa_cons pe_str pa_nil))))
    (pss_cons (ps_if (pt_cmpR (op_neD hr.units) (pv 5) (pe_lst pa_nil) (nomark _)) (pss_cons (ps_par (i := 4) (j := 5) (by rfl) nd rfl rfl (by decide) rfl rfl (pa_cons (pe_op op_catU (pv 4) (pe_tup (pa_cons (pe_ix ix_list (pv 5) (pe_un un_neg pe_int) (fun _ _ => rfl)) pa_nil))) (pa_cons (pe_slice sl_list (pv 5) po_none (po_some (pe_un un_neg pe_int))) pa_nil)) (by rfl))
    (pss_one (ps_set (i := 9) nd rfl (Or.inl rfl) (pe_ix ix_list (pe_cal B.given hr2 pass0 (pa_cons (pv 2) (pa_cons (pv 4) pa_nil))) (pe_un un_neg pe_int) (fun _ _ => rfl))))) pss_nil)
    (pss_one (ps_set (i := 10) nd rfl (Or.inl rfl) (pe_told (k := 4) (T := TT) B.Fg B.bg B.mg_ rfl B.F2 B.m2 B.k2 B.b2 B.mE TB rfl hTm hTu hr7 (show LamX.LamS (defScope sLaw) _ from LamX.lamS_by (by decide +kernel)) rfl (fun _ _ _ _ _ => rfl)
          (fun A out s H E f c hr => (pe_mc0 B.redo (pv 3) B.fdT.cl hr (L2N.passes_call (W := fun cls d _ H => E cls d H) (L2N.takes_of rfl rfl rfl rfl) (fun _ _ _ _ h => h))))))))))))
    (pss_cons (ps_if (PW.pt (pw_or (pt_cmpR (op_neD hr.units) (pv 10) (pv 9) (nomark _)) (pw_or (pt_cmpR (op_neD hr.units) (pe_mc0 B.row (pv 3) B.fdT.cl hr1 pass0) (pv 4) (nomark _)) (pw_or1 (pt_cmpR op_ne (pe_callB (call_lenO B.lenF B.lenAt B.lenFn B.lenB pass0 hr2) (by rfl) T.len PySem.boot_len (pa_cons (pv 3) pa_nil)) (pe_callB call_len_seq (by rfl) T.len PySem.boot_len (pa_cons (pv 4) pa_nil)) (nomark _)))))) (pss_one (ps_ret pe_bl)) pss_nil)
    (pss_cons (ps_if (pt_cmpR (op_neD hr.units) (pe_mc0 B.fgiven (pv 3) B.fdT.cl hr1 pass0) (pe_cal B.lrun hr3 pass0 (pa_cons (pv 2) (pa_cons (pv 4) pa_nil))) (nomark _)) (pss_one (ps_ret pe_bl)) pss_nil)
    (pss_one (ps_if (pt_cmpR (op_neD hr.units) (pe_told (k := 4) (T := TT) B.Fg B.bg B.mg_ rfl B.F2 B.m2 B.k2 B.b2 B.mE TB rfl hTm hTu hr7 (show LamX.LamS (defScope sLaw) _ from LamX.lamS_by (by decide +kernel)) rfl (fun _ _ _ _ _ => rfl)
          (fun A out s H E f c hr => (pe_mc B.put (pv 3) B.fdT.cl hr (L2N.passes_call (W := fun cls d _ H => E cls d H) (L2N.takes_of rfl rfl rfl rfl) (fun _ _ _ _ h => h)) (pa_cons (pe_ix (r := rIxL K) ix_list (pe_lst (pa_cons pe_non (pa_cons pe_bl (pa_cons (pe_op op_add (pe_op op_pow pe_int pe_int) pe_int) (pa_cons pe_str pa_nil))))) (pe_op op_mod (pv 6) pe_int) (fun _ _ => rfl)) pa_nil)))) (pe_tup (pa_cons pe_str (pa_cons pe_str pa_nil))) (nomark _)) (pss_one (ps_ret pe_bl)) pss_nil)))))))
    (pss_one (ps_if (pt_not (pt_val (pe_cal B.right hr10 pass0 (pa_cons (pv 3) (pa_cons (pv 2) (pa_cons (pv 4) pa_nil)))))) (pss_one (ps_ret pe_bl)) pss_nil))))))
    (pss_one (ps_ret pe_bl)))), ?_⟩
    have cpow : CPow 10 30 := ⟨by decide, by decide, by decide⟩
    refine ⟨_, rfl, sa, ns, 3, rfl, by decide, by decide, ha, hl, fun t ds H1 s1 hds ht hall nt => ⟨t, rfl, ⟨_, SqL.of ht⟩, ?_⟩⟩
    have r1 : Rt TT t ds H1 := ⟨ht, fun c hc => (hall c hc).1, fun p hp => by
      rw [eTT] at hp
      simp only [List.mem_cons, List.mem_nil_iff, or_false] at hp
      rcases hp with z | z
      · rw [z]; exact LamX.TabS.nil (s1 _ _ hP)
      · rw [z]; exact LamX.TabS.nil (s1 _ _ hP2)⟩
    refine for_list (K := K) (a := t) (xs := ds.map V.ref) (fun i σ H2 => (∃ v1 v2 v3 v4 v5 v6 v7 v8 v9 v10 : Option V, σ = [some (.ref sa), v1, v2, v3, v4, v5, v6, v7, v8, v9, v10]) ∧ Rt TT t ds H2)
      ⟨⟨_, _, _, _, _, _, _, _, _, _, rfl⟩, r1⟩ (fun i σ H2 _ ⟨_, r⟩ => SqL.of r.tl) ?_ ?_
    · clear r1 hall nt s1 ht ha hP hP2 hds H1
      rintro i x σ H2 hx ⟨⟨v1, v2, v3, v4, v5, v6, v7, v8, v9, v10, rfl⟩, r2⟩
      obtain ⟨d, hd, rfl⟩ : ∃ d, d ∈ ds ∧ x = .ref d := by
        obtain ⟨d, hd, e⟩ := List.mem_map.mp (List.mem_of_getElem? hx)
        exact ⟨d, hd, e.symm⟩
      have d2 := r2.rd hd
      refine ⟨_, rfl, d, 4, rfl, by decide, by decide, d2.d, fun b0 cs0 H3 hc0 hca dd3 s3 => ?_⟩
      have d3 := d2.roll s3 dd3
      obtain ⟨ps, rfl, hok⟩ := stps_of (chainOk_steps hc0)
      have hp4 : ps.length ≤ 4 := by
        have := chainOk_len hc0
        rw [List.length_map] at this
        exact this
      clear s3 dd3 d2 r2 hx
      -- the feed
      refine ⟨_, rfl, fun a dx nx ndx _ => ⟨a, dx, _, rfl, upd_same, .inr ⟨b0, ps, rfl, hca.same (made_ch nx ndx), hc0, fun H4 F f4 _ fr4 new4 => ⟨rfl, ?_⟩⟩⟩⟩
      obtain ⟨s4, free4⟩ := made_same nx ndx fr4 new4
      refine ⟨(by show 0 ≤ sizeLine; decide), fun r nr => ⟨(by show 0 ≤ sizeLine; decide), fun u nu => ⟨(by show 3 ≤ sizeLine; decide), fun tt ntt => ⟨tt, _, rfl, SqT.of upd_same, rfl, _, _, rfl, _, _, rfl, _, _, rfl, rfl, ?_⟩⟩⟩⟩
      have u1 := same_upd (o := .tup []) (Same.refl H4) nr
      have u2 := same_upd (o := .lst []) (Same.refl _) nu
      have u3 := same_upd (o := .tup [V.ref a, .ref r, .ref u]) (Same.refl _) ntt
      have W0 : S11 K C TT t d ds b0 a ps F [] [] r u [] [] (upd (upd (upd H4 r (.tup [])) u (.lst [])) tt (.tup [V.ref a, .ref r, .ref u])) := by
        have s45 := Same.trans (Same.trans (Same.trans s4 u1) u2) u3
        have nu3 : H3 u = none := by
          cases q : H3 u with
          | none => rfl
          | some o => rw [u1 _ _ (s4 _ _ q)] at nu; cases nu
        refine ⟨d3.same s45, hca.same s45, hc0, sqt_same u3 (sqt_same u2 sqt_new), u3 _ _ upd_same, ((f4.same u1).same u2).same u3, fun c hc => ?_, fun z => ?_, fun z => ?_⟩
        · have h := free4 c hc
          refine ⟨fun z => ?_, fun z => ?_, fun z => ?_⟩
          · rw [z, d3.tl] at h; cases h
          · obtain ⟨y1, y2, e⟩ := d3.all c z
            rw [e] at h; cases h
          · rw [z] at hc
            rcases ((f4.same u1).plain u hc) with ⟨C, dx, gs, e⟩ | ⟨xs, e⟩ <;> rw [nu] at e <;> cases e
        · rw [z, d3.tl] at nu3; cases nu3
        · obtain ⟨y1, y2, e⟩ := d3.all u z
          rw [e] at nu3; cases nu3
      generalize upd (upd (upd H4 r (.tup [])) u (.lst [])) tt (.tup [V.ref a, .ref r, .ref u]) = H5 at W0 ⊢
      clear u1 u2 u3 nr nu ntt s4 free4 fr4 new4 f4 nx ndx hca d3
      refine ⟨10, rfl, by decide, by decide, for_range (lo := 0) (n := 10) (fun j σ H8 => ∃ (F : FC5) (row und : List Int) (r u : Addr) (v6 v7 v8 v9 v10 : Option V), σ = [some (.ref sa), some (.ref d), some (.ref b0), some (.ref a), some (.ref r), some (.ref u), v6, v7, v8, v9, v10] ∧ S11 K C TT t d ds b0 a ps F row und r u row und H8 ∧ row.length ≤ j ∧ und.length ≤ j ∧ (∀ x ∈ row, rowOkV (.int x) = true) ∧ ∀ x ∈ und, rowOkV (.int x) = true)
        ⟨_, _, _, _, _, _, _, _, _, _, rfl, W0, Nat.le_refl _, Nat.le_refl _, fun x hx => (by cases hx), fun x hx => (by cases hx)⟩ ?_ ?_⟩
      · clear W0
        rintro j σ H8 hj ⟨F, row, und, r, u, v6, v7, v8, v9, v10, rfl, W, hl1, hl2, hb, hb'⟩
        refine ⟨(by show 6 ≤ sizeLine; decide), fun l nl => ?_⟩
        have sl := same_upd (o := .lst [V.str "put", .str "undo", .str "redo", .str "put", .str "undo", .str "redo"]) (Same.refl H8) nl
        have el : upd H8 l (.lst [V.str "put", .str "undo", .str "redo", .str "put", .str "undo", .str "redo"]) l = some (.lst [V.str "put", .str "undo", .str "redo", .str "put", .str "undo", .str "redo"]) := upd_same
        replace W := W.same sl
        have nld : l ≠ d := fun z => by
          obtain ⟨x, y, e⟩ := W.rd.d
          rw [← z, el] at e
          cases e
        generalize upd H8 l (.lst [V.str "put", .str "undo", .str "redo", .str "put", .str "undo", .str "redo"]) = H9 at W el ⊢
        refine ⟨_, rfl, d, 6, rfl, W.rd.d, by decide, by decide, fun r6 H10 r60 r61 dd1 s1 => ?_⟩
        replace W := W.roll s1 dd1
        obtain ⟨kind, hkind, hat⟩ := kind_at r60 r61
        refine ⟨l, _, r6, .str kind, rfl, rfl, SqL.of (s1 _ _ el nld), hat, _, rfl, d, 41, rfl, W.rd.d, by decide, by decide, fun r41 H11 r410 r411 dd2 s2 => ?_⟩
        replace W := W.roll s2 dd2
        refine ⟨_, _, rfl, rfl, (by show 2 ≤ sizeLine; decide), fun tt ntt => ⟨tt, _, rfl, SqT.of upd_same, rfl, _, _, rfl, _, _, rfl, rfl, ?_⟩⟩
        replace W := W.same (same_upd (o := .tup [V.str kind, .int (r41 - 20)]) (Same.refl H11) ntt)
        generalize upd H11 tt (.tup [V.str kind, .int (r41 - 20)]) = H12 at W ⊢
        clear sl el nld s1 dd1 s2 dd2 ntt nl hat
        have hx1 : rowOkV (.int (r41 - 20)) = true := by
          show (decide (-1000000000000000000000000000000 ≤ r41 - 20) && decide (r41 - 20 ≤ 1000000000000000000000000000000)) = true
          rw [decide_eq_true (by omega), decide_eq_true (by omega)]
          rfl
        rcases hkind with rfl | rfl | rfl
        · refine ⟨_, rfl, rfl, _, rfl, eqT rfl ?_⟩
          refine ⟨_, rfl, _, rfl, (by show 1 ≤ sizeLine; decide), fun e1 ne1 => ?_⟩
          have se := same_upd (o := .tup [V.int (r41 - 20)]) (Same.refl _) ne1
          have he1 := sqt_new (K := K) (H := H12) (a := e1) (xs := [V.int (r41 - 20)])
          replace W := W.same se
          refine ⟨r, e1, _, _, rfl, rfl, W.hr, he1, (cat_sz1 (by omega)), fun r9 H13 s13 hr9 => ⟨(by show 0 ≤ sizeLine; decide), fun u9 nu9 => ⟨_, _, rfl, ?_⟩⟩⟩
          rw [show (row.map V.int ++ [V.int (r41 - 20)]) = (row ++ [r41 - 20]).map V.int by rw [List.map_append]; rfl] at hr9
          replace W : S11 K C TT t d ds b0 a ps F row und r9 u9 (row ++ [r41 - 20]) [] (upd H13 u9 (.lst [])) := (W.same s13).put (uw' := []) hr9 nu9
          generalize upd H13 u9 (.lst []) = H14 at W ⊢
          clear se he1 s13 hr9 nu9 ne1
          refine ⟨_, rfl, _, rfl, b0, r9, ps, row ++ [r41 - 20], rfl, stps_at W.ch, hok, hp4, W.hr, (by rw [List.length_append, List.length_singleton]; omega), fun l qs H15 s15 nl el hts => ?_⟩
          replace W := W.same s15
          obtain ⟨q8, qd, eqs, hqd⟩ := given_last hts
          refine ⟨_, rfl, l, _, _, .ref qd, rfl, rfl, SqL.of el, (by rw [eqs, List.map_append]; exact atI_last _ _), ?_⟩
          clear el hts s15 nl
          refine ⟨W.rd.tb, fun H16 e16 t16 => ?_⟩
          replace W := W.ext e16 t16
          replace hqd : SqT K H16 qd ((newM ps row [r41 - 20]).map V.int) := sqt_kp (L := []) (Kp.ext e16) (fun b hb => absurd hb (by simp)) (SqT.of hqd)
          obtain ⟨dx, hi⟩ := W.fd.ins
          refine ⟨_, rfl, a, dx, _, rfl, hi, rfl, _, rfl, a, .int (r41 - 20), F, ps, row, und, rfl, Nice.int _, W.fd, hok, hp4, by omega, .inr (.inr ⟨r41 - 20, rfl, hx1, by omega, fun g H17 F9 f' fr' new _ hg => ?_⟩)⟩
          replace hqd := sqt_kp (Kp.frm fr') W.fd.plain hqd
          replace W := W.meth f' fr' new
          clear f' fr' new
          obtain ⟨dd, edd⟩ : ∃ dd, dd = PyData.tuple (intsD (newM ps row [r41 - 20])) := ⟨_, rfl⟩
          have hsh : SeqAt.shaped dd = true := by rw [edd]; exact tp_shaped _
          have hg := tp_dp hg
          have hqd := tp_dp hqd
          rw [← edd] at hg hqd
          clear edd
          have hl9 : (row ++ [r41 - 20]).length ≤ j + 1 := by rw [List.length_append, List.length_singleton]; omega
          have hl9' : ([] : List Int).length ≤ j + 1 := Nat.zero_le _
          have hb9 : ∀ x ∈ row ++ [r41 - 20], rowOkV (.int x) = true := fun x hx => by
            rcases List.mem_append.mp hx with z | z
            · exact hb x z
            · rw [List.mem_singleton.mp z]; exact hx1
          have hb9' : ∀ x ∈ ([] : List Int), rowOkV (.int x) = true := fun x hx => by cases hx
          generalize row ++ [r41 - 20] = row9 at W hl9 hb9
          generalize ([] : List Int) = und9 at W hl9' hb9'
          -- made != due or ..
          refine ⟨_, rfl, _, rfl, dd, dd, hg, hqd, hsh, hsh, _, rfl, ifEqvT (SeqAt.eqv_refl _ (SeqAt.canLay_of_shaped hsh)) ?_⟩
          clear hg hqd hsh
          obtain ⟨dx1, hi1⟩ := W.fd.ins
          refine ⟨_, rfl, a, dx1, _, rfl, hi1, rfl, a, F9, ps, row9, und9, rfl, W.fd, fun t1 H16 s16 e16 => ?_⟩
          replace W := W.same s16
          refine ⟨_, rfl, .tuple (intsD row9), .tuple (intsD row9), tp_dp (SqT.of e16), tp_dp W.hr, tp_shaped _, tp_shaped _, _, rfl, ifEqvT (tp_refl _) ?_⟩
          clear s16 e16 hi1
          obtain ⟨dx1, hi1⟩ := W.fd.ins
          refine ⟨_, rfl, a, dx1, _, rfl, hi1, a, F9, ps, row9, und9, rfl, W.fd, row9.length, rfl, by omega, ?_⟩
          refine ⟨_, rfl, r9, _, rfl, .inr W.hr, rfl, _, rfl, neF (by rw [List.length_map]) ?_⟩
          refine ⟨_, rfl, a, dx1, _, rfl, hi1, rfl, a, F9, ps, row9, und9, rfl, W.fd, hp4, by omega, fun t1 H17 s17 e17 => ?_⟩
          replace W := W.same s17
          refine ⟨_, rfl, _, rfl, b0, r9, ps, row9, rfl, stps_at W.ch, hok, hp4, W.hr, by omega, fun t2 H18 s18 ht2 => ?_⟩
          refine ⟨.tuple (intsD (runM ps row9)), .tuple (intsD (runM ps row9)), tp_dp (sqt_same s18 (SqT.of e17)), tp_dp ht2, tp_shaped _, tp_shaped _, _, rfl, ifEqvT (tp_refl _) ?_⟩
          replace W := W.same s18
          clear hi1 s17 e17 s18 ht2
          -- what is no number is refused
          obtain ⟨yb, hyb, hny, hrv⟩ := bad_num K j
          refine ⟨W.rd.tb, fun H19 e19 t19 => ?_⟩
          replace W := W.ext e19 t19
          obtain ⟨dx1, hi1⟩ := W.fd.ins
          refine ⟨_, rfl, a, dx1, _, rfl, hi1, rfl, _, _, rfl, rfl, cpow, _, _, rfl, rfl, (by show 4 ≤ sizeLine; decide), fun lb nlb => ?_⟩
          have sl := same_upd (o := .lst [V.non, .bl true, .int (10 ^ (30 : Int).toNat + 1), .str "1"]) (Same.refl H19) nlb
          have elb : upd H19 lb (.lst [V.non, .bl true, .int (10 ^ (30 : Int).toNat + 1), .str "1"]) lb = some (.lst [V.non, .bl true, .int (10 ^ (30 : Int).toNat + 1), .str "1"]) := upd_same
          replace W := W.same sl
          refine ⟨_, rfl, _, _, rfl, rfl, (by show (0 : Int) < 4; decide), lb, _, _, yb, rfl, rfl, SqL.of elb, hyb, a, yb, F9, ps, row9, und9, rfl, hny _, W.fd, hok, hp4, by omega, .inl ⟨hrv, fun H20 s20 => ⟨c2, 2, "InvalidNumber", rfl, rfl, B.em2, B.one2, rfl, fun t21 H21 s21 e21 => ?_⟩⟩⟩
          replace W := (W.same s20).same s21
          refine ⟨(by show 2 ≤ sizeLine; decide), fun p np => ?_⟩
          have sp := same_upd (o := .tup [.str "error", .str "InvalidNumber"]) (Same.refl H21) np
          have esh := erd_shaped "InvalidNumber" (by decide +kernel)
          refine ⟨errData "InvalidNumber", errData "InvalidNumber", err_dp (sp _ _ e21), err_dp upd_same, esh, esh, _, rfl, ifEqvT (SeqAt.eqv_refl _ (SeqAt.canLay_of_shaped esh)) ?_⟩
          exact ⟨F9, row9, und9, r9, u9, _, _, _, _, _, rfl, W.same sp, hl9, hl9', hb9, hb9'⟩
        · refine ⟨_, rfl, rfl, _, rfl, eqF (show V.str "undo" ≠ V.str "put" by decide +kernel) ?_⟩
          refine ⟨_, rfl, rfl, _, rfl, eqT rfl ?_⟩
          refine ⟨_, rfl, (by show 0 ≤ sizeLine; decide), fun e0 ne0 => ?_⟩
          have se := same_upd (o := .tup []) (Same.refl _) ne0
          replace W := W.same se
          refine ⟨.tuple (intsD row), .tuple [], tp_dp W.hr, .tup sqt_new .nil, tp_shaped _, nil_shaped, _, rfl, ?_⟩
          rw [tp_nil]
          generalize upd H12 e0 (.tup []) = HY at W ⊢
          clear se ne0
          cases hE : row.isEmpty with
          | true =>
            have en : row = [] := List.isEmpty_iff.mp hE
            refine iteT ⟨(by show 2 ≤ sizeLine; decide), fun p np => ?_⟩
            have sp := same_upd (o := .tup [.str "error", .str "NothingToUndo"]) (Same.refl HY) np
            have ep : upd HY p (.tup [V.str "error", .str "NothingToUndo"]) p = some (.tup [.str "error", .str "NothingToUndo"]) := upd_same
            replace W := W.same sp
            generalize upd HY p (.tup [V.str "error", .str "NothingToUndo"]) = HZ at W ep ⊢
            clear sp np
            refine ⟨_, rfl, (by show 0 ≤ sizeLine; decide), fun e0 ne0 => ?_⟩
            have se := same_upd (o := .tup []) (Same.refl HZ) ne0
            replace W := W.same se
            refine ⟨.tuple (intsD row), .tuple [], tp_dp W.hr, .tup sqt_new .nil, tp_shaped _, nil_shaped, _, rfl, ?_⟩
            rw [tp_nil, hE]
            refine iteF ?_
            replace ep := se _ _ ep
            refine ⟨W.rd.tb, fun H16 e16 t16 => ?_⟩
            replace W := W.ext e16 t16
            replace ep := e16 _ _ ep (fun ps z => by cases z)
            obtain ⟨dx, hi⟩ := W.fd.ins
            refine ⟨_, rfl, a, dx, _, rfl, hi, rfl, a, F, ps, row, und, rfl, W.fd, by omega, by omega, .inl ⟨en, fun H20 s20 => ⟨c5, 5, "NothingToUndo", rfl, rfl, B.em5, B.one5, rfl, fun t21 H21 s21 e21 => ?_⟩⟩⟩
            replace W := (W.same s20).same s21
            replace ep := s21 _ _ (s20 _ _ ep)
            have hsh := erd_shaped "NothingToUndo" (by decide +kernel)
            have hqd := err_dp (K := K) ep
            have hg := err_dp (K := K) e21
            generalize errData "NothingToUndo" = dd at hsh hqd hg
            have hl9 : row.length ≤ j + 1 := by omega
            have hl9' : und.length ≤ j + 1 := by omega
            have hb9 := hb
            have hb9' := hb'
            obtain ⟨F9, eF⟩ : ∃ F9, F9 = F := ⟨_, rfl⟩
            obtain ⟨row9, eR⟩ : ∃ row9, row9 = row := ⟨_, rfl⟩
            obtain ⟨und9, eU⟩ : ∃ und9, und9 = und := ⟨_, rfl⟩
            obtain ⟨r9, er9⟩ : ∃ r9, r9 = r := ⟨_, rfl⟩
            obtain ⟨u9, eu9⟩ : ∃ u9, u9 = u := ⟨_, rfl⟩
            rw [← eR] at hl9 hb9
            rw [← eU] at hl9' hb9'
            rw [← eF, ← eR, ← eU, ← er9, ← eu9] at W
            rw [← er9, ← eu9]
            -- made != due or ..
            refine ⟨_, rfl, _, rfl, dd, dd, hg, hqd, hsh, hsh, _, rfl, ifEqvT (SeqAt.eqv_refl _ (SeqAt.canLay_of_shaped hsh)) ?_⟩
            clear hg hqd hsh
            obtain ⟨dx1, hi1⟩ := W.fd.ins
            refine ⟨_, rfl, a, dx1, _, rfl, hi1, rfl, a, F9, ps, row9, und9, rfl, W.fd, fun t1 H16 s16 e16 => ?_⟩
            replace W := W.same s16
            refine ⟨_, rfl, .tuple (intsD row9), .tuple (intsD row9), tp_dp (SqT.of e16), tp_dp W.hr, tp_shaped _, tp_shaped _, _, rfl, ifEqvT (tp_refl _) ?_⟩
            clear s16 e16 hi1
            obtain ⟨dx1, hi1⟩ := W.fd.ins
            refine ⟨_, rfl, a, dx1, _, rfl, hi1, a, F9, ps, row9, und9, rfl, W.fd, row9.length, rfl, by omega, ?_⟩
            refine ⟨_, rfl, r9, _, rfl, .inr W.hr, rfl, _, rfl, neF (by rw [List.length_map]) ?_⟩
            refine ⟨_, rfl, a, dx1, _, rfl, hi1, rfl, a, F9, ps, row9, und9, rfl, W.fd, hp4, by omega, fun t1 H17 s17 e17 => ?_⟩
            replace W := W.same s17
            refine ⟨_, rfl, _, rfl, b0, r9, ps, row9, rfl, stps_at W.ch, hok, hp4, W.hr, by omega, fun t2 H18 s18 ht2 => ?_⟩
            refine ⟨.tuple (intsD (runM ps row9)), .tuple (intsD (runM ps row9)), tp_dp (sqt_same s18 (SqT.of e17)), tp_dp ht2, tp_shaped _, tp_shaped _, _, rfl, ifEqvT (tp_refl _) ?_⟩
            replace W := W.same s18
            clear hi1 s17 e17 s18 ht2
            -- what is no number is refused
            obtain ⟨yb, hyb, hny, hrv⟩ := bad_num K j
            refine ⟨W.rd.tb, fun H19 e19 t19 => ?_⟩
            replace W := W.ext e19 t19
            obtain ⟨dx1, hi1⟩ := W.fd.ins
            refine ⟨_, rfl, a, dx1, _, rfl, hi1, rfl, _, _, rfl, rfl, cpow, _, _, rfl, rfl, (by show 4 ≤ sizeLine; decide), fun lb nlb => ?_⟩
            have sl := same_upd (o := .lst [V.non, .bl true, .int (10 ^ (30 : Int).toNat + 1), .str "1"]) (Same.refl H19) nlb
            have elb : upd H19 lb (.lst [V.non, .bl true, .int (10 ^ (30 : Int).toNat + 1), .str "1"]) lb = some (.lst [V.non, .bl true, .int (10 ^ (30 : Int).toNat + 1), .str "1"]) := upd_same
            replace W := W.same sl
            refine ⟨_, rfl, _, _, rfl, rfl, (by show (0 : Int) < 4; decide), lb, _, _, yb, rfl, rfl, SqL.of elb, hyb, a, yb, F9, ps, row9, und9, rfl, hny _, W.fd, hok, hp4, by omega, .inl ⟨hrv, fun H20 s20 => ⟨c2, 2, "InvalidNumber", rfl, rfl, B.em2, B.one2, rfl, fun t21 H21 s21 e21 => ?_⟩⟩⟩
            replace W := (W.same s20).same s21
            refine ⟨(by show 2 ≤ sizeLine; decide), fun p np => ?_⟩
            have sp := same_upd (o := .tup [.str "error", .str "InvalidNumber"]) (Same.refl H21) np
            have esh := erd_shaped "InvalidNumber" (by decide +kernel)
            refine ⟨errData "InvalidNumber", errData "InvalidNumber", err_dp (sp _ _ e21), err_dp upd_same, esh, esh, _, rfl, ifEqvT (SeqAt.eqv_refl _ (SeqAt.canLay_of_shaped esh)) ?_⟩
            exact ⟨F9, row9, und9, r9, u9, _, _, _, _, _, rfl, W.same sp, hl9, hl9', hb9, hb9'⟩
          | false =>
            refine iteF ?_
            obtain ⟨r0, x, er⟩ := snoc_of hE
            subst er
            rw [List.length_append, List.length_singleton] at hl1
            refine ⟨_, rfl, _, rfl, b0, r, ps, r0 ++ [x], rfl, stps_at W.ch, hok, hp4, W.hr, (by rw [List.length_append, List.length_singleton]; omega), fun l qs H15 s15 nl el hts => ?_⟩
            replace W := W.same s15
            obtain ⟨q8, qd, eqs, hqd⟩ := given_last hts
            refine ⟨_, rfl, l, _, _, .ref qd, rfl, rfl, SqL.of el, (by rw [eqs, List.map_append]; exact atI_last _ _), ?_⟩
            clear el hts s15 nl
            refine ⟨_, rfl, (by show 0 ≤ sizeLine; decide), fun e0 ne0 => ?_⟩
            have se := same_upd (o := .tup []) (Same.refl H15) ne0
            replace W := W.same se
            refine ⟨.tuple (intsD (r0 ++ [x])), .tuple [], tp_dp W.hr, .tup sqt_new .nil, tp_shaped _, nil_shaped, _, rfl, ?_⟩
            rw [tp_nil, hE]
            refine iteT ?_
            replace hqd := se _ _ hqd
            generalize upd H15 e0 (.tup []) = HZ at W hqd ⊢
            clear se ne0
            refine ⟨_, rfl, _, rfl, _, rfl, r, _, rfl, W.hr, fun r9 H16 s16 hr9 => ?_⟩
            rw [cut_last] at hr9
            replace W := W.same s16
            replace hqd := s16 _ _ hqd
            refine ⟨_, rfl, _, rfl, _, rfl, r, _, _, .int x, rfl, rfl, W.hr, (by rw [List.map_append]; exact atI_last _ _), (by show 1 ≤ sizeLine; decide), fun l1 nl1 => ?_⟩
            have sl := same_upd (o := .lst [V.int x]) (Same.refl H16) nl1
            have el1 : upd H16 l1 (.lst [V.int x]) l1 = some (.lst [V.int x]) := upd_same
            replace W := W.same sl
            replace hqd := sl _ _ hqd
            replace hr9 := sqt_same sl hr9
            generalize upd H16 l1 (.lst [V.int x]) = H17 at W hqd hr9 el1 ⊢
            refine ⟨u, l1, _, _, rfl, rfl, W.hu, el1, (cat_sz1 (by omega)), fun u9 nu9 => ⟨_, _, rfl, ?_⟩⟩
            rw [show (und.map V.int ++ [V.int x]) = (und ++ [x]).map V.int by rw [List.map_append]; rfl]
            replace hqd := (same_upd (o := .lst ((und ++ [x]).map V.int)) (Same.refl H17) nu9) _ _ hqd
            replace W := W.put (uw' := und ++ [x]) hr9 nu9
            generalize upd H17 u9 (.lst ((und ++ [x]).map V.int)) = H18 at W hqd ⊢
            clear sl el1 hr9 nu9 nl1 s16
            refine ⟨W.rd.tb, fun H19 e19 t19 => ?_⟩
            replace W := W.ext e19 t19
            replace hqd : SqT K H19 qd ((newM ps r0 [x]).map V.int) := sqt_kp (L := []) (Kp.ext e19) (fun b hb => absurd hb (by simp)) (SqT.of hqd)
            obtain ⟨dx, hi⟩ := W.fd.ins
            refine ⟨_, rfl, a, dx, _, rfl, hi, rfl, a, F, ps, r0 ++ [x], und, rfl, W.fd, (by rw [List.length_append, List.length_singleton]; omega), by omega, .inr ⟨r0, x, rfl, fun g H20 F9 f' fr' new _ hg => ?_⟩⟩
            replace hqd := sqt_kp (Kp.frm fr') W.fd.plain hqd
            replace W := W.meth f' fr' new
            clear f' fr' new
            obtain ⟨dd, edd⟩ : ∃ dd, dd = PyData.tuple (intsD (newM ps r0 [x])) := ⟨_, rfl⟩
            have hsh : SeqAt.shaped dd = true := by rw [edd]; exact tp_shaped _
            have hg := tp_dp hg
            have hqd := tp_dp hqd
            rw [← edd] at hg hqd
            clear edd
            have hl9 : r0.length ≤ j + 1 := by omega
            have hl9' : (und ++ [x]).length ≤ j + 1 := by rw [List.length_append, List.length_singleton]; omega
            have hb9 : ∀ x ∈ r0, rowOkV (.int x) = true := fun y hy => hb y (List.mem_append.mpr (.inl hy))
            have hb9' : ∀ z ∈ und ++ [x], rowOkV (.int z) = true := fun y hy => by
              rcases List.mem_append.mp hy with z | z
              · exact hb' y z
              · rw [List.mem_singleton.mp z]; exact hb x (List.mem_append.mpr (.inr (by simp)))
            generalize und ++ [x] = und9 at W hl9' hb9'
            generalize r0 = row9 at W hl9 hb9
            -- made != due or ..
            refine ⟨_, rfl, _, rfl, dd, dd, hg, hqd, hsh, hsh, _, rfl, ifEqvT (SeqAt.eqv_refl _ (SeqAt.canLay_of_shaped hsh)) ?_⟩
            clear hg hqd hsh
            obtain ⟨dx1, hi1⟩ := W.fd.ins
            refine ⟨_, rfl, a, dx1, _, rfl, hi1, rfl, a, F9, ps, row9, und9, rfl, W.fd, fun t1 H16 s16 e16 => ?_⟩
            replace W := W.same s16
            refine ⟨_, rfl, .tuple (intsD row9), .tuple (intsD row9), tp_dp (SqT.of e16), tp_dp W.hr, tp_shaped _, tp_shaped _, _, rfl, ifEqvT (tp_refl _) ?_⟩
            clear s16 e16 hi1
            obtain ⟨dx1, hi1⟩ := W.fd.ins
            refine ⟨_, rfl, a, dx1, _, rfl, hi1, a, F9, ps, row9, und9, rfl, W.fd, row9.length, rfl, by omega, ?_⟩
            refine ⟨_, rfl, r9, _, rfl, .inr W.hr, rfl, _, rfl, neF (by rw [List.length_map]) ?_⟩
            refine ⟨_, rfl, a, dx1, _, rfl, hi1, rfl, a, F9, ps, row9, und9, rfl, W.fd, hp4, by omega, fun t1 H17 s17 e17 => ?_⟩
            replace W := W.same s17
            refine ⟨_, rfl, _, rfl, b0, r9, ps, row9, rfl, stps_at W.ch, hok, hp4, W.hr, by omega, fun t2 H18 s18 ht2 => ?_⟩
            refine ⟨.tuple (intsD (runM ps row9)), .tuple (intsD (runM ps row9)), tp_dp (sqt_same s18 (SqT.of e17)), tp_dp ht2, tp_shaped _, tp_shaped _, _, rfl, ifEqvT (tp_refl _) ?_⟩
            replace W := W.same s18
            clear hi1 s17 e17 s18 ht2
            -- what is no number is refused
            obtain ⟨yb, hyb, hny, hrv⟩ := bad_num K j
            refine ⟨W.rd.tb, fun H19 e19 t19 => ?_⟩
            replace W := W.ext e19 t19
            obtain ⟨dx1, hi1⟩ := W.fd.ins
            refine ⟨_, rfl, a, dx1, _, rfl, hi1, rfl, _, _, rfl, rfl, cpow, _, _, rfl, rfl, (by show 4 ≤ sizeLine; decide), fun lb nlb => ?_⟩
            have sl := same_upd (o := .lst [V.non, .bl true, .int (10 ^ (30 : Int).toNat + 1), .str "1"]) (Same.refl H19) nlb
            have elb : upd H19 lb (.lst [V.non, .bl true, .int (10 ^ (30 : Int).toNat + 1), .str "1"]) lb = some (.lst [V.non, .bl true, .int (10 ^ (30 : Int).toNat + 1), .str "1"]) := upd_same
            replace W := W.same sl
            refine ⟨_, rfl, _, _, rfl, rfl, (by show (0 : Int) < 4; decide), lb, _, _, yb, rfl, rfl, SqL.of elb, hyb, a, yb, F9, ps, row9, und9, rfl, hny _, W.fd, hok, hp4, by omega, .inl ⟨hrv, fun H20 s20 => ⟨c2, 2, "InvalidNumber", rfl, rfl, B.em2, B.one2, rfl, fun t21 H21 s21 e21 => ?_⟩⟩⟩
            replace W := (W.same s20).same s21
            refine ⟨(by show 2 ≤ sizeLine; decide), fun p np => ?_⟩
            have sp := same_upd (o := .tup [.str "error", .str "InvalidNumber"]) (Same.refl H21) np
            have esh := erd_shaped "InvalidNumber" (by decide +kernel)
            refine ⟨errData "InvalidNumber", errData "InvalidNumber", err_dp (sp _ _ e21), err_dp upd_same, esh, esh, _, rfl, ifEqvT (SeqAt.eqv_refl _ (SeqAt.canLay_of_shaped esh)) ?_⟩
            exact ⟨F9, row9, und9, r9, u9, _, _, _, _, _, rfl, W.same sp, hl9, hl9', hb9, hb9'⟩
        · refine ⟨_, rfl, rfl, _, rfl, eqF (show V.str "redo" ≠ V.str "put" by decide +kernel) ?_⟩
          refine ⟨_, rfl, rfl, _, rfl, eqF (show V.str "redo" ≠ V.str "undo" by decide +kernel) ?_⟩
          refine ⟨(by show 2 ≤ sizeLine; decide), fun p np => ?_⟩
          have sp := same_upd (o := .tup [.str "error", .str "NothingToUndo"]) (Same.refl H12) np
          have ep : upd H12 p (.tup [V.str "error", .str "NothingToUndo"]) p = some (.tup [.str "error", .str "NothingToUndo"]) := upd_same
          replace W := W.same sp
          generalize upd H12 p (.tup [V.str "error", .str "NothingToUndo"]) = HY at W ep ⊢
          clear sp np
          refine ⟨_, rfl, (by show 0 ≤ sizeLine; decide), fun l0 nl0 => ?_⟩
          have sl := same_upd (o := .lst []) (Same.refl HY) nl0
          have el0 : upd HY l0 (.lst []) l0 = some (.lst []) := upd_same
          replace W := W.same sl
          replace ep := sl _ _ ep
          refine ⟨.list (intsD und), .list [], .lst (SqL.of W.hu) (dp_intsD und), .lst (SqL.of el0) .nil, lst_shaped _, nill_shaped, _, rfl, ?_⟩
          rw [lst_nil]
          generalize upd HY l0 (.lst []) = HZ at W ep ⊢
          clear sl el0 nl0
          cases hE : und.isEmpty with
          | true =>
            have en : und = [] := List.isEmpty_iff.mp hE
            refine iteF ?_
            refine ⟨W.rd.tb, fun H16 e16 t16 => ?_⟩
            replace W := W.ext e16 t16
            replace ep := e16 _ _ ep (fun ps z => by cases z)
            obtain ⟨dx, hi⟩ := W.fd.ins
            refine ⟨_, rfl, a, dx, _, rfl, hi, rfl, a, F, ps, row, und, rfl, W.fd, hok, hp4, by omega, .inl ⟨en, fun H20 s20 => ⟨c5, 5, "NothingToUndo", rfl, rfl, B.em5, B.one5, rfl, fun t21 H21 s21 e21 => ?_⟩⟩⟩
            replace W := (W.same s20).same s21
            replace ep := s21 _ _ (s20 _ _ ep)
            have hsh := erd_shaped "NothingToUndo" (by decide +kernel)
            have hqd := err_dp (K := K) ep
            have hg := err_dp (K := K) e21
            generalize errData "NothingToUndo" = dd at hsh hqd hg
            have hl9 : row.length ≤ j + 1 := by omega
            have hl9' : und.length ≤ j + 1 := by omega
            have hb9 := hb
            have hb9' := hb'
            obtain ⟨F9, eF⟩ : ∃ F9, F9 = F := ⟨_, rfl⟩
            obtain ⟨row9, eR⟩ : ∃ row9, row9 = row := ⟨_, rfl⟩
            obtain ⟨und9, eU⟩ : ∃ und9, und9 = und := ⟨_, rfl⟩
            obtain ⟨r9, er9⟩ : ∃ r9, r9 = r := ⟨_, rfl⟩
            obtain ⟨u9, eu9⟩ : ∃ u9, u9 = u := ⟨_, rfl⟩
            rw [← eR] at hl9 hb9
            rw [← eU] at hl9' hb9'
            rw [← eF, ← eR, ← eU, ← er9, ← eu9] at W
            rw [← er9, ← eu9]
            -- made != due or ..
            refine ⟨_, rfl, _, rfl, dd, dd, hg, hqd, hsh, hsh, _, rfl, ifEqvT (SeqAt.eqv_refl _ (SeqAt.canLay_of_shaped hsh)) ?_⟩
            clear hg hqd hsh
            obtain ⟨dx1, hi1⟩ := W.fd.ins
            refine ⟨_, rfl, a, dx1, _, rfl, hi1, rfl, a, F9, ps, row9, und9, rfl, W.fd, fun t1 H16 s16 e16 => ?_⟩
            replace W := W.same s16
            refine ⟨_, rfl, .tuple (intsD row9), .tuple (intsD row9), tp_dp (SqT.of e16), tp_dp W.hr, tp_shaped _, tp_shaped _, _, rfl, ifEqvT (tp_refl _) ?_⟩
            clear s16 e16 hi1
            obtain ⟨dx1, hi1⟩ := W.fd.ins
            refine ⟨_, rfl, a, dx1, _, rfl, hi1, a, F9, ps, row9, und9, rfl, W.fd, row9.length, rfl, by omega, ?_⟩
            refine ⟨_, rfl, r9, _, rfl, .inr W.hr, rfl, _, rfl, neF (by rw [List.length_map]) ?_⟩
            refine ⟨_, rfl, a, dx1, _, rfl, hi1, rfl, a, F9, ps, row9, und9, rfl, W.fd, hp4, by omega, fun t1 H17 s17 e17 => ?_⟩
            replace W := W.same s17
            refine ⟨_, rfl, _, rfl, b0, r9, ps, row9, rfl, stps_at W.ch, hok, hp4, W.hr, by omega, fun t2 H18 s18 ht2 => ?_⟩
            refine ⟨.tuple (intsD (runM ps row9)), .tuple (intsD (runM ps row9)), tp_dp (sqt_same s18 (SqT.of e17)), tp_dp ht2, tp_shaped _, tp_shaped _, _, rfl, ifEqvT (tp_refl _) ?_⟩
            replace W := W.same s18
            clear hi1 s17 e17 s18 ht2
            -- what is no number is refused
            obtain ⟨yb, hyb, hny, hrv⟩ := bad_num K j
            refine ⟨W.rd.tb, fun H19 e19 t19 => ?_⟩
            replace W := W.ext e19 t19
            obtain ⟨dx1, hi1⟩ := W.fd.ins
            refine ⟨_, rfl, a, dx1, _, rfl, hi1, rfl, _, _, rfl, rfl, cpow, _, _, rfl, rfl, (by show 4 ≤ sizeLine; decide), fun lb nlb => ?_⟩
            have sl := same_upd (o := .lst [V.non, .bl true, .int (10 ^ (30 : Int).toNat + 1), .str "1"]) (Same.refl H19) nlb
            have elb : upd H19 lb (.lst [V.non, .bl true, .int (10 ^ (30 : Int).toNat + 1), .str "1"]) lb = some (.lst [V.non, .bl true, .int (10 ^ (30 : Int).toNat + 1), .str "1"]) := upd_same
            replace W := W.same sl
            refine ⟨_, rfl, _, _, rfl, rfl, (by show (0 : Int) < 4; decide), lb, _, _, yb, rfl, rfl, SqL.of elb, hyb, a, yb, F9, ps, row9, und9, rfl, hny _, W.fd, hok, hp4, by omega, .inl ⟨hrv, fun H20 s20 => ⟨c2, 2, "InvalidNumber", rfl, rfl, B.em2, B.one2, rfl, fun t21 H21 s21 e21 => ?_⟩⟩⟩
            replace W := (W.same s20).same s21
            refine ⟨(by show 2 ≤ sizeLine; decide), fun p np => ?_⟩
            have sp := same_upd (o := .tup [.str "error", .str "InvalidNumber"]) (Same.refl H21) np
            have esh := erd_shaped "InvalidNumber" (by decide +kernel)
            refine ⟨errData "InvalidNumber", errData "InvalidNumber", err_dp (sp _ _ e21), err_dp upd_same, esh, esh, _, rfl, ifEqvT (SeqAt.eqv_refl _ (SeqAt.canLay_of_shaped esh)) ?_⟩
            exact ⟨F9, row9, und9, r9, u9, _, _, _, _, _, rfl, W.same sp, hl9, hl9', hb9, hb9'⟩
          | false =>
            refine iteT ?_
            obtain ⟨u0, y, eu⟩ := snoc_of hE
            subst eu
            rw [List.length_append, List.length_singleton] at hl2
            refine ⟨_, rfl, _, rfl, _, rfl, u, _, _, .int y, rfl, rfl, SqL.of W.hu, (by rw [List.map_append]; exact atI_last _ _), (by show 1 ≤ sizeLine; decide), fun e1 ne1 => ?_⟩
            have se := same_upd (o := .tup [V.int y]) (Same.refl HZ) ne1
            have he1 := sqt_new (K := K) (H := HZ) (a := e1) (xs := [V.int y])
            replace W := W.same se
            generalize upd HZ e1 (.tup [V.int y]) = H12 at W he1 ⊢
            refine ⟨r, e1, _, _, rfl, rfl, W.hr, he1, (cat_sz1 (by omega)), fun r9 H13 s13 hr9 => ?_⟩
            rw [show (row.map V.int ++ [V.int y]) = (row ++ [y]).map V.int by rw [List.map_append]; rfl] at hr9
            replace W := W.same s13
            refine ⟨_, rfl, _, rfl, _, rfl, u, _, rfl, SqL.of W.hu, fun u9 nu9 => ⟨_, _, rfl, ?_⟩⟩
            rw [cut_last]
            replace W := W.put (uw' := u0) hr9 nu9
            generalize upd H13 u9 (.lst (u0.map V.int)) = H14 at W ⊢
            clear se he1 s13 hr9 nu9 ne1
            refine ⟨_, rfl, _, rfl, b0, r9, ps, row ++ [y], rfl, stps_at W.ch, hok, hp4, W.hr, (by rw [List.length_append, List.length_singleton]; omega), fun l qs H15 s15 nl el hts => ?_⟩
            replace W := W.same s15
            obtain ⟨q8, qd, eqs, hqd⟩ := given_last hts
            refine ⟨_, rfl, l, _, _, .ref qd, rfl, rfl, SqL.of el, (by rw [eqs, List.map_append]; exact atI_last _ _), ?_⟩
            clear el hts s15 nl
            refine ⟨W.rd.tb, fun H19 e19 t19 => ?_⟩
            replace W := W.ext e19 t19
            replace hqd : SqT K H19 qd ((newM ps row [y]).map V.int) := sqt_kp (L := []) (Kp.ext e19) (fun b hb => absurd hb (by simp)) (SqT.of hqd)
            obtain ⟨dx, hi⟩ := W.fd.ins
            refine ⟨_, rfl, a, dx, _, rfl, hi, rfl, a, F, ps, row, u0 ++ [y], rfl, W.fd, hok, hp4, by omega, .inr ⟨u0, y, rfl, fun g H20 F9 f' fr' new _ hg => ?_⟩⟩
            replace hqd := sqt_kp (Kp.frm fr') W.fd.plain hqd
            replace W := W.meth f' fr' new
            clear f' fr' new
            obtain ⟨dd, edd⟩ : ∃ dd, dd = PyData.tuple (intsD (newM ps row [y])) := ⟨_, rfl⟩
            have hsh : SeqAt.shaped dd = true := by rw [edd]; exact tp_shaped _
            have hg := tp_dp hg
            have hqd := tp_dp hqd
            rw [← edd] at hg hqd
            clear edd
            have hl9 : (row ++ [y]).length ≤ j + 1 := by rw [List.length_append, List.length_singleton]; omega
            have hl9' : u0.length ≤ j + 1 := by omega
            have hb9' : ∀ x ∈ u0, rowOkV (.int x) = true := fun z hz => hb' z (List.mem_append.mpr (.inl hz))
            have hb9 : ∀ x ∈ row ++ [y], rowOkV (.int x) = true := fun z hz => by
              rcases List.mem_append.mp hz with w' | w'
              · exact hb z w'
              · rw [List.mem_singleton.mp w']; exact hb' y (List.mem_append.mpr (.inr (by simp)))
            generalize row ++ [y] = row9 at W hl9 hb9
            generalize u0 = und9 at W hl9' hb9'
            -- made != due or ..
            refine ⟨_, rfl, _, rfl, dd, dd, hg, hqd, hsh, hsh, _, rfl, ifEqvT (SeqAt.eqv_refl _ (SeqAt.canLay_of_shaped hsh)) ?_⟩
            clear hg hqd hsh
            obtain ⟨dx1, hi1⟩ := W.fd.ins
            refine ⟨_, rfl, a, dx1, _, rfl, hi1, rfl, a, F9, ps, row9, und9, rfl, W.fd, fun t1 H16 s16 e16 => ?_⟩
            replace W := W.same s16
            refine ⟨_, rfl, .tuple (intsD row9), .tuple (intsD row9), tp_dp (SqT.of e16), tp_dp W.hr, tp_shaped _, tp_shaped _, _, rfl, ifEqvT (tp_refl _) ?_⟩
            clear s16 e16 hi1
            obtain ⟨dx1, hi1⟩ := W.fd.ins
            refine ⟨_, rfl, a, dx1, _, rfl, hi1, a, F9, ps, row9, und9, rfl, W.fd, row9.length, rfl, by omega, ?_⟩
            refine ⟨_, rfl, r9, _, rfl, .inr W.hr, rfl, _, rfl, neF (by rw [List.length_map]) ?_⟩
            refine ⟨_, rfl, a, dx1, _, rfl, hi1, rfl, a, F9, ps, row9, und9, rfl, W.fd, hp4, by omega, fun t1 H17 s17 e17 => ?_⟩
            replace W := W.same s17
            refine ⟨_, rfl, _, rfl, b0, r9, ps, row9, rfl, stps_at W.ch, hok, hp4, W.hr, by omega, fun t2 H18 s18 ht2 => ?_⟩
            refine ⟨.tuple (intsD (runM ps row9)), .tuple (intsD (runM ps row9)), tp_dp (sqt_same s18 (SqT.of e17)), tp_dp ht2, tp_shaped _, tp_shaped _, _, rfl, ifEqvT (tp_refl _) ?_⟩
            replace W := W.same s18
            clear hi1 s17 e17 s18 ht2
            -- what is no number is refused
            obtain ⟨yb, hyb, hny, hrv⟩ := bad_num K j
            refine ⟨W.rd.tb, fun H19 e19 t19 => ?_⟩
            replace W := W.ext e19 t19
            obtain ⟨dx1, hi1⟩ := W.fd.ins
            refine ⟨_, rfl, a, dx1, _, rfl, hi1, rfl, _, _, rfl, rfl, cpow, _, _, rfl, rfl, (by show 4 ≤ sizeLine; decide), fun lb nlb => ?_⟩
            have sl := same_upd (o := .lst [V.non, .bl true, .int (10 ^ (30 : Int).toNat + 1), .str "1"]) (Same.refl H19) nlb
            have elb : upd H19 lb (.lst [V.non, .bl true, .int (10 ^ (30 : Int).toNat + 1), .str "1"]) lb = some (.lst [V.non, .bl true, .int (10 ^ (30 : Int).toNat + 1), .str "1"]) := upd_same
            replace W := W.same sl
            refine ⟨_, rfl, _, _, rfl, rfl, (by show (0 : Int) < 4; decide), lb, _, _, yb, rfl, rfl, SqL.of elb, hyb, a, yb, F9, ps, row9, und9, rfl, hny _, W.fd, hok, hp4, by omega, .inl ⟨hrv, fun H20 s20 => ⟨c2, 2, "InvalidNumber", rfl, rfl, B.em2, B.one2, rfl, fun t21 H21 s21 e21 => ?_⟩⟩⟩
            replace W := (W.same s20).same s21
            refine ⟨(by show 2 ≤ sizeLine; decide), fun p np => ?_⟩
            have sp := same_upd (o := .tup [.str "error", .str "InvalidNumber"]) (Same.refl H21) np
            have esh := erd_shaped "InvalidNumber" (by decide +kernel)
            refine ⟨errData "InvalidNumber", errData "InvalidNumber", err_dp (sp _ _ e21), err_dp upd_same, esh, esh, _, rfl, ifEqvT (SeqAt.eqv_refl _ (SeqAt.canLay_of_shaped esh)) ?_⟩
            exact ⟨F9, row9, und9, r9, u9, _, _, _, _, _, rfl, W.same sp, hl9, hl9', hb9, hb9'⟩
      · clear W0
        rintro σ H8 ⟨F, row, und, r, u, v6, v7, v8, v9, v10, rfl, W, hl1, hl2, hb, hb'⟩
        refine ⟨_, rfl, _, rfl, _, rfl, a, b0, r, F, ps, row, und, rfl, W.fd, W.ch, W.co, hok, W.hr, by omega, hb, W.rd.tb, fun H9 e9 t9 => ⟨_, rfl, iteF ?_⟩⟩
        exact ⟨⟨_, _, _, _, _, _, _, _, _, _, rfl⟩, (W.ext e9 t9).rd.rt⟩
    · rintro σ H2 ⟨⟨v1, v2, v3, v4, v5, v6, v7, v8, v9, v10, rfl⟩, r2⟩
      exact qq H2
end
end FC
set_option Elab.async false
set_option linter.all false
set_option maxRecDepth 100000
set_option maxHeartbeats 1000000
namespace FC
open PySem PySem.Spec PyProof.Rows L2
/-! ### what the top leaves -/
def DefOk (K : PySem.W.Frag) (x : Str) (st : Stmt) : Prop := ∃ (f : Addr) (fd : FuncData), PySem.W.nsIn K mainGlobals x = some (some (.ref f)) ∧ Fun K x x st f fd
theorem defOk {K : PySem.W.Frag} {x : Str} {st : Stmt} {f : Addr} {oc : Value} {od an : Option Addr} {osl : Array (Option Value)} {kV doc pm cdv ct : Value} (a : PySem.W.nsIn K mainGlobals x = some (some (.ref f)))
    (l : K.lookup f = some ⟨oc, od, .func (PySem.W.fnOf x x (defArgs st) (defBody st) (defScope st) .none kV doc pm an cdv ct), osl⟩) (c : PySem.W.codeIn K cdv x = true) (k : PySem.W.keepIn K (.ref f) = true) : DefOk K x st := ⟨f, _, a, fun_mk l c k⟩
def ent (P : Params) (e : Str × Tok × Value) : DictEntry := ⟨PyData.keyHash P e.1, .str e.1 e.2.1, e.2.2⟩
def nsL (l : List (Str × Tok × Value)) (z : Str) : Option Value := (l.find? fun e => e.1 == z).map (·.2.2)
def All2 {β : Type} (R : β → Value → Prop) : List (Str × Tok × Value) → List (Str × β) → Prop
  | [], [] => True
  | e :: l, b :: t => e.1 = b.1 ∧ R b.2 e.2.2 ∧ All2 R l t
  | _, _ => False
theorem all2_find {β : Type} {R : β → Value → Prop} : ∀ {l : List (Str × Tok × Value)} {tb : List (Str × β)}, All2 R l tb → ∀ z, match tb.lookup z with
    | none => nsL l z = none
    | some b => ∃ v, nsL l z = some v ∧ R b v
  | [], [], _, z => rfl
  | e :: l, b :: t, ⟨h1, h2, h3⟩, z => by
    obtain ⟨x, k, v⟩ := e
    obtain ⟨y, b⟩ := b
    have h1 : x = y := h1
    subst h1
    by_cases hz : z = x
    · subst hz
      have e1 : nsL ((z, k, v) :: l) z = some v := by
        unfold nsL
        rw [List.find?_cons_of_pos (by simp)]
        rfl
      simp only [List.lookup, beq_self_eq_true]
      exact ⟨v, e1, h2⟩
    · have e1 : nsL ((x, k, v) :: l) z = nsL l z := by
        unfold nsL
        rw [List.find?_cons_of_neg (by simp; exact fun q => hz q.symm)]
      have e2 : (z == x) = false := beq_eq_false_iff_ne.mpr hz
      simp only [List.lookup, e2, e1]
      exact all2_find h3 z
section
variable {K : PySem.W.Frag} {w : World} {d : Addr} {n : Nat} {l : List (Str × Tok × Value)}
theorem keysLit_ents {P : Params} : ∀ (l : List (Str × Tok × Value)), PySem.W.KeysLit P (l.map (ent P))
  | [] => trivial
  | e :: r => ⟨⟨_, _, rfl, rfl⟩, keysLit_ents r⟩
theorem kd_ents (h : K.lookup d = some ⟨.type "dict", none, .dict (l.map (ent w.params)).toArray n, #[]⟩) (low : (d == sysModules) = false) : KDict K w d (l.map (ent w.params)).toArray n := ⟨h, keysLit_ents l, low⟩
theorem find_ents {P : Params} (z : Str) : ∀ (l : List (Str × Tok × Value)), (l.map (ent P)).find? (·.key.isStr z) = (l.find? fun e => e.1 == z).map (ent P)
  | [] => rfl
  | e :: r => by
    rw [List.map_cons, List.find?_cons, List.find?_cons]
    have e1 : (ent P e).key.isStr z = (e.1 == z) := rfl
    rw [e1]
    cases (e.1 == z) with
    | true => rfl
    | false => exact find_ents z r
theorem noRef_ents {P : Params} : ∀ (l : List (Str × Tok × Value)), (l.map (ent P)).any (·.refKey) = false
  | [] => rfl
  | e :: r => by
    rw [List.map_cons, List.any_cons, noRef_ents r]
    rfl
theorem ns_ents {o : Value} {od : Option Addr} {sl : Array (Option Value)} {P : Params} (h : K.lookup d = some ⟨o, od, .dict (l.map (ent P)).toArray n, sl⟩) (z : Str) : PySem.W.nsIn K d z = some (nsL l z) := by
  unfold PySem.W.nsIn
  rw [h]
  show (match ((l.map (ent P)).toArray.toList).find? (·.key.isStr z) with
    | some e => some (some e.val)
    | none => if ((l.map (ent P)).toArray.toList).any (·.refKey) then none else some none) = _
  rw [List.toList_toArray, find_ents, noRef_ents]
  unfold nsL
  cases l.find? (fun e => e.1 == z) <;> rfl
end
def TupV (K : PySem.W.Frag) (a : Addr) (xs : List V) : Prop := ∃ (o : Obj) (its : Array Value) (n : Nat), K.lookup a = some o ∧ o.cls = .type "tuple" ∧ o.data = .seq its n ∧ its.size ≤ sizeLine ∧ Vals xs its.toList
theorem TupV.sq {K : PySem.W.Frag} {a : Addr} {xs : List V} (h : TupV K a xs) : ∀ H, SqT K H a xs := fun H => .inr h
theorem tup0 {K : PySem.W.Frag} {a : Addr} {od : Option Addr} {n : Nat} {sl : Array (Option Value)} (l : K.lookup a = some ⟨.type "tuple", od, .seq #[] n, sl⟩)  : TupV K a [] := ⟨_, _, _, l, rfl, rfl, (by show 0 ≤ sizeLine; decide), .nil⟩
theorem tup1 {K : PySem.W.Frag} {a : Addr} {od : Option Addr} {n : Nat} {sl : Array (Option Value)} {x0 : V} {u0 : Value} (l : K.lookup a = some ⟨.type "tuple", od, .seq #[u0] n, sl⟩) (r0 : RelV x0 u0) : TupV K a [x0] := ⟨_, _, _, l, rfl, rfl, (by show 1 ≤ sizeLine; decide), (.cons r0 .nil)⟩
theorem tup2 {K : PySem.W.Frag} {a : Addr} {od : Option Addr} {n : Nat} {sl : Array (Option Value)} {x0 x1 : V} {u0 u1 : Value} (l : K.lookup a = some ⟨.type "tuple", od, .seq #[u0, u1] n, sl⟩) (r0 : RelV x0 u0) (r1 : RelV x1 u1) : TupV K a [x0, x1] := ⟨_, _, _, l, rfl, rfl, (by show 2 ≤ sizeLine; decide), (.cons r0 (.cons r1 .nil))⟩
theorem tup3 {K : PySem.W.Frag} {a : Addr} {od : Option Addr} {n : Nat} {sl : Array (Option Value)} {x0 x1 x2 : V} {u0 u1 u2 : Value} (l : K.lookup a = some ⟨.type "tuple", od, .seq #[u0, u1, u2] n, sl⟩) (r0 : RelV x0 u0) (r1 : RelV x1 u1) (r2 : RelV x2 u2) : TupV K a [x0, x1, x2] := ⟨_, _, _, l, rfl, rfl, (by show 3 ≤ sizeLine; decide), (.cons r0 (.cons r1 (.cons r2 .nil)))⟩
theorem tup4 {K : PySem.W.Frag} {a : Addr} {od : Option Addr} {n : Nat} {sl : Array (Option Value)} {x0 x1 x2 x3 : V} {u0 u1 u2 u3 : Value} (l : K.lookup a = some ⟨.type "tuple", od, .seq #[u0, u1, u2, u3] n, sl⟩) (r0 : RelV x0 u0) (r1 : RelV x1 u1) (r2 : RelV x2 u2) (r3 : RelV x3 u3) : TupV K a [x0, x1, x2, x3] := ⟨_, _, _, l, rfl, rfl, (by show 4 ≤ sizeLine; decide), (.cons r0 (.cons r1 (.cons r2 (.cons r3 .nil))))⟩
theorem tup5 {K : PySem.W.Frag} {a : Addr} {od : Option Addr} {n : Nat} {sl : Array (Option Value)} {x0 x1 x2 x3 x4 : V} {u0 u1 u2 u3 u4 : Value} (l : K.lookup a = some ⟨.type "tuple", od, .seq #[u0, u1, u2, u3, u4] n, sl⟩) (r0 : RelV x0 u0) (r1 : RelV x1 u1) (r2 : RelV x2 u2) (r3 : RelV x3 u3) (r4 : RelV x4 u4) : TupV K a [x0, x1, x2, x3, x4] := ⟨_, _, _, l, rfl, rfl, (by show 5 ≤ sizeLine; decide), (.cons r0 (.cons r1 (.cons r2 (.cons r3 (.cons r4 .nil)))))⟩
def LetOk (K : PySem.W.Frag) (w : World) : Prop := ∃ d, PySem.W.nsIn K mainGlobals "LETTERS" = some (some (.ref d)) ∧ LetT K w d
theorem letOk {K : PySem.W.Frag} {w : World} {d : Addr} {n : Nat} {t0 t1 t2 t3 t4 t5 t6 t7 t8 t9 : Tok} {a0 a1 a2 a3 a4 a5 a6 a7 a8 a9 : Addr} (g : PySem.W.nsIn K mainGlobals "LETTERS" = some (some (.ref d)))
    (h : K.lookup d = some ⟨.type "dict", none, .dict #[⟨PyData.keyHash w.params "line", .str "line" t0, .ref a0⟩, ⟨PyData.keyHash w.params "turn", .str "turn" t1, .ref a1⟩, ⟨PyData.keyHash w.params "keep", .str "keep" t2, .ref a2⟩, ⟨PyData.keyHash w.params "every", .str "every" t3, .ref a3⟩, ⟨PyData.keyHash w.params "twice", .str "twice" t4, .ref a4⟩, ⟨PyData.keyHash w.params "sums", .str "sums" t5, .ref a5⟩, ⟨PyData.keyHash w.params "anew", .str "anew" t6, .ref a6⟩, ⟨PyData.keyHash w.params "gaps", .str "gaps" t7, .ref a7⟩, ⟨PyData.keyHash w.params "groups", .str "groups" t8, .ref a8⟩, ⟨PyData.keyHash w.params "count", .str "count" t9, .ref a9⟩] n, #[]⟩) (low : (d == sysModules) = false)
    (h0 : TupV K a0 [.str "a", .str "b"]) (h1 : TupV K a1 [.str "m", .str "r", .str "a", .str "b"]) (h2 : TupV K a2 [.str "m", .str "r"]) (h3 : TupV K a3 [.str "k", .str "r"]) (h4 : TupV K a4 []) (h5 : TupV K a5 []) (h6 : TupV K a6 [.str "m", .str "r"]) (h7 : TupV K a7 []) (h8 : TupV K a8 [.str "k"]) (h9 : TupV K a9 []) : LetOk K w := by
  have h : K.lookup d = some ⟨.type "dict", none, .dict (([("line", t0, .ref a0), ("turn", t1, .ref a1), ("keep", t2, .ref a2), ("every", t3, .ref a3), ("twice", t4, .ref a4), ("sums", t5, .ref a5), ("anew", t6, .ref a6), ("gaps", t7, .ref a7), ("groups", t8, .ref a8), ("count", t9, .ref a9)] : List (Str × Tok × Value)).map (ent w.params)).toArray n, #[]⟩ := h
  refine ⟨d, g, ⟨_, _, kd_ents h low⟩, fun z => ⟨_, ns_ents h z, ?_⟩⟩
  have al : All2 (fun (ls : List Str) v => ∃ a, v = .ref a ∧ ∀ H, SqT K H a (ls.map V.str)) [("line", t0, .ref a0), ("turn", t1, .ref a1), ("keep", t2, .ref a2), ("every", t3, .ref a3), ("twice", t4, .ref a4), ("sums", t5, .ref a5), ("anew", t6, .ref a6), ("gaps", t7, .ref a7), ("groups", t8, .ref a8), ("count", t9, .ref a9)] tab := ⟨rfl, ⟨_, rfl, h0.sq⟩, ⟨rfl, ⟨_, rfl, h1.sq⟩, ⟨rfl, ⟨_, rfl, h2.sq⟩, ⟨rfl, ⟨_, rfl, h3.sq⟩, ⟨rfl, ⟨_, rfl, h4.sq⟩, ⟨rfl, ⟨_, rfl, h5.sq⟩, ⟨rfl, ⟨_, rfl, h6.sq⟩, ⟨rfl, ⟨_, rfl, h7.sq⟩, ⟨rfl, ⟨_, rfl, h8.sq⟩, ⟨rfl, ⟨_, rfl, h9.sq⟩, trivial⟩⟩⟩⟩⟩⟩⟩⟩⟩⟩
  have := all2_find al z
  revert this
  cases tab.lookup z with
  | none => exact fun h => h
  | some ls => exact fun ⟨v, h1, a, h2, h3⟩ => ⟨a, by rw [h1, h2], h3⟩
def BndOk (K : PySem.W.Frag) (w : World) : Prop := ∃ d, PySem.W.nsIn K mainGlobals "BOUNDS" = some (some (.ref d)) ∧ BndT K w d
theorem bndOk {K : PySem.W.Frag} {w : World} {d : Addr} {n : Nat} {t0 t1 t2 t3 : Tok} {a0 a1 a2 a3 : Addr} (g : PySem.W.nsIn K mainGlobals "BOUNDS" = some (some (.ref d)))
    (h : K.lookup d = some ⟨.type "dict", none, .dict #[⟨PyData.keyHash w.params "a", .str "a" t0, .ref a0⟩, ⟨PyData.keyHash w.params "b", .str "b" t1, .ref a1⟩, ⟨PyData.keyHash w.params "m", .str "m" t2, .ref a2⟩, ⟨PyData.keyHash w.params "k", .str "k" t3, .ref a3⟩] n, #[]⟩) (low : (d == sysModules) = false)
    (h0 : TupV K a0 [.int (-3), .int (3)]) (h1 : TupV K a1 [.int (-9), .int (9)]) (h2 : TupV K a2 [.int (2), .int (3)]) (h3 : TupV K a3 [.int (2), .int (3)]) : BndOk K w := by
  have h : K.lookup d = some ⟨.type "dict", none, .dict (([("a", t0, .ref a0), ("b", t1, .ref a1), ("m", t2, .ref a2), ("k", t3, .ref a3)] : List (Str × Tok × Value)).map (ent w.params)).toArray n, #[]⟩ := h
  refine ⟨d, g, ⟨_, _, kd_ents h low⟩, fun p hp => ?_⟩
  unfold bnd at hp
  simp only [List.mem_cons, List.mem_nil_iff, or_false] at hp
  rcases hp with rfl | rfl | rfl | rfl
  · exact ⟨a0, (ns_ents h _).trans (by rfl), h0.sq⟩
  · exact ⟨a1, (ns_ents h _).trans (by rfl), h1.sq⟩
  · exact ⟨a2, (ns_ents h _).trans (by rfl), h2.sq⟩
  · exact ⟨a3, (ns_ents h _).trans (by rfl), h3.sq⟩
def LimOk (K : PySem.W.Frag) : Prop := ∃ d, PySem.W.nsIn K mainGlobals "LIMITS" = some (some (.ref d)) ∧ LimT K d
theorem limOk_ {K : PySem.W.Frag} {d r0 r1 r2 c0 c1 c2 : Addr} (g : PySem.W.nsIn K mainGlobals "LIMITS" = some (some (.ref d))) (h : TupV K d [.ref r0, .ref r1, .ref r2])
    (h0 : TupV K r0 [.int 2, .ref c0]) (k0 : TupV K c0 [.str "sums", .str "anew", .str "gaps", .str "groups", .str "count"]) (h1 : TupV K r1 [.int 2, .ref c1]) (k1 : TupV K c1 [.str "turn", .str "keep", .str "anew"]) (h2 : TupV K r2 [.int 1, .ref c2]) (k2 : TupV K c2 [.str "twice"]) : LimOk K := by
  refine ⟨d, g, ⟨[r0, r1, r2], h.sq, rfl, fun i p r hp hr => ?_⟩⟩
  match i, hp, hr with
  | 0, hp, hr =>
    cases hp
    cases hr
    exact ⟨c0, h0.sq, k0.sq⟩
  | 1, hp, hr =>
    cases hp
    cases hr
    exact ⟨c1, h1.sq, k1.sq⟩
  | 2, hp, hr =>
    cases hp
    cases hr
    exact ⟨c2, h2.sq, k2.sq⟩
  | n + 3, hp, hr => cases hp
def ExcQ (K : PySem.W.Frag) (C : Addr) : Prop := PySem.W.excIn K C [.type "ValueError", .type "Exception", .type "BaseException", .type "object"] "ValueError.__new__" = true ∧ PySem.W.keepIn K (.ref C) = true ∧ PySem.W.subIn K (.ref C) (.type "BaseException") = some true ∧ PySem.W.typeIn K (.ref C) = some (.type "type")
def GivOk (K : PySem.W.Frag) (w : World) : Prop := ∃ d, PySem.W.nsIn K mainGlobals "GIVERS" = some (some (.ref d)) ∧ (∃ es n, KDict K w d es n) ∧ (∃ f, PySem.W.nsIn K d "line" = some (some (.ref f)) ∧ PySem.W.nsIn K mainGlobals "give_line" = some (some (.ref f))) ∧ (∃ f, PySem.W.nsIn K d "turn" = some (some (.ref f)) ∧ PySem.W.nsIn K mainGlobals "give_turn" = some (some (.ref f))) ∧ (∃ f, PySem.W.nsIn K d "keep" = some (some (.ref f)) ∧ PySem.W.nsIn K mainGlobals "give_keep" = some (some (.ref f))) ∧ (∃ f, PySem.W.nsIn K d "every" = some (some (.ref f)) ∧ PySem.W.nsIn K mainGlobals "give_every" = some (some (.ref f))) ∧ (∃ f, PySem.W.nsIn K d "twice" = some (some (.ref f)) ∧ PySem.W.nsIn K mainGlobals "give_twice" = some (some (.ref f))) ∧ (∃ f, PySem.W.nsIn K d "sums" = some (some (.ref f)) ∧ PySem.W.nsIn K mainGlobals "give_sums" = some (some (.ref f))) ∧ (∃ f, PySem.W.nsIn K d "anew" = some (some (.ref f)) ∧ PySem.W.nsIn K mainGlobals "give_anew" = some (some (.ref f))) ∧ (∃ f, PySem.W.nsIn K d "gaps" = some (some (.ref f)) ∧ PySem.W.nsIn K mainGlobals "give_gaps" = some (some (.ref f))) ∧ (∃ f, PySem.W.nsIn K d "groups" = some (some (.ref f)) ∧ PySem.W.nsIn K mainGlobals "give_groups" = some (some (.ref f))) ∧ (∃ f, PySem.W.nsIn K d "count" = some (some (.ref f)) ∧ PySem.W.nsIn K mainGlobals "give_count" = some (some (.ref f)))
theorem givOk {K : PySem.W.Frag} {w : World} {d : Addr} {n : Nat} {t0 t1 t2 t3 t4 t5 t6 t7 t8 t9 : Tok} {f0 f1 f2 f3 f4 f5 f6 f7 f8 f9 : Addr} (g : PySem.W.nsIn K mainGlobals "GIVERS" = some (some (.ref d)))
    (h : K.lookup d = some ⟨.type "dict", none, .dict #[⟨PyData.keyHash w.params "line", .str "line" t0, .ref f0⟩, ⟨PyData.keyHash w.params "turn", .str "turn" t1, .ref f1⟩, ⟨PyData.keyHash w.params "keep", .str "keep" t2, .ref f2⟩, ⟨PyData.keyHash w.params "every", .str "every" t3, .ref f3⟩, ⟨PyData.keyHash w.params "twice", .str "twice" t4, .ref f4⟩, ⟨PyData.keyHash w.params "sums", .str "sums" t5, .ref f5⟩, ⟨PyData.keyHash w.params "anew", .str "anew" t6, .ref f6⟩, ⟨PyData.keyHash w.params "gaps", .str "gaps" t7, .ref f7⟩, ⟨PyData.keyHash w.params "groups", .str "groups" t8, .ref f8⟩, ⟨PyData.keyHash w.params "count", .str "count" t9, .ref f9⟩] n, #[]⟩) (low : (d == sysModules) = false)
    (h0 : PySem.W.nsIn K mainGlobals "give_line" = some (some (.ref f0))) (h1 : PySem.W.nsIn K mainGlobals "give_turn" = some (some (.ref f1))) (h2 : PySem.W.nsIn K mainGlobals "give_keep" = some (some (.ref f2))) (h3 : PySem.W.nsIn K mainGlobals "give_every" = some (some (.ref f3))) (h4 : PySem.W.nsIn K mainGlobals "give_twice" = some (some (.ref f4))) (h5 : PySem.W.nsIn K mainGlobals "give_sums" = some (some (.ref f5))) (h6 : PySem.W.nsIn K mainGlobals "give_anew" = some (some (.ref f6))) (h7 : PySem.W.nsIn K mainGlobals "give_gaps" = some (some (.ref f7))) (h8 : PySem.W.nsIn K mainGlobals "give_groups" = some (some (.ref f8))) (h9 : PySem.W.nsIn K mainGlobals "give_count" = some (some (.ref f9))) : GivOk K w := by
  have h : K.lookup d = some ⟨.type "dict", none, .dict (([("line", t0, .ref f0), ("turn", t1, .ref f1), ("keep", t2, .ref f2), ("every", t3, .ref f3), ("twice", t4, .ref f4), ("sums", t5, .ref f5), ("anew", t6, .ref f6), ("gaps", t7, .ref f7), ("groups", t8, .ref f8), ("count", t9, .ref f9)] : List (Str × Tok × Value)).map (ent w.params)).toArray n, #[]⟩ := h
  exact ⟨d, g, ⟨_, _, kd_ents h low⟩, ⟨f0, (ns_ents h _).trans (by rfl), h0⟩, ⟨f1, (ns_ents h _).trans (by rfl), h1⟩, ⟨f2, (ns_ents h _).trans (by rfl), h2⟩, ⟨f3, (ns_ents h _).trans (by rfl), h3⟩, ⟨f4, (ns_ents h _).trans (by rfl), h4⟩, ⟨f5, (ns_ents h _).trans (by rfl), h5⟩, ⟨f6, (ns_ents h _).trans (by rfl), h6⟩, ⟨f7, (ns_ents h _).trans (by rfl), h7⟩, ⟨f8, (ns_ents h _).trans (by rfl), h8⟩, ⟨f9, (ns_ents h _).trans (by rfl), h9⟩⟩
theorem calOf {P : Program} {w : World} {K : PySem.W.Frag} {mg : Str → Option Value} {base : Heap} {CX : CXT} {k : Nat} {x : Str} {st : Stmt} {f : Addr} {fd : FuncData} {ps : List Str} {sp : Sp} (m : mg x = some (.ref f)) (F : Fun K x x st f fd) (h : FnOk P w K mg base CX k f fd ps sp)
    (b : ∀ (kV doc pm : Value) (an : Option Addr) (cdv ct : Value) (us : List Value), us.length = ps.length → bindArgs (PySem.W.fnOf x x (defArgs st) (defBody st) (defScope st) .none kV doc pm an cdv ct) ⟨us, []⟩ = pure (ps.zip us)) : Cal P w K mg base CX k x ps sp := ⟨f, fd, h, m, F.kp, F.binds b⟩
theorem heldOf {P : Program} {w : World} {K : PySem.W.Frag} {mg : Str → Option Value} {base : Heap} {k : Nat} {x : Str} {st : Stmt} {f f' : Addr} {fd : FuncData} {ps : List Str} {sp : Sp} (a : PySem.W.nsIn K mainGlobals x = some (some (.ref f))) (a' : PySem.W.nsIn K mainGlobals x = some (some (.ref f'))) (F : Fun K x x st f fd) (h : FnOk P w K mg base CX0 k f fd ps sp)
    (b : ∀ (kV doc pm : Value) (an : Option Addr) (cdv ct : Value) (us : List Value), us.length = ps.length → bindArgs (PySem.W.fnOf x x (defArgs st) (defBody st) (defScope st) .none kV doc pm an cdv ct) ⟨us, []⟩ = pure (ps.zip us)) : Held P w K mg base k f' sp := by
  have e := a.symm.trans a'
  cases e
  exact ⟨fd, ps, h, F.kp, F.binds b⟩
end FC
set_option Elab.async false
set_option linter.all false
set_option maxRecDepth 100000
set_option maxHeartbeats 1000000
namespace FC
open PySem PySem.Spec PyProof.Rows L2
/-! ### what the top leaves of the class -/
def MethOk (K : PySem.W.Frag) (C : Addr) (m q : Str) (st : Stmt) : Prop := ∃ (f : Addr) (fd : FuncData), Fun K m q st f fd ∧ Meth K C m f
theorem methOk {K : PySem.W.Frag} {C : Addr} {m q : Str} {st : Stmt} {f : Addr} {oc : Value} {od an : Option Addr} {osl : Array (Option Value)} {kV doc pm cdv ct : Value} (a : PySem.W.findIn K (.ref C) m = some (some (.ref f))) (i : PySem.W.isFn K (.ref f) = true)
    (l : K.lookup f = some ⟨oc, od, .func (PySem.W.fnOf m q (defArgs st) (defBody st) (defScope st) .none kV doc pm an cdv ct), osl⟩) (c : PySem.W.codeIn K cdv q = true) (k : PySem.W.keepIn K (.ref f) = true) : MethOk K C m q st := ⟨f, _, fun_mk l c k, ⟨a, i, k⟩⟩
structure ClsF (K : PySem.W.Frag) (C : Addr) : Prop where
  g : PySem.W.nsIn K mainGlobals "Feed" = some (some (.ref C))
  pg : PySem.W.plainGet K C Str.empty = true
  hd : PySem.W.hasDictIn K C = true
  po : PySem.W.plainOver K C = true
  sa : PySem.W.findIn K (.ref C) "__setattr__" = some (some (.builtin "object.__setattr__"))
  nc : PySem.W.findIn K (.ref C) "chain" = some none
  nn : PySem.W.findIn K (.ref C) "numbers" = some none
  na : PySem.W.findIn K (.ref C) "answers" = some none
  ns : PySem.W.findIn K (.ref C) "states" = some none
  nu : PySem.W.findIn K (.ref C) "undone" = some none
  mki : PySem.W.makesIn K C = true
  kc : PySem.W.keepIn K (.ref C) = true
theorem mcalOf {P : Program} {w : World} {K : PySem.W.Frag} {mg : Str → Option Value} {base : Heap} {CX : CXT} {k : Nat} {C f : Addr} {m q : Str} {st : Stmt} {fd : FuncData} {ps : List Str} {sp : Sp} (F : Fun K m q st f fd) (M : Meth K C m f) (h : FnOk P w K mg base CX k f fd ps sp)
    (b : ∀ (kV doc pm : Value) (an : Option Addr) (cdv ct : Value) (us : List Value), us.length = ps.length → bindArgs (PySem.W.fnOf m q (defArgs st) (defBody st) (defScope st) .none kV doc pm an cdv ct) ⟨us, []⟩ = pure (ps.zip us)) : MCal P w K mg base CX k C m ps sp := ⟨f, fd, h, M, F.binds b⟩
end FC
set_option Elab.async false
set_option linter.all false
set_option maxRecDepth 100000
set_option maxHeartbeats 1000000
namespace FC
open PySem PySem.Spec PyProof.Rows L2
def ClsOk (K : PySem.W.Frag) : Prop := ∃ c0 c1 c2 c3 c4 c5 CE : Addr, PySem.W.nsIn K mainGlobals "InvalidChain" = some (some (.ref c0)) ∧ PySem.W.nsIn K mainGlobals "InvalidRow" = some (some (.ref c1)) ∧ PySem.W.nsIn K mainGlobals "InvalidNumber" = some (some (.ref c2)) ∧ PySem.W.nsIn K mainGlobals "InvalidText" = some (some (.ref c3)) ∧ PySem.W.nsIn K mainGlobals "TooMany" = some (some (.ref c4)) ∧ PySem.W.nsIn K mainGlobals "NothingToUndo" = some (some (.ref c5)) ∧ PySem.W.nsIn K mainGlobals "ChainError" = some (some (.ref CE)) ∧ OneT K c0 0 c0 c1 c2 c3 c4 c5 ∧ PySem.W.exmOne K (.ref c0) (.ref CE) = some true ∧ OneT K c2 2 c0 c1 c2 c3 c4 c5 ∧ PySem.W.exmOne K (.ref c2) (.ref CE) = some true ∧ OneT K c4 4 c0 c1 c2 c3 c4 c5 ∧ PySem.W.exmOne K (.ref c4) (.ref CE) = some true ∧ OneT K c5 5 c0 c1 c2 c3 c4 c5 ∧ PySem.W.exmOne K (.ref c5) (.ref CE) = some true ∧ ExcQ K c0 ∧ ExcQ K c2 ∧ ExcQ K c4 ∧ ExcQ K c5
theorem clsOk {K : PySem.W.Frag} {c0 c1 c2 c3 c4 c5 CE : Addr} (g0 : PySem.W.nsIn K mainGlobals "InvalidChain" = some (some (.ref c0))) (g1 : PySem.W.nsIn K mainGlobals "InvalidRow" = some (some (.ref c1))) (g2 : PySem.W.nsIn K mainGlobals "InvalidNumber" = some (some (.ref c2))) (g3 : PySem.W.nsIn K mainGlobals "InvalidText" = some (some (.ref c3))) (g4 : PySem.W.nsIn K mainGlobals "TooMany" = some (some (.ref c4))) (g5 : PySem.W.nsIn K mainGlobals "NothingToUndo" = some (some (.ref c5))) (gE : PySem.W.nsIn K mainGlobals "ChainError" = some (some (.ref CE))) (one0 : OneT K c0 0 c0 c1 c2 c3 c4 c5) (em0 : PySem.W.exmOne K (.ref c0) (.ref CE) = some true) (one2 : OneT K c2 2 c0 c1 c2 c3 c4 c5) (em2 : PySem.W.exmOne K (.ref c2) (.ref CE) = some true) (one4 : OneT K c4 4 c0 c1 c2 c3 c4 c5) (em4 : PySem.W.exmOne K (.ref c4) (.ref CE) = some true) (one5 : OneT K c5 5 c0 c1 c2 c3 c4 c5) (em5 : PySem.W.exmOne K (.ref c5) (.ref CE) = some true) (q0 : ExcQ K c0) (q2 : ExcQ K c2) (q4 : ExcQ K c4) (q5 : ExcQ K c5) : ClsOk K := ⟨_, _, _, _, _, _, _, g0, g1, g2, g3, g4, g5, gE, one0, em0, one2, em2, one4, em4, one5, em5, q0, q2, q4, q5⟩
structure BltOk (K : PySem.W.Frag) : Prop where
  n0 : PySem.W.nsIn K mainGlobals "isinstance" = some none
  n1 : PySem.W.nsIn K mainGlobals "int" = some none
  n2 : PySem.W.nsIn K mainGlobals "bool" = some none
  n3 : PySem.W.nsIn K mainGlobals "str" = some none
  n4 : PySem.W.nsIn K mainGlobals "tuple" = some none
  n5 : PySem.W.nsIn K mainGlobals "len" = some none
  n6 : PySem.W.nsIn K mainGlobals "all" = some none
  n7 : PySem.W.nsIn K mainGlobals "zip" = some none
  n8 : PySem.W.nsIn K mainGlobals "range" = some none
  n9 : PySem.W.nsIn K mainGlobals "max" = some none
  n10 : PySem.W.nsIn K mainGlobals "min" = some none
  n11 : PySem.W.nsIn K mainGlobals "sum" = some none
  n12 : PySem.W.nsIn K mainGlobals "ValueError" = some none
  n13 : PySem.W.nsIn K mainGlobals "enumerate" = some none
  n14 : PySem.W.nsIn K mainGlobals "list" = some none
structure DefsOk (K : PySem.W.Frag) : Prop where
  d0 : DefOk K "is_chain" sIsChain
  d1 : DefOk K "check_chain" sCheck
  d2 : DefOk K "is_whole" sIsWhole
  d3 : DefOk K "is_step" sIsStep
  d4 : DefOk K "are_within" sWithin
  d5 : DefOk K "keeps_limits" sLimits
  d6 : DefOk K "is_number" sIsNumber
  d7 : DefOk K "give_line" sGvLine
  d8 : DefOk K "give_turn" sGvTurn
  d9 : DefOk K "give_keep" sGvKeep
  d10 : DefOk K "give_every" sGvEvery
  d11 : DefOk K "give_twice" sGvTwice
  d12 : DefOk K "give_sums" sGvSums
  d13 : DefOk K "give_anew" sGvAnew
  d14 : DefOk K "give_gaps" sGvGaps
  d15 : DefOk K "give_groups" sGvGroups
  d16 : DefOk K "give_count" sGvCount
  d17 : DefOk K "pass_through" sPassT
  d18 : DefOk K "start" sStartP
  d19 : DefOk K "advance" sAdvance
  d20 : DefOk K "_law_cell" sCell
  d21 : DefOk K "_law_drawn" sDrawn
  d22 : DefOk K "_law_roll" sRoll
  d23 : DefOk K "_law_rounds" sRounds
  d24 : DefOk K "_law_term" sTerm
  d25 : DefOk K "_law_told" sTold
  d26 : DefOk K "_law_rest" sRest
  d27 : DefOk K "_law_step" sStep
  d28 : DefOk K "_law_chain" sChain
  d29 : DefOk K "_law_through" sThrough
  d30 : DefOk K "_law_given" sGiven
  d31 : DefOk K "_law_run" sRunL
def FeedOk (K : PySem.W.Frag) : Prop := ∃ C : Addr, ClsF K C ∧ MethOk K C "__init__" "Feed.__init__" (fdM 0) ∧ MethOk K C "put" "Feed.put" (fdM 1) ∧ MethOk K C "undo" "Feed.undo" (fdM 2) ∧ MethOk K C "redo" "Feed.redo" (fdM 3) ∧ MethOk K C "row" "Feed.row" (fdM 4) ∧ MethOk K C "given" "Feed.given" (fdM 5) ∧ MethOk K C "take" "Feed.take" (fdM 6) ∧ MethOk K C "__eq__" "Feed.__eq__" (fdM 7) ∧ MethOk K C "__len__" "Feed.__len__" (fdM 8) ∧ EqF K C ∧ PySem.W.notFirst K C (.type "int") = true
theorem look {l : PySem.W.OpenLaw} {w : World} {K : PySem.W.Frag} {h : Heap} {mg : Str → Option Value} {fa Pt Pt2 : Addr} (X : K.In h) (G : h.Ns mainGlobals mg) (hfa : mg "law" = some (.ref fa)) (hPt : h.get? Pt = some { cls := .none, data := .fields #[] }) (nPt : K.lookup Pt = none) (hPt2 : h.get? Pt2 = some { cls := .none, data := .fields #[] }) (nPt2 : K.lookup Pt2 = none) (hne : Pt ≠ Pt2)
    (D : DefsOk K) (Bt : BltOk K) (tL : LetOk K w) (tB : BndOk K w) (tI : LimOk K) {tM : Tok} (mM : PySem.W.nsIn K mainGlobals "MOST_STEPS" = some (some (.int 4 tM))) (tGi : GivOk K w) {nh : Addr} (mNh : PySem.W.nsIn K mainGlobals "NOTHING_HELD" = some (some (.ref nh))) (tNh : TupV K nh [.int 0, .int 0]) {tMn : Tok} (mMn : PySem.W.nsIn K mainGlobals "MOST_NUMBERS" = some (some (.int 60 tMn))) {tGr : Tok} (mGr : PySem.W.nsIn K mainGlobals "GREATEST" = some (some (.int big tGr))) (tF : FeedOk K) (cl : ClsOk K)
    {f c : Addr} {oc kV doc pm ct : Value} {an od : Option Addr} {osl : Array (Option Value)} (aF : PySem.W.nsIn K mainGlobals "law" = some (some (.ref f)))
    (lF : K.lookup f = some ⟨oc, od, .func (PySem.W.fnOf "law" "law" (defArgs sLaw) (defBody sLaw) (defScope sLaw) .none kV doc pm an (.ref c) ct), osl⟩) (cF : PySem.W.codeIn K (.ref c) "law" = true) (hF : PySem.W.codeHdIn K c Pt = true)
    {f' c' : Addr} {oc' kV' doc' pm' ct' : Value} {an' od' : Option Addr} {osl' : Array (Option Value)} (aR : PySem.W.nsIn K mainGlobals "_law_right_feeds" = some (some (.ref f')))
    (lR : K.lookup f' = some ⟨oc', od', .func (PySem.W.fnOf "_law_right_feeds" "_law_right_feeds" (defArgs sRightF) (defBody sRightF) (defScope sRightF) .none kV' doc' pm' an' (.ref c') ct'), osl'⟩) (cR : PySem.W.codeIn K (.ref c') "_law_right_feeds" = true) (kR : PySem.W.keepIn K (.ref f') = true) (hR : PySem.W.codeHdIn K c' Pt2 = true) :
    LamX.LawAtS l w K CX0 12 63 "_law_script" mg fa h := by
  have e := hfa.symm.trans (PySem.W.mg_of X G aF)
  cases e
  have two : ∀ (A : Addr × Addr → Prop), A (c, Pt) → A (c', Pt2) → ∀ p ∈ [(c, Pt), (c', Pt2)], A p := fun A h1 h2 p hp => by
    simp only [List.mem_cons, List.mem_nil_iff, or_false] at hp
    rcases hp with z | z
    · rw [z]; exact h1
    · rw [z]; exact h2
  refine ⟨PySem.W.fnOf "law" "law" (defArgs sLaw) (defBody sLaw) (defScope sLaw) .none kV doc pm an (.ref c) ct, [(c, Pt), (c', Pt2)], spLaw K Pt Pt2, two _ hPt hPt2, two _ nPt nPt2, two _ (PySem.W.codeHd_of_K X hF) (PySem.W.codeHd_of_K X hR), fun s u => .of_eq rfl,
    fun H a ns hl _ hT hS => ⟨a, ns, rfl, hS, hl, hT (c, Pt) List.mem_cons_self, hT (c', Pt2) (List.mem_cons_of_mem _ List.mem_cons_self), fun _ => rfl⟩, fun base _ _ hTB => ?_⟩
  have TB : LamX.TabB base mg c Pt := hTB _ (List.mem_cons_self (a := (c, Pt)))
  have TB2 : LamX.TabB base mg c' Pt2 := hTB _ (List.mem_cons_of_mem (c, Pt) (List.mem_cons_self (a := (c', Pt2))))
  have T : Blt mg := ⟨PySem.W.mg_none_of X G Bt.n0, PySem.W.mg_none_of X G Bt.n1, PySem.W.mg_none_of X G Bt.n2, PySem.W.mg_none_of X G Bt.n3, PySem.W.mg_none_of X G Bt.n4, PySem.W.mg_none_of X G Bt.n5, PySem.W.mg_none_of X G Bt.n6, PySem.W.mg_none_of X G Bt.n7, PySem.W.mg_none_of X G Bt.n8, PySem.W.mg_none_of X G Bt.n9, PySem.W.mg_none_of X G Bt.n10, PySem.W.mg_none_of X G Bt.n11, PySem.W.mg_none_of X G Bt.n12⟩
  have T2 : Blt2 mg := ⟨PySem.W.mg_none_of X G Bt.n13, PySem.W.mg_none_of X G Bt.n14⟩
  obtain ⟨fIC, fdIC, aIC, FIC⟩ := D.d0
  have mIC := PySem.W.mg_of X G aIC
  obtain ⟨fCK, fdCK, aCK, FCK⟩ := D.d1
  have mCK := PySem.W.mg_of X G aCK
  obtain ⟨fIW, fdIW, aIW, FIW⟩ := D.d2
  have mIW := PySem.W.mg_of X G aIW
  obtain ⟨fIS, fdIS, aIS, FIS⟩ := D.d3
  have mIS := PySem.W.mg_of X G aIS
  obtain ⟨fWI, fdWI, aWI, FWI⟩ := D.d4
  have mWI := PySem.W.mg_of X G aWI
  obtain ⟨fKL, fdKL, aKL, FKL⟩ := D.d5
  have mKL := PySem.W.mg_of X G aKL
  obtain ⟨fIN, fdIN, aIN, FIN⟩ := D.d6
  have mIN := PySem.W.mg_of X G aIN
  obtain ⟨fGLine, fdGLine, aGLine, FGLine⟩ := D.d7
  have mGLine := PySem.W.mg_of X G aGLine
  obtain ⟨fGTurn, fdGTurn, aGTurn, FGTurn⟩ := D.d8
  have mGTurn := PySem.W.mg_of X G aGTurn
  obtain ⟨fGKeep, fdGKeep, aGKeep, FGKeep⟩ := D.d9
  have mGKeep := PySem.W.mg_of X G aGKeep
  obtain ⟨fGEvery, fdGEvery, aGEvery, FGEvery⟩ := D.d10
  have mGEvery := PySem.W.mg_of X G aGEvery
  obtain ⟨fGTwice, fdGTwice, aGTwice, FGTwice⟩ := D.d11
  have mGTwice := PySem.W.mg_of X G aGTwice
  obtain ⟨fGSums, fdGSums, aGSums, FGSums⟩ := D.d12
  have mGSums := PySem.W.mg_of X G aGSums
  obtain ⟨fGAnew, fdGAnew, aGAnew, FGAnew⟩ := D.d13
  have mGAnew := PySem.W.mg_of X G aGAnew
  obtain ⟨fGGaps, fdGGaps, aGGaps, FGGaps⟩ := D.d14
  have mGGaps := PySem.W.mg_of X G aGGaps
  obtain ⟨fGGroups, fdGGroups, aGGroups, FGGroups⟩ := D.d15
  have mGGroups := PySem.W.mg_of X G aGGroups
  obtain ⟨fGCount, fdGCount, aGCount, FGCount⟩ := D.d16
  have mGCount := PySem.W.mg_of X G aGCount
  obtain ⟨fPT, fdPT, aPT, FPT⟩ := D.d17
  have mPT := PySem.W.mg_of X G aPT
  obtain ⟨fSA, fdSA, aSA, FSA⟩ := D.d18
  have mSA := PySem.W.mg_of X G aSA
  obtain ⟨fAD, fdAD, aAD, FAD⟩ := D.d19
  have mAD := PySem.W.mg_of X G aAD
  obtain ⟨fCE_, fdCE_, aCE_, FCE_⟩ := D.d20
  have mCE_ := PySem.W.mg_of X G aCE_
  obtain ⟨fDR, fdDR, aDR, FDR⟩ := D.d21
  have mDR := PySem.W.mg_of X G aDR
  obtain ⟨fRO, fdRO, aRO, FRO⟩ := D.d22
  have mRO := PySem.W.mg_of X G aRO
  obtain ⟨fRN, fdRN, aRN, FRN⟩ := D.d23
  have mRN := PySem.W.mg_of X G aRN
  obtain ⟨fTE, fdTE, aTE, FTE⟩ := D.d24
  have mTE := PySem.W.mg_of X G aTE
  obtain ⟨fTO, fdTO, aTO, FTO⟩ := D.d25
  have mTO := PySem.W.mg_of X G aTO
  obtain ⟨fRE, fdRE, aRE, FRE⟩ := D.d26
  have mRE := PySem.W.mg_of X G aRE
  obtain ⟨fSP, fdSP, aSP, FSP⟩ := D.d27
  have mSP := PySem.W.mg_of X G aSP
  obtain ⟨fCH, fdCH, aCH, FCH⟩ := D.d28
  have mCH := PySem.W.mg_of X G aCH
  obtain ⟨fTH, fdTH, aTH, FTH⟩ := D.d29
  have mTH := PySem.W.mg_of X G aTH
  obtain ⟨fGI, fdGI, aGI, FGI⟩ := D.d30
  have mGI := PySem.W.mg_of X G aGI
  obtain ⟨fLR, fdLR, aLR, FLR⟩ := D.d31
  have mLR := PySem.W.mg_of X G aLR
  obtain ⟨dL, gL, tL⟩ := tL
  obtain ⟨dB, gB, tB⟩ := tB
  obtain ⟨dI, gI, tI⟩ := tI
  obtain ⟨c0, c1, c2, c3, c4, c5, CE, g0, g1, g2, g3, g4, g5, gE, one0, em0, one2, em2, one4, em4, one5, em5, q0, q2, q4, q5⟩ := cl
  have x0 : ExcT K mg "InvalidChain" c0 := ⟨PySem.W.mg_of X G g0, q0.1, q0.2.1, q0.2.2.1, q0.2.2.2⟩
  have x2 : ExcT K mg "InvalidNumber" c2 := ⟨PySem.W.mg_of X G g2, q2.1, q2.2.1, q2.2.2.1, q2.2.2.2⟩
  have x4 : ExcT K mg "TooMany" c4 := ⟨PySem.W.mg_of X G g4, q4.1, q4.2.1, q4.2.2.1, q4.2.2.2⟩
  have x5 : ExcT K mg "NothingToUndo" c5 := ⟨PySem.W.mg_of X G g5, q5.1, q5.2.1, q5.2.2.1, q5.2.2.2⟩
  have six : SixT mg c0 c1 c2 c3 c4 c5 := ⟨PySem.W.mg_of X G g0, PySem.W.mg_of X G g1, PySem.W.mg_of X G g2, PySem.W.mg_of X G g3, PySem.W.mg_of X G g4, PySem.W.mg_of X G g5⟩
  obtain ⟨C, kF, ⟨f_init, fd_init, F_init, M_init⟩, ⟨f_put, fd_put, F_put, M_put⟩, ⟨f_undo, fd_undo, F_undo, M_undo⟩, ⟨f_redo, fd_redo, F_redo, M_redo⟩, ⟨f_row, fd_row, F_row, M_row⟩, ⟨f_given, fd_given, F_given, M_given⟩, ⟨f_take, fd_take, F_take, M_take⟩, ⟨f_eq, fd_eq, F_eq, M_eq⟩, ⟨f_len, fd_len, F_len, M_len⟩, eqf, nf⟩ := tF
  have FT : FdT K mg C := ⟨⟨kF.pg, kF.hd, kF.po, kF.sa⟩, kF.nc, kF.nn, kF.na, kF.ns, kF.nu, PySem.W.mg_of X G kF.g⟩
  obtain ⟨dGi, gGi, kGi, ⟨p0, u0, v0⟩, ⟨p1, u1, v1⟩, ⟨p2, u2, v2⟩, ⟨p3, u3, v3⟩, ⟨p4, u4, v4⟩, ⟨p5, u5, v5⟩, ⟨p6, u6, v6⟩, ⟨p7, u7, v7⟩, ⟨p8, u8, v8⟩, ⟨p9, u9, v9⟩⟩ := tGi
  have tGi : GivT l.prog w K mg base dGi := ⟨kGi, fun p => by
    cases p <;> first
      | exact ⟨p0, u0, heldOf aGLine v0 FGLine (ok_gvLine FGLine) (fun _ _ _ _ _ _ us hl => match us, hl with | [_, _, _], _ => rfl)⟩
      | exact ⟨p1, u1, heldOf aGTurn v1 FGTurn (ok_gvTurn FGTurn) (fun _ _ _ _ _ _ us hl => match us, hl with | [_, _, _], _ => rfl)⟩
      | exact ⟨p2, u2, heldOf aGKeep v2 FGKeep (ok_gvKeep FGKeep) (fun _ _ _ _ _ _ us hl => match us, hl with | [_, _, _], _ => rfl)⟩
      | exact ⟨p3, u3, heldOf aGEvery v3 FGEvery (ok_gvEvery FGEvery) (fun _ _ _ _ _ _ us hl => match us, hl with | [_, _, _], _ => rfl)⟩
      | exact ⟨p4, u4, heldOf aGTwice v4 FGTwice (ok_gvTwice FGTwice) (fun _ _ _ _ _ _ us hl => match us, hl with | [_, _, _], _ => rfl)⟩
      | exact ⟨p5, u5, heldOf aGSums v5 FGSums (ok_gvSums FGSums) (fun _ _ _ _ _ _ us hl => match us, hl with | [_, _, _], _ => rfl)⟩
      | exact ⟨p6, u6, heldOf aGAnew v6 FGAnew (ok_gvAnew FGAnew) (fun _ _ _ _ _ _ us hl => match us, hl with | [_, _, _], _ => rfl)⟩
      | exact ⟨p7, u7, heldOf aGGaps v7 FGGaps (ok_gvGaps FGGaps) (fun _ _ _ _ _ _ us hl => match us, hl with | [_, _, _], _ => rfl)⟩
      | exact ⟨p8, u8, heldOf aGGroups v8 FGGroups (ok_gvGroups FGGroups (PySem.W.mg_of X G mNh) tNh.sq) (fun _ _ _ _ _ _ us hl => match us, hl with | [_, _, _], _ => rfl)⟩
      | exact ⟨p9, u9, heldOf aGCount v9 FGCount (ok_gvCount FGCount) (fun _ _ _ _ _ _ us hl => match us, hl with | [_, _, _], _ => rfl)⟩⟩
  have CIW := calOf (P := l.prog) (w := w) (base := base) mIW FIW (ok_isWhole FIW T) (fun _ _ _ _ _ _ us hl => match us, hl with | [_], _ => rfl)
  have CWI := calOf (P := l.prog) (w := w) (base := base) mWI FWI (ok_within FWI T CIW (PySem.W.mg_of X G gB) tB) (fun _ _ _ _ _ _ us hl => match us, hl with | [_, _], _ => rfl)
  have CIS := calOf (P := l.prog) (w := w) (base := base) mIS FIS (ok_isStep FIS T CWI (PySem.W.mg_of X G gL) tL) (fun _ _ _ _ _ _ us hl => match us, hl with | [_], _ => rfl)
  have CKL := calOf (P := l.prog) (w := w) (base := base) mKL FKL (ok_limits FKL T (PySem.W.mg_of X G gI) tI) (fun _ _ _ _ _ _ us hl => match us, hl with | [_], _ => rfl)
  have CIC := calOf (P := l.prog) (w := w) (base := base) mIC FIC (ok_isChain FIC T CIS CKL (PySem.W.mg_of X G mM)) (fun _ _ _ _ _ _ us hl => match us, hl with | [_], _ => rfl)
  have CCK := calOf (P := l.prog) (w := w) (base := base) mCK FCK (ok_check FCK CIC x0) (fun _ _ _ _ _ _ us hl => match us, hl with | [_], _ => rfl)
  have CIN := calOf (P := l.prog) (w := w) (base := base) mIN FIN (ok_isNumber FIN CIW (PySem.W.mg_of X G mGr)) (fun _ _ _ _ _ _ us hl => match us, hl with | [_], _ => rfl)
  have CPT := calOf (P := l.prog) (w := w) (base := base) mPT FPT (ok_passT FPT (PySem.W.mg_of X G gGi) tGi) (fun _ _ _ _ _ _ us hl => match us, hl with | [_, _, _], _ => rfl)
  have CSA := calOf (P := l.prog) (w := w) (base := base) mSA FSA (ok_startP FSA T (PySem.W.mg_of X G mNh) tNh.sq) (fun _ _ _ _ _ _ us hl => match us, hl with | [_], _ => rfl)
  have CAD := calOf (P := l.prog) (w := w) (base := base) mAD FAD (ok_advance FAD T CPT) (fun _ _ _ _ _ _ us hl => match us, hl with | [_, _, _], _ => rfl)
  have CCE_ := calOf (P := l.prog) (w := w) (base := base) mCE_ FCE_ (ok_cell FCE_ T) (fun _ _ _ _ _ _ us hl => match us, hl with | [_, _], _ => rfl)
  have CDR := calOf (P := l.prog) (w := w) (base := base) mDR FDR (ok_drawn FDR) (fun _ _ _ _ _ _ us hl => match us, hl with | [_, _], _ => rfl)
  have CRO := calOf (P := l.prog) (w := w) (base := base) mRO FRO (ok_roll FRO CDR) (fun _ _ _ _ _ _ us hl => match us, hl with | [_, _], _ => rfl)
  have CRE := calOf (P := l.prog) (w := w) (base := base) mRE FRE (ok_rest FRE CRO) (fun _ _ _ _ _ _ us hl => match us, hl with | [_], _ => rfl)
  have CRN := calOf (P := l.prog) (w := w) (base := base) mRN FRN (ok_rounds2 FRN T CCE_) (fun _ _ _ _ _ _ us hl => match us, hl with | [_, _], _ => rfl)
  have CSP := calOf (P := l.prog) (w := w) (base := base) mSP FSP (ok_step FSP CRO CRE) (fun _ _ _ _ _ _ us hl => match us, hl with | [_], _ => rfl)
  have CCH := calOf (P := l.prog) (w := w) (base := base) mCH FCH (ok_chain2 FCH T CRO CSP CIC) (fun _ _ _ _ _ _ us hl => match us, hl with | [_, _], _ => rfl)
  have CTH := calOf (P := l.prog) (w := w) (base := base) mTH FTH (ok_through FTH T T2) (fun _ _ _ _ _ _ us hl => match us, hl with | [_, _], _ => rfl)
  have CGI := calOf (P := l.prog) (w := w) (base := base) mGI FGI (ok_given FGI T T2 CTH) (fun _ _ _ _ _ _ us hl => match us, hl with | [_, _], _ => rfl)
  have CLR := calOf (P := l.prog) (w := w) (base := base) mLR FLR (ok_runL FLR CGI) (fun _ _ _ _ _ _ us hl => match us, hl with | [_, _], _ => rfl)
  have G_take : FnOk l.prog w K mg base CX0 4 f_take fd_take ["self", "number"] (spTake K C) := ok_take F_take FT CSA CAD
  have b_take := F_take.binds (ps := ["self", "number"]) (fun _ _ _ _ _ _ us hl => match us, hl with | [_, _], _ => rfl)
  have MK : MkCal l.prog w K mg base (L2N.CX l.prog w) 6 C "Feed" ["self", "chain"] (spInitF K C c0) := ⟨f_init, fd_init, ok_initF F_init FT CCK, ⟨kF.mki, M_init.at_, M_init.fn, kF.kc⟩, PySem.W.mg_of X G kF.g, F_init.binds (fun _ _ _ _ _ _ us hl => match us, hl with | [_, _], _ => rfl)⟩
  have MC_put := mcalOf (P := l.prog) (w := w) (base := base) F_put M_put (ok_put F_put FT T CIN (PySem.W.mg_of X G mMn) G_take b_take M_take x2 x4) (fun _ _ _ _ _ _ us hl => match us, hl with | [_, _], _ => rfl)
  have MC_undo := mcalOf (P := l.prog) (w := w) (base := base) F_undo M_undo (ok_undo F_undo FT x5) (fun _ _ _ _ _ _ us hl => match us, hl with | [_], _ => rfl)
  have MC_redo := mcalOf (P := l.prog) (w := w) (base := base) F_redo M_redo (ok_redo F_redo FT x5 G_take b_take M_take) (fun _ _ _ _ _ _ us hl => match us, hl with | [_], _ => rfl)
  have MC_row := mcalOf (P := l.prog) (w := w) (base := base) F_row M_row (ok_rowF F_row FT T) (fun _ _ _ _ _ _ us hl => match us, hl with | [_], _ => rfl)
  have MC_given := mcalOf (P := l.prog) (w := w) (base := base) F_given M_given (ok_givF F_given FT T) (fun _ _ _ _ _ _ us hl => match us, hl with | [_], _ => rfl)
  have b_eq := F_eq.binds (ps := ["self", "other"]) (fun _ _ _ _ _ _ us hl => match us, hl with | [_, _], _ => rfl)
  have b_len := F_len.binds (ps := ["self"]) (fun _ _ _ _ _ _ us hl => match us, hl with | [_], _ => rfl)
  have LF : LibF l.prog w K mg base fTO fTE CE c0 c1 c2 c3 c4 c5 C f_len f_eq fdTO fdTE fd_len fd_eq := ⟨T, MK, MC_put, MC_row, MC_given, FT, ok_lenF F_len FT T, M_len.at_, M_len.fn, b_len, ok_eqF F_eq FT T eqf, M_eq.at_, M_eq.fn, b_eq, nf, FTO, FTO.binds (fun _ _ _ _ _ _ us hl => match us, hl with | [_], _ => rfl), mTO, ok_term FTE T six, mTE, FTE.kp, FTE.binds (fun _ _ _ _ _ _ us hl => match us, hl with | [_], _ => rfl), PySem.W.mg_of X G gE, one0, em0, one4, em4⟩
  have hTm : (Pt2, qR) ∈ [(Pt, qL), (Pt2, qR)] := List.mem_cons_of_mem _ List.mem_cons_self
  have hTu : ∀ p ∈ [(Pt, qL), (Pt2, qR)], p.1 = Pt2 → p.2 = qR := fun p hp e => by
    simp only [List.mem_cons, List.mem_nil_iff, or_false] at hp
    rcases hp with z | z
    · rw [z] at e
      exact absurd e hne
    · rw [z]
  have CR := calOf (P := l.prog) (w := w) (base := base) (PySem.W.mg_of X G aR) (fun_mk (st := sRightF) lR cR kR) (ok_rightF (TT := [(Pt, qL), (Pt2, qR)]) LF TB2 hTm hTu lR cR) (fun _ _ _ _ _ _ us hl => match us, hl with | [_, _, _], _ => rfl)
  have L : Lib11 l.prog w K mg base fTO fTE CE c0 c1 c2 c3 c4 c5 C f_len f_eq fdTO fdTE fd_len fd_eq [(Pt, qL), (Pt2, qR)] := ⟨LF, CRN, CCH, CRO, CGI, CLR, MC_undo, MC_redo, CR, one2, em2, one5, em5⟩
  exact ok_law rfl hne L TB lF cF
end FC
open PySem PySem.W PyProof.Rows
set_option Elab.async false
set_option maxRecDepth 100000 in
set_option maxHeartbeats 0 in
theorem PySem.Challenge.cw_foldchains_k11_whole_feeds_holds : PySem.Challenge.rw_foldchains_k11_whole_feeds.Holds := by
  w_on; o_law; k_head; (case hw => w_witness2)
  k_fill
  refine LamX.walk_ofTs (l := PySem.Challenge.rw_foldchains_k11_whole_feeds) (n := 63) (k := 12) (x := "_law_script") (CX := fun _ => L2.CX0) rfl (by decide) rfl ⟨rfl, by decide, by decide⟩ (fun w h Y => PySem.W.km_in_of Y) ?F (fun _ _ _ _ _ z => z)
  case F =>
    intro w mg fa h Y KX G hmg
    refine' FC.look (Pt := 420) (Pt2 := 413) KX G hmg (PySem.W.km_tabs_of Y 420 (by decide)) ?znPt (PySem.W.km_tabs_of Y 413 (by decide)) ?znPt2 (by decide) (FC.DefsOk.mk ?zd0 ?zd1 ?zd2 ?zd3 ?zd4 ?zd5 ?zd6 ?zd7 ?zd8 ?zd9 ?zd10 ?zd11 ?zd12 ?zd13 ?zd14 ?zd15 ?zd16 ?zd17 ?zd18 ?zd19 ?zd20 ?zd21 ?zd22 ?zd23 ?zd24 ?zd25 ?zd26 ?zd27 ?zd28 ?zd29 ?zd30 ?zd31) (FC.BltOk.mk ?zn0 ?zn1 ?zn2 ?zn3 ?zn4 ?zn5 ?zn6 ?zn7 ?zn8 ?zn9 ?zn10 ?zn11 ?zn12 ?zn13 ?zn14) ?ztL ?ztB ?ztI ?zmM ?ztGi ?zmNh ?ztNh ?zmMn ?zmGr ?ztF ?zcl ?zaF ?zlF ?zcF ?zhF ?zaR ?zlR ?zcR ?zkR ?zhR
    (case znPt => kernel_rfl)
    (case znPt2 => kernel_rfl)
    (case zd0 => (refine' FC.defOk ?za ?zl ?zc ?zk; (case za => k_is); (case zl => k_is); (case zc => k_is); (case zk => k_is)))
    (case zd1 => (refine' FC.defOk ?za ?zl ?zc ?zk; (case za => k_is); (case zl => k_is); (case zc => k_is); (case zk => k_is)))
    (case zd2 => (refine' FC.defOk ?za ?zl ?zc ?zk; (case za => k_is); (case zl => k_is); (case zc => k_is); (case zk => k_is)))
    (case zd3 => (refine' FC.defOk ?za ?zl ?zc ?zk; (case za => k_is); (case zl => k_is); (case zc => k_is); (case zk => k_is)))
    (case zd4 => (refine' FC.defOk ?za ?zl ?zc ?zk; (case za => k_is); (case zl => k_is); (case zc => k_is); (case zk => k_is)))
    (case zd5 => (refine' FC.defOk ?za ?zl ?zc ?zk; (case za => k_is); (case zl => k_is); (case zc => k_is); (case zk => k_is)))
    (case zd6 => (refine' FC.defOk ?za ?zl ?zc ?zk; (case za => k_is); (case zl => k_is); (case zc => k_is); (case zk => k_is)))
    (case zd7 => (refine' FC.defOk ?za ?zl ?zc ?zk; (case za => k_is); (case zl => k_is); (case zc => k_is); (case zk => k_is)))
    (case zd8 => (refine' FC.defOk ?za ?zl ?zc ?zk; (case za => k_is); (case zl => k_is); (case zc => k_is); (case zk => k_is)))
    (case zd9 => (refine' FC.defOk ?za ?zl ?zc ?zk; (case za => k_is); (case zl => k_is); (case zc => k_is); (case zk => k_is)))
    (case zd10 => (refine' FC.defOk ?za ?zl ?zc ?zk; (case za => k_is); (case zl => k_is); (case zc => k_is); (case zk => k_is)))
    (case zd11 => (refine' FC.defOk ?za ?zl ?zc ?zk; (case za => k_is); (case zl => k_is); (case zc => k_is); (case zk => k_is)))
    (case zd12 => (refine' FC.defOk ?za ?zl ?zc ?zk; (case za => k_is); (case zl => k_is); (case zc => k_is); (case zk => k_is)))
    (case zd13 => (refine' FC.defOk ?za ?zl ?zc ?zk; (case za => k_is); (case zl => k_is); (case zc => k_is); (case zk => k_is)))
    (case zd14 => (refine' FC.defOk ?za ?zl ?zc ?zk; (case za => k_is); (case zl => k_is); (case zc => k_is); (case zk => k_is)))
    (case zd15 => (refine' FC.defOk ?za ?zl ?zc ?zk; (case za => k_is); (case zl => k_is); (case zc => k_is); (case zk => k_is)))
    (case zd16 => (refine' FC.defOk ?za ?zl ?zc ?zk; (case za => k_is); (case zl => k_is); (case zc => k_is); (case zk => k_is)))
    (case zd17 => (refine' FC.defOk ?za ?zl ?zc ?zk; (case za => k_is); (case zl => k_is); (case zc => k_is); (case zk => k_is)))
    (case zd18 => (refine' FC.defOk ?za ?zl ?zc ?zk; (case za => k_is); (case zl => k_is); (case zc => k_is); (case zk => k_is)))
    (case zd19 => (refine' FC.defOk ?za ?zl ?zc ?zk; (case za => k_is); (case zl => k_is); (case zc => k_is); (case zk => k_is)))
    (case zd20 => (refine' FC.defOk ?za ?zl ?zc ?zk; (case za => k_is); (case zl => k_is); (case zc => k_is); (case zk => k_is)))
    (case zd21 => (refine' FC.defOk ?za ?zl ?zc ?zk; (case za => k_is); (case zl => k_is); (case zc => k_is); (case zk => k_is)))
    (case zd22 => (refine' FC.defOk ?za ?zl ?zc ?zk; (case za => k_is); (case zl => k_is); (case zc => k_is); (case zk => k_is)))
    (case zd23 => (refine' FC.defOk ?za ?zl ?zc ?zk; (case za => k_is); (case zl => k_is); (case zc => k_is); (case zk => k_is)))
    (case zd24 => (refine' FC.defOk ?za ?zl ?zc ?zk; (case za => k_is); (case zl => k_is); (case zc => k_is); (case zk => k_is)))
    (case zd25 => (refine' FC.defOk ?za ?zl ?zc ?zk; (case za => k_is); (case zl => k_is); (case zc => k_is); (case zk => k_is)))
    (case zd26 => (refine' FC.defOk ?za ?zl ?zc ?zk; (case za => k_is); (case zl => k_is); (case zc => k_is); (case zk => k_is)))
    (case zd27 => (refine' FC.defOk ?za ?zl ?zc ?zk; (case za => k_is); (case zl => k_is); (case zc => k_is); (case zk => k_is)))
    (case zd28 => (refine' FC.defOk ?za ?zl ?zc ?zk; (case za => k_is); (case zl => k_is); (case zc => k_is); (case zk => k_is)))
    (case zd29 => (refine' FC.defOk ?za ?zl ?zc ?zk; (case za => k_is); (case zl => k_is); (case zc => k_is); (case zk => k_is)))
    (case zd30 => (refine' FC.defOk ?za ?zl ?zc ?zk; (case za => k_is); (case zl => k_is); (case zc => k_is); (case zk => k_is)))
    (case zd31 => (refine' FC.defOk ?za ?zl ?zc ?zk; (case za => k_is); (case zl => k_is); (case zc => k_is); (case zk => k_is)))
    (case zn0 => k_is)
    (case zn1 => k_is)
    (case zn2 => k_is)
    (case zn3 => k_is)
    (case zn4 => k_is)
    (case zn5 => k_is)
    (case zn6 => k_is)
    (case zn7 => k_is)
    (case zn8 => k_is)
    (case zn9 => k_is)
    (case zn10 => k_is)
    (case zn11 => k_is)
    (case zn12 => k_is)
    (case zn13 => k_is)
    (case zn14 => k_is)
    case ztL =>
      refine' FC.letOk ?zg ?zh ?zlow ?zh0 ?zh1 ?zh2 ?zh3 ?zh4 ?zh5 ?zh6 ?zh7 ?zh8 ?zh9
      (case zg => k_is); (case zh => k_is); (case zlow => rfl)
      (case zh0 => (refine' FC.tup2 ?zl ?zr0 ?zr1; (case zl => k_is); (case zr0 => exact ⟨_, rfl⟩); (case zr1 => exact ⟨_, rfl⟩)))
      (case zh1 => (refine' FC.tup4 ?zl ?zr0 ?zr1 ?zr2 ?zr3; (case zl => k_is); (case zr0 => exact ⟨_, rfl⟩); (case zr1 => exact ⟨_, rfl⟩); (case zr2 => exact ⟨_, rfl⟩); (case zr3 => exact ⟨_, rfl⟩)))
      (case zh2 => (refine' FC.tup2 ?zl ?zr0 ?zr1; (case zl => k_is); (case zr0 => exact ⟨_, rfl⟩); (case zr1 => exact ⟨_, rfl⟩)))
      (case zh3 => (refine' FC.tup2 ?zl ?zr0 ?zr1; (case zl => k_is); (case zr0 => exact ⟨_, rfl⟩); (case zr1 => exact ⟨_, rfl⟩)))
      (case zh4 => (refine' FC.tup0 ?zl; (case zl => k_is)))
      (case zh5 => (refine' FC.tup0 ?zl; (case zl => k_is)))
      (case zh6 => (refine' FC.tup2 ?zl ?zr0 ?zr1; (case zl => k_is); (case zr0 => exact ⟨_, rfl⟩); (case zr1 => exact ⟨_, rfl⟩)))
      (case zh7 => (refine' FC.tup0 ?zl; (case zl => k_is)))
      (case zh8 => (refine' FC.tup1 ?zl ?zr0; (case zl => k_is); (case zr0 => exact ⟨_, rfl⟩)))
      (case zh9 => (refine' FC.tup0 ?zl; (case zl => k_is)))
    case ztB =>
      refine' FC.bndOk ?zg ?zh ?zlow ?zh0 ?zh1 ?zh2 ?zh3
      (case zg => k_is); (case zh => k_is); (case zlow => rfl)
      (case zh0 => (refine' FC.tup2 ?zl ?zr0 ?zr1; (case zl => k_is); (case zr0 => exact ⟨_, rfl⟩); (case zr1 => exact ⟨_, rfl⟩)))
      (case zh1 => (refine' FC.tup2 ?zl ?zr0 ?zr1; (case zl => k_is); (case zr0 => exact ⟨_, rfl⟩); (case zr1 => exact ⟨_, rfl⟩)))
      (case zh2 => (refine' FC.tup2 ?zl ?zr0 ?zr1; (case zl => k_is); (case zr0 => exact ⟨_, rfl⟩); (case zr1 => exact ⟨_, rfl⟩)))
      (case zh3 => (refine' FC.tup2 ?zl ?zr0 ?zr1; (case zl => k_is); (case zr0 => exact ⟨_, rfl⟩); (case zr1 => exact ⟨_, rfl⟩)))
    case ztI =>
      refine' FC.limOk_ ?zg ?zh ?zh0 ?zk0 ?zh1 ?zk1 ?zh2 ?zk2
      (case zg => k_is)
      (case zh => (refine' FC.tup3 ?zl ?zr0 ?zr1 ?zr2; (case zl => k_is); (case zr0 => exact rfl); (case zr1 => exact rfl); (case zr2 => exact rfl)))
      (case zh0 => (refine' FC.tup2 ?zl ?zr0 ?zr1; (case zl => k_is); (case zr0 => exact ⟨_, rfl⟩); (case zr1 => exact rfl)))
      (case zk0 => (refine' FC.tup5 ?zl ?zr0 ?zr1 ?zr2 ?zr3 ?zr4; (case zl => k_is); (case zr0 => exact ⟨_, rfl⟩); (case zr1 => exact ⟨_, rfl⟩); (case zr2 => exact ⟨_, rfl⟩); (case zr3 => exact ⟨_, rfl⟩); (case zr4 => exact ⟨_, rfl⟩)))
      (case zh1 => (refine' FC.tup2 ?zl ?zr0 ?zr1; (case zl => k_is); (case zr0 => exact ⟨_, rfl⟩); (case zr1 => exact rfl)))
      (case zk1 => (refine' FC.tup3 ?zl ?zr0 ?zr1 ?zr2; (case zl => k_is); (case zr0 => exact ⟨_, rfl⟩); (case zr1 => exact ⟨_, rfl⟩); (case zr2 => exact ⟨_, rfl⟩)))
      (case zh2 => (refine' FC.tup2 ?zl ?zr0 ?zr1; (case zl => k_is); (case zr0 => exact ⟨_, rfl⟩); (case zr1 => exact rfl)))
      (case zk2 => (refine' FC.tup1 ?zl ?zr0; (case zl => k_is); (case zr0 => exact ⟨_, rfl⟩)))
    (case zmM => k_is)
    case ztGi =>
      refine' FC.givOk ?zg ?zh ?zlow ?zh0 ?zh1 ?zh2 ?zh3 ?zh4 ?zh5 ?zh6 ?zh7 ?zh8 ?zh9
      (case zg => k_is); (case zh => k_is); (case zlow => rfl)
      (case zh0 => k_is)
      (case zh1 => k_is)
      (case zh2 => k_is)
      (case zh3 => k_is)
      (case zh4 => k_is)
      (case zh5 => k_is)
      (case zh6 => k_is)
      (case zh7 => k_is)
      (case zh8 => k_is)
      (case zh9 => k_is)
    (case zmNh => k_is)
    (case ztNh => (refine' FC.tup2 ?zl ?zr0 ?zr1; (case zl => k_is); (case zr0 => exact ⟨_, rfl⟩); (case zr1 => exact ⟨_, rfl⟩)))
    (case zmMn => k_is)
    (case zmGr => k_is)
    case ztF =>
      refine' ⟨_, ⟨?zg, ?zpg, ?zhd, ?zpo, ?zsa, ?znc, ?znn, ?zna, ?zns, ?znu, ?zmk, ?zkc⟩, ?zm_init, ?zm_put, ?zm_undo, ?zm_redo, ?zm_row, ?zm_given, ?zm_take, ?zm_eq, ?zm_len, ⟨?zq1, ?zq2, ?zq3, ?zq4, ?zq5, ?zq6⟩, ?znf⟩
      (case zg => k_is)
      (case zpg => k_is)
      (case zhd => k_is)
      (case zpo => k_is)
      (case zsa => k_is)
      (case znc => k_is)
      (case znn => k_is)
      (case zna => k_is)
      (case zns => k_is)
      (case znu => k_is)
      (case zmk => k_is)
      (case zkc => k_is)
      (case zm_init => (refine' FC.methOk ?za ?zi ?zl ?zc ?zk; (case za => k_is); (case zi => k_is); (case zl => k_is); (case zc => k_is); (case zk => k_is)))
      (case zm_put => (refine' FC.methOk ?za ?zi ?zl ?zc ?zk; (case za => k_is); (case zi => k_is); (case zl => k_is); (case zc => k_is); (case zk => k_is)))
      (case zm_undo => (refine' FC.methOk ?za ?zi ?zl ?zc ?zk; (case za => k_is); (case zi => k_is); (case zl => k_is); (case zc => k_is); (case zk => k_is)))
      (case zm_redo => (refine' FC.methOk ?za ?zi ?zl ?zc ?zk; (case za => k_is); (case zi => k_is); (case zl => k_is); (case zc => k_is); (case zk => k_is)))
      (case zm_row => (refine' FC.methOk ?za ?zi ?zl ?zc ?zk; (case za => k_is); (case zi => k_is); (case zl => k_is); (case zc => k_is); (case zk => k_is)))
      (case zm_given => (refine' FC.methOk ?za ?zi ?zl ?zc ?zk; (case za => k_is); (case zi => k_is); (case zl => k_is); (case zc => k_is); (case zk => k_is)))
      (case zm_take => (refine' FC.methOk ?za ?zi ?zl ?zc ?zk; (case za => k_is); (case zi => k_is); (case zl => k_is); (case zc => k_is); (case zk => k_is)))
      (case zm_eq => (refine' FC.methOk ?za ?zi ?zl ?zc ?zk; (case za => k_is); (case zi => k_is); (case zl => k_is); (case zc => k_is); (case zk => k_is)))
      (case zm_len => (refine' FC.methOk ?za ?zi ?zl ?zc ?zk; (case za => k_is); (case zi => k_is); (case zl => k_is); (case zc => k_is); (case zk => k_is)))
      (case zq1 => k_is)
      (case zq2 => k_is)
      (case zq3 => k_is)
      (case zq4 => k_is)
      (case zq5 => kernel_rfl)
      (case zq6 => kernel_rfl)
      (case znf => kernel_rfl)
    case zcl =>
      refine' FC.clsOk ?zg0 ?zg1 ?zg2 ?zg3 ?zg4 ?zg5 ?zgE ?zone0 ?zem0 ?zone2 ?zem2 ?zone4 ?zem4 ?zone5 ?zem5 ?zq0 ?zq2 ?zq4 ?zq5
      (case zg0 => k_is)
      (case zg1 => k_is)
      (case zg2 => k_is)
      (case zg3 => k_is)
      (case zg4 => k_is)
      (case zg5 => k_is)
      (case zgE => k_is)
      (case zone0 => exact ⟨by decide, ⟨by kernel_rfl, by kernel_rfl, by kernel_rfl, by kernel_rfl, by kernel_rfl, by kernel_rfl, by kernel_rfl, by kernel_rfl⟩, by kernel_rfl, by kernel_rfl, by kernel_rfl, by kernel_rfl, by kernel_rfl, by kernel_rfl, by kernel_rfl⟩)
      (case zem0 => kernel_rfl)
      (case zone2 => exact ⟨by decide, ⟨by kernel_rfl, by kernel_rfl, by kernel_rfl, by kernel_rfl, by kernel_rfl, by kernel_rfl, by kernel_rfl, by kernel_rfl⟩, by kernel_rfl, by kernel_rfl, by kernel_rfl, by kernel_rfl, by kernel_rfl, by kernel_rfl, by kernel_rfl⟩)
      (case zem2 => kernel_rfl)
      (case zone4 => exact ⟨by decide, ⟨by kernel_rfl, by kernel_rfl, by kernel_rfl, by kernel_rfl, by kernel_rfl, by kernel_rfl, by kernel_rfl, by kernel_rfl⟩, by kernel_rfl, by kernel_rfl, by kernel_rfl, by kernel_rfl, by kernel_rfl, by kernel_rfl, by kernel_rfl⟩)
      (case zem4 => kernel_rfl)
      (case zone5 => exact ⟨by decide, ⟨by kernel_rfl, by kernel_rfl, by kernel_rfl, by kernel_rfl, by kernel_rfl, by kernel_rfl, by kernel_rfl, by kernel_rfl⟩, by kernel_rfl, by kernel_rfl, by kernel_rfl, by kernel_rfl, by kernel_rfl, by kernel_rfl, by kernel_rfl⟩)
      (case zem5 => kernel_rfl)
      (case zq0 => exact ⟨by kernel_rfl, by kernel_rfl, by kernel_rfl, by kernel_rfl⟩)
      (case zq2 => exact ⟨by kernel_rfl, by kernel_rfl, by kernel_rfl, by kernel_rfl⟩)
      (case zq4 => exact ⟨by kernel_rfl, by kernel_rfl, by kernel_rfl, by kernel_rfl⟩)
      (case zq5 => exact ⟨by kernel_rfl, by kernel_rfl, by kernel_rfl, by kernel_rfl⟩)
    (case zaF => k_is); (case zlF => k_is); (case zcF => k_is); (case zhF => kernel_rfl)
    (case zaR => k_is); (case zlR => k_is); (case zcR => k_is); (case zkR => k_is); (case zhR => kernel_rfl)
